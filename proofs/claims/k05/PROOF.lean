import PyProof.Rows.All
import Wide.All
import OpenK.AllK
import Wide.FinOn
import Lean
import PyProof.EqAt
import PyProof.EqKinds
import PyProof.TupleCall
import PySem.Challenge.RW_linepress_k05_rows_known
set_option Elab.async false
set_option genSizeOfSpec false
set_option genInjectivity false
def PySem.W.Fast.tw8399069834977421061:=()
def PySem.W.Fast.tw8021827020574765438:=()
def PySem.W.Fast.tw2432488725492181109:=()
def PySem.W.Fast.tw17391529275282826880:=()
def PySem.W.Fast.tw11034982134532513170:=()
def PySem.W.Fast.tw13230899214423054532:=()
def PySem.W.Fast.tw1087202279402879684:=()
def PySem.W.Fast.tw14858564534357276804:=()
def PySem.W.Fast.tw17120001608577283218:=()
def PySem.W.Fast.tw6601982537183638701:=()
def PySem.W.Fast.tw6837773054475879573:=()
def PySem.W.Fast.tw11553628096350839235:=()
def PySem.W.Fast.tw18188044963110106645:=()
def PySem.W.Fast.tw7002559576846705280:=()
def PySem.W.Fast.tw15814932972996966537:=()
def PySem.W.Fast.tw15768676986356002845:=()
def PySem.W.Fast.tw2290059066572337380:=()
def PySem.W.Fast.tw13189631451838048283:=()
def PySem.W.Fast.tw1306389106266940665:=()
def PySem.W.Fast.tw13846545152059265145:=()
def PySem.W.Fast.tw5598314667795783663:=()
def PySem.W.Fast.tw10706473828109771819:=()
def PySem.W.Fast.tw16649541882676565828:=()
def PySem.W.Fast.tw16771031692179896356:=()
def PySem.W.Fast.tw14475784944367836391:=()
def PySem.W.Fast.tw7092414223557148309:=()
def PySem.W.Fast.tw13463843005462790207:=()
set_option linter.all false
set_option maxRecDepth 100000
set_option maxHeartbeats 1000000
namespace L2
open PySem PySem.Spec PyProof.Rows
abbrev Key:=Sum Int Str
abbrev _root_.tz9:=Str->Addr
abbrev _root_.tz0:=PySem.W.Frag
abbrev _root_.tzA:=Str->Option Value
abbrev _root_.tzB:=List (Addr×Obj)
def zd9:Key->Value->Bool
 | .inl k,v=>Value.isInt k v
 | .inr x,v=>Value.isStrOf x v
def zs8(w:World):Key->Int
 | .inl k=>hashInt k
 | .inr x=>hashStr w x
theorem eS:∀{k:Key} {v:Value},zd9 k v=true->(∃i t,k=Sum.inl i/\v=Value.int i t)\/(∃x t,k=Sum.inr x/\v=Value.str x t)
 | .inl i,v,h=>by
  obtain⟨t,e⟩:=Value.isInt_shape (k:=i) (v:=v) h
  exact .inl ⟨i,t,rfl,e⟩
 | .inr x,v,h=>by
  obtain⟨t,e⟩:=Value.isStrOf_shape (x:=x) (v:=v) h
  exact .inr ⟨x,t,rfl,e⟩
theorem zi5(a b:Int):decide ((Sum.inl a:Key)=Sum.inl b)=(a==b):=by
 by_cases e:a=b
 ·subst e;simp
 ·have h:¬(Sum.inl a:Key)=Sum.inl b:=fun q=>e (Sum.inl.inj q)
  rw [decide_eq_false h]
  exact(beq_eq_false_iff_ne.mpr e).symm
theorem zi6(a b:Str):decide ((Sum.inr a:Key)=Sum.inr b)=decide (a=b):=by
 by_cases e:a=b
 ·subst e;simp
 ·have h:¬(Sum.inr a:Key)=Sum.inr b:=fun q=>e (Sum.inr.inj q)
  rw [decide_eq_false h,decide_eq_false e]
theorem zi7(a:Int)(b:Str):decide ((Sum.inl a:Key)=Sum.inr b)=false:=decide_eq_false (fun q=>nomatch q)
theorem zi8(a:Str)(b:Int):decide ((Sum.inr a:Key)=Sum.inl b)=false:=decide_eq_false (fun q=>nomatch q)
def rJ(prog:Program)(w:World):PySem.KeyKind prog w Key where
 is:=zd9
 hash:=zs8 w
 inj:=fun v a b ha hb=>by
  rcases eS ha with ⟨i,t,rfl,rfl⟩|⟨x,t,rfl,rfl⟩
  ·rcases eS hb with ⟨j,u,rfl,e⟩|⟨y,u,rfl,e⟩
   ·injection e with e1 _;rw [e1]
   ·exact nomatch e
  ·rcases eS hb with ⟨j,u,rfl,e⟩|⟨y,u,rfl,e⟩
   ·exact nomatch e
   ·injection e with e1 _;rw [e1]
 byValue:=fun k v h=>by
  rcases eS h with ⟨i,t,rfl,rfl⟩|⟨x,t,rfl,rfl⟩<;>rfl
 pyHash:=fun hv h=>by
  rcases eS hv with ⟨i,t,rfl,rfl⟩|⟨x,t,rfl,rfl⟩
  ·exact wpAny_pyHash_int h
  ·exact wpAny_pyHash_str h
 eqBool:=fun hu hv h=>by
  rcases eS hu with ⟨i,t,rfl,rfl⟩|⟨x,t,rfl,rfl⟩
  ·rcases eS hv with ⟨j,u,rfl,rfl⟩|⟨y,u,rfl,rfl⟩
   ·rw [zi5] at h;exact wpAny_eqBool_int h
   ·rw [zi7] at h;exact SeqAt.EqAt.int_str i t y u _ _ _ _ h
  ·rcases eS hv with ⟨j,u,rfl,rfl⟩|⟨y,u,rfl,rfl⟩
   ·rw [zi8] at h;exact SeqAt.EqAt.str_int x t j u _ _ _ _ h
   ·rw [zi6] at h;exact wpAny_eqBool_str h
 «strs»:=fun k x t v h=>by
  rcases eS h with ⟨i,u,rfl,e⟩|⟨y,u,rfl,e⟩
  ·exact nomatch e
  ·injection e with e1 _
   subst e1
   cases v<;>rfl
set_option genInjectivity true in
inductive V where
 |non|bl (b:Bool)|int (i:Int)|str (x:Str)|byt (b:Array UInt8)|flt (b:UInt64)|ref (a:Addr)|ty (n:String)
 deriving DecidableEq
def cC:V->Value->Prop
 | .non,u=>u=Value.none
 | .bl b,u=>u=Value.bool b
 | .int i,u=>∃t,u=Value.int i t
 | .str x,u=>∃t,u=Value.str x t
 | .byt b,u=>∃t,u=Value.bytes b t
 | .flt b,u=>∃t,u=Value.float b t
 | .ref a,u=>u=Value.ref a
 | .ty n,u=>u=Value.type n
abbrev bH:List V->List Value->Prop:=Paired cC
theorem bH.length{xs:List V}{us:List Value}(r:bH xs us):xs.length=us.length:=Paired.length r
theorem bH.get:∀{xs:List V} {us:List Value} {i:Nat} {x:V},bH xs us->xs[i]? =some x->∃u,us[i]? =some u/\cC x u
 |_,_,_,_,.nil,e=>by simp at e
 |_,_,0,_,.cons r _,e=>by simp at e;subst e;exact⟨_,rfl,r⟩
 |_,_,i+1,x,.cons _ t,e=>by
  obtain⟨u,h1,h2⟩:=bH.get (i:=i) (x:=x) t (by simpa using e)
  exact⟨u,by simpa using h1,h2⟩
theorem bH.set{x:V}{u:Value}(r:cC x u):∀{xs:List V} {us:List Value} (i:Nat),bH xs us->bH (xs.set i x) (us.set i u)
 |_,_,_,.nil=> .nil
 |_,_,0,.cons _ t=> .cons r t
 |_,_,i+1,.cons q t=> .cons q (bH.set r i t)
theorem bH.append:∀{xs ys:List V} {us ws:List Value},bH xs us->bH ys ws->bH (xs++ys) (us++ws)
 |_,_,_,_,.nil,s=>s
 |_,_,_,_,.cons r t,s=> .cons r (bH.append t s)
theorem bH.take:∀{xs:List V} {us:List Value} (n:Nat),bH xs us->bH (xs.take n) (us.take n)
 |_,_,0,_=> .nil
 |_,_,_+1,.nil=> .nil
 |_,_,n+1,.cons r t=> .cons r (bH.take n t)
theorem bH.drop:∀{xs:List V} {us:List Value} (n:Nat),bH xs us->bH (xs.drop n) (us.drop n)
 |_,_,0,r=>r
 |_,_,_+1,.nil=> .nil
 |_,_,n+1,.cons _ t=>bH.drop n t
theorem bH.none_of:∀{xs:List V} {us:List Value} {i:Nat},bH xs us->xs[i]? =none->us[i]? =none:=fun {xs us i} r e=>by
 have h1:=r.length
 have h2:xs.length<=i:=List.getElem?_eq_none_iff.mp e
 exact List.getElem?_eq_none_iff.mpr (by omega)
def lQ:Option V->Option Value->Prop
 |some v,some u=>cC v u
 |none,none=>True
 |_,_=>False
def KV{κ:Type}:List (κ×V)->List (κ×Value)->Prop:=Paired fun(p:κ×V) (q:κ×Value)=>p.1=q.1/\cC p.2 q.2
def kV:Key->V
 | .inl i=> .int i
 | .inr x=> .str x
inductive HO where
 |lst (xs:List V)
 |tup (xs:List V)
 |dK (kvs:List (Key×V))|dT (kvs:List (List Key×V))
 |set (S:Int->Bool) (n:Nat)
 |ins (C dx:Addr) (fs:List (Str×V))
 |own (x:Addr)
 |xd (fs:List (Str×V))
 |met (f x:Addr)
 |rng (lo hi:Int)
 |frz (o:Obj) (u:HO)
 |tbl (ps:Array Value)
 |ext (φ:Heap->Prop)
abbrev Hp:=Addr->Option HO
def upd(H:Hp)(a:Addr)(o:HO):Hp:=fun b=>if b=a then some o else H b
theorem dJ{H:Hp}{a:Addr}{o:HO}:upd H a o a=some o:=by unfold upd;rw [if_pos rfl]
theorem bR{H:Hp}{a b:Addr}{o:HO}(h:b≠a):upd H a o b=H b:=by unfold upd;rw [if_neg h]
theorem jH{H:Hp}{a b:Addr}{o:HO}(h:H a=some o)(h':H b=none):a≠b:=by
 intro e;subst e;rw [h] at h';cases h'
section
variable(P:Program)(w:World)
def dW(H:Hp)(h:Heap)(a:Addr):HO->Prop
 | .lst xs=>xs.length<=sizeLine/\∃(its:List Value) (n:Nat),bH xs its/\h.get? a=some {cls:= .type "list",data:= .seq its.toArray n}
 | .tup xs=>xs.length<=sizeLine/\∃its:List Value,bH xs its/\IsTup h a its.toArray
 | .dK kvs=>kvs.length<=sizeLine/\(a==sysModules)=false/\∃vs,KV kvs vs/\h.DictOf (rJ P w) a vs
 | .dT kvs=>kvs.length<=sizeLine/\(a==sysModules)=false/\∃xs:List (List Key×Addr×Value),
   Paired (fun(p:List Key×V) (q:List Key×Addr×Value)=>p.1=q.1/\H q.2.1=some (.tup (p.1.map kV))/\cC p.2 q.2.2) kvs xs/\
   ∃o es ep,h.get? a=some o/\o.ExactDict/\o.data= .dict es ep/\es.toList=xs.map (entryOfKey (tupleKind (rJ P w)))/\(xs.map (·.1)).Nodup
 | .set S n=>h.SetOf (intKind P w) a S n
 | .ins C dx fs=>H dx=some (.own a)/\fs.length<=1000/\dx≠a/\h.get? a=some (PySem.W.instObj C dx)/\
   ∃mA,h.Ns1 dx mA/\(∀f,lQ (fs.lookup f) (mA f))/\PySem.Within mA (fs.map (·.1))
 | .own _=>∃o,h.get? a=some o
 | .xd fs=>∃mA,h.Ns1 a mA/\∀f,lQ (fs.lookup f) (mA f)
 | .rng lo hi=>∃t u v,h.get? a=some {cls:= .type "range",data:= .fields #[.int lo t,.int hi u,.int 1 v]}
 | .frz o u=>h.get? a=some o/\dW H h a u
 | .tbl ps=>h.get? a=some {cls:= .none,data:= .fields ps}
 | .met f x=>h.get? a=some (PySem.W.methodObj (.ref f) (.ref x))
 | .ext φ=>φ h/\(∃o,h.get? a=some o)/\∀h1 h2:Heap,φ h1->(∀o,h1.get? a=some o->h2.get? a=some o)->φ h2
def HOk(H:Hp)(h:Heap):Prop:=∀a o,H a=some o->dW P w H h a o
end
section
variable{P:Program}{w:World}{H H':Hp}{h h':Heap}{a:Addr}{o:HO}
theorem dW.lt(x:dW P w H h a o):a<h.objs.size:=by
 cases o with
 |lst xs=>obtain⟨_,_,_,_,e⟩:=x;exact Heap.lt_size e
 |tup xs=>obtain⟨_,_,_,p⟩:=x;exact p.lt
 |dK kvs=>obtain⟨_,_,_,_,o,_,_,e,_⟩:=x;exact Heap.lt_size e
 |dT kvs=>obtain⟨_,_,_,_,o,_,_,e,_⟩:=x;exact Heap.lt_size e
 |set S n=>obtain⟨o,_,_,_,e,_⟩:=x;exact Heap.lt_size e
 |ins C dx fs=>obtain⟨_,_,_,e,_⟩:=x;exact Heap.lt_size e
 |own y=>obtain⟨_,e⟩:=x;exact Heap.lt_size e
 |xd fs=>obtain⟨_,⟨_,_,_,e,_⟩,_⟩:=x;exact Heap.lt_size e
 |rng lo hi=>obtain⟨_,_,_,e⟩:=x;exact Heap.lt_size e
 |frz ob u=>obtain⟨e,_⟩:=x;exact Heap.lt_size e
 |tbl ps=>exact Heap.lt_size (show h.get? a=some _ from x)
 |met f y=>exact Heap.lt_size (show h.get? a=some _ from x)
 |ext φ=>obtain⟨_,⟨_,e⟩,_⟩:=x;exact Heap.lt_size e
theorem Paired.mapP{α β:Type}{F G:α->β->Prop}:∀{l₁:List α} {l₂:List β},Paired F l₁ l₂->(∀a b,F a b->G a b)->Paired G l₁ l₂
 |_,_,.nil,_=> .nil
 |_,_,.cons r t,f=> .cons (f _ _ r) (Paired.mapP t f)
theorem dW.stay(x:dW P w H h a o)(k:∀b u,(b=a\/H b=some (.own a))->h.get? b=some u->h'.get? b=some u)
  (ho:∀b,H b=some (.own a)->H' b=some (.own a)) (ht:∀b xs,H b=some (.tup xs)->H' b=some (.tup xs)):dW P w H' h' a o:=by
 induction o with
 |lst xs=>obtain⟨z,its,n,r,e⟩:=x;exact⟨z,its,n,r,k _ _ (.inl rfl) e⟩
 |tup xs=>obtain⟨z,its,r,ob,e,c⟩:=x;exact⟨z,its,r,ob,k _ _ (.inl rfl) e,c⟩
 |dK kvs=>obtain⟨z,y,vs,r,ob,es,ep,e,c⟩:=x;exact⟨z,y,vs,r,ob,es,ep,k _ _ (.inl rfl) e,c⟩
 |dT kvs=>
  obtain⟨z,y,xs,r,ob,es,ep,e,c⟩:=x
  exact⟨z,y,xs,Paired.mapP r fun p q z=>⟨z.1,ht _ _ z.2.1,z.2.2⟩,ob,es,ep,k _ _ (.inl rfl) e,c⟩
 |set S n=>obtain⟨ob,es,ep,t,e,c⟩:=x;exact⟨ob,es,ep,t,k _ _ (.inl rfl) e,c⟩
 |ins C dx fs=>
  obtain⟨d,z,ne,e,mA,⟨od,es,ep,e2,c⟩,r⟩:=x
  exact⟨ho _ d,z,ne,k _ _ (.inl rfl) e,mA,⟨od,es,ep,k _ _ (.inr d) e2,c⟩,r⟩
 |own y=>obtain⟨ob,e⟩:=x;exact⟨ob,k _ _ (.inl rfl) e⟩
 |xd fs=>obtain⟨mA,⟨od,es,ep,e,c⟩,r⟩:=x;exact⟨mA,⟨od,es,ep,k _ _ (.inl rfl) e,c⟩,r⟩
 |rng lo hi=>obtain⟨t,u,v,e⟩:=x;exact⟨t,u,v,k _ _ (.inl rfl) e⟩
 |frz ob u ih=>obtain⟨e,q⟩:=x;exact⟨k _ _ (.inl rfl) e,ih q⟩
 |tbl ps=>
  have e:h.get? a=some {cls:= .none,data:= .fields ps}:=x
  show h'.get? a=some {cls:= .none,data:= .fields ps}
  exact k a _ (.inl rfl) e
 |met f y=>
  have e:h.get? a=some (PySem.W.methodObj (.ref f) (.ref y)):=x
  show h'.get? a=some (PySem.W.methodObj (.ref f) (.ref y))
  exact k a _ (.inl rfl) e
 |ext φ=>obtain⟨p,⟨o,e⟩,st⟩:=x;exact⟨st _ _ p fun o q=>k _ _ (.inl rfl) q,⟨o,k _ _ (.inl rfl) e⟩,st⟩
theorem HOk.lt(x:HOk P w H h)(e:H a=some o):a<h.objs.size:=(x a o e).lt
theorem HOk.fresh(x:HOk P w H h)(e:h.objs.size<=a):H a=none:=by
 cases q:H a with
 |none=>rfl
 |some u=>exact absurd (Nat.lt_of_lt_of_le (x.lt q) e) (Nat.lt_irrefl _)
theorem HOk.kept(x:HOk P w H h)(k:∀b u,h.get? b=some u->h'.get? b=some u):HOk P w H h':=fun a o e=>
 (x a o e).stay (fun b u _ q=>k b u q) (fun _ q=>q) fun _ _ q=>q
theorem HOk.laid(x:HOk P w H h)(k:∀b u,h.get? b=some u->h'.get? b=some u)(hp:h.objs.size<=a)(new:dW P w (upd H a o) h' a o):HOk P w (upd H a o) h':=fun b u e=>by
 have hn:=x.fresh hp
 by_cases hb:b=a
 ·subst hb;rw [dJ] at e;cases e;exact new
 ·rw [bR hb] at e
  exact(x b u e).stay (fun c v _ q=>k c v q) (fun c q=>by rw [bR (jH q hn)];exact q) fun c xs q=>by rw [bR (jH q hn)];exact q
end
def Rd(H:Hp)(a:Addr)(u:HO):Prop:=H a=some u\/∃o,H a=some (.frz o u)
theorem Rd.of{H:Hp}{a:Addr}{u:HO}(h:H a=some u):Rd H a u:= .inl h
theorem Rd.ok{P:Program}{w:World}{H:Hp}{h:Heap}{a:Addr}{u:HO}(r:Rd H a u)(x:HOk P w H h):dW P w H h a u:=by
 rcases r with r|⟨o,r⟩
 ·exact x a u r
 ·obtain⟨_,q⟩:=x a _ r
  exact q
def Mut:Option HO->Prop
 |some (.lst _)=>True
 |some (.dK _)=>True
 |some (.dT _)=>True
 |some (.set _ _)=>True
 |some (.ins _ _ _)=>True
 |some (.ext _)=>True
 |_=>False
section
variable{P:Program}{w:World}{H:Hp}{h h':Heap}{x e:Addr}{o':HO}
theorem HOk.write(ok:HOk P w H h)(mu:Mut (H x))(he:e=x\/H e=some (.own x))(k:∀b u,b≠e->h.get? b=some u->h'.get? b=some u)(heo:∃u,h'.get? e=some u)
  (new:dW P w (upd H x o') h' x o'):HOk P w (upd H x o') h':=fun b u q=>by
 have nown:∀c y,H c=some (.own y)->c≠x:=fun c y r z=>by subst z;rw [r] at mu;exact mu
 have ntup:∀c xs,H c=some (.tup xs)->c≠x:=fun c xs r z=>by subst z;rw [r] at mu;exact mu
 by_cases hb:b=x
 ·subst hb;rw [dJ] at q;cases q;exact new
 ·rw [bR hb] at q
  by_cases hbe:b=e
  ·have q':H b=some (.own x):=by
    rcases he with z|z
    ·exact absurd (hbe.trans z) hb
    ·rw [hbe];exact z
   rw [q] at q';cases q'
   obtain⟨v,hv⟩:=heo
   exact⟨v,by rw [hbe];exact hv⟩
  ·refine(ok b u q).stay (fun c v hc r=>k c v ?_ r) (fun c r=>by rw [bR (nown c b r)];exact r) fun c xs r=>by rw [bR (ntup c xs r)];exact r
   rcases hc with rfl|hc
   ·exact hbe
   ·rintro rfl
    rcases he with z|z
    ·exact nown c b hc z
    ·rw [hc] at z;cases z;exact hb rfl
end
structure Un(fs ex:List Addr)(H H':Hp)(h h':Heap):Prop where
 keep:∀b o,h.get? b=some o->H b=none->b∉fs->b∉ex->h'.get? b=some o
 slot:∀b o,h.get? b=some o->H b=none->b∈fs->b∉ex->∃sl,h'.get? b=some {o with slots:=sl}
 free:∀b o,h.get? b=some o->H b=none->b∉ex->H' b=none
 there:∀b o,h.get? b=some o->b∉ex->∃o',h'.get? b=some o'
 tups:∀b xs,H b=some (.tup xs)->H' b=some (.tup xs)
 frzs:∀b o u,H b=some (.frz o u)->H' b=some (.frz o u)
 tbls:∀b ps,H b=some (.tbl ps)->∃more,H' b=some (.tbl (ps++more))
section
variable{fs fs' ex ex':List Addr}{H H1 H2:Hp}{h h1 h2 h':Heap}{a x e:Addr}{o:HO}
theorem Un.any(u:Un fs ex H H1 h h1){b:Addr}{ob:Obj}(q:h.get? b=some ob)(n:H b=none)(hx:b∉ex):∃sl,h1.get? b=some {ob with slots:=sl}:=by
 by_cases hb:b∈fs
 ·exact u.slot b ob q n hb hx
 ·exact⟨ob.slots,u.keep b ob q n hb hx⟩
theorem Un.trans(a:Un fs ex H H1 h h1)(b:Un fs ex H1 H2 h1 h2):Un fs ex H H2 h h2 where
 keep:=fun c ob q n hc hx=>b.keep c ob (a.keep c ob q n hc hx) (a.free c ob q n hx) hc hx
 slot:=fun c ob q n hc hx=>by
  obtain⟨sl,e1⟩:=a.slot c ob q n hc hx
  obtain⟨sl',e2⟩:=b.slot c _ e1 (a.free c ob q n hx) hc hx
  exact⟨sl',e2⟩
 free:=fun c ob q n hx=>by
  obtain⟨o',e1⟩:=a.there c ob q hx
  exact b.free c o' e1 (a.free c ob q n hx) hx
 there:=fun c ob q hx=>by
  obtain⟨o',e1⟩:=a.there c ob q hx
  exact b.there c o' e1 hx
 tups:=fun c xs q=>b.tups c xs (a.tups c xs q)
 frzs:=fun c ob xs q=>b.frzs c ob xs (a.frzs c ob xs q)
 tbls:=fun c ps q=>by
  obtain⟨m1,e1⟩:=a.tbls c ps q
  obtain⟨m2,e2⟩:=b.tbls c _ e1
  exact⟨m1++m2,by rw [e2,Array.append_assoc]⟩
theorem Un.kept(k:∀b u,h.get? b=some u->h'.get? b=some u):Un fs ex H H h h':=
 ⟨fun b ob q _ _ _=>k b ob q,fun b ob q _ _ _=>⟨ob.slots,k b ob q⟩,fun _ _ _ n _=>n,fun b ob q _=>⟨ob,k b ob q⟩,fun _ _ q=>q,fun _ _ _ q=>q,fun _ ps q=>⟨#[],by rw [q];simp⟩⟩
theorem Un.refl:Un fs ex H H h h:=Un.kept fun _ _ q=>q
theorem Un.laid(k:∀b u,h.get? b=some u->h'.get? b=some u)(hp:h.objs.size<=a)(hn:H a=none):Un fs ex H (upd H a o) h h' where
 keep:=fun b u q _ _ _=>k b u q
 slot:=fun b u q _ _ _=>⟨u.slots,k b u q⟩
 free:=fun b u q n _=>by rw [bR (Nat.ne_of_lt (Nat.lt_of_lt_of_le (Heap.lt_size q) hp))];exact n
 there:=fun b u q _=>⟨u,k b u q⟩
 tups:=fun b xs q=>by rw [bR (jH q hn)];exact q
 frzs:=fun b u xs q=>by rw [bR (jH q hn)];exact q
 tbls:=fun b ps q=>⟨#[],by rw [bR (jH q hn),q];simp⟩
theorem Un.write(mu:Mut (H x))(he:e=x\/H e=some (.own x))(k:∀b u,b≠e->h.get? b=some u->h'.get? b=some u)(heo:∃u,h'.get? e=some u):Un fs ex H (upd H x o) h h':=by
 have hx:∀b,H b=none->b≠x:=fun b n z=>by subst z;rw [n] at mu;exact mu
 have hb:∀b,H b=none->b≠e:=fun b n z=>by
  subst z
  rcases he with r|r
  ·exact hx b n r
  ·rw [n] at r;cases r
 have hm:∀b u,H b=some u->¬Mut (some u)->b≠x:=fun b u q nm z=>by subst z;rw [q] at mu;exact nm mu
 refine⟨fun b u q n _ _=>k b u (hb b n) q,fun b u q n _ _=>⟨u.slots,k b u (hb b n) q⟩,fun b u q n _=>by rw [bR (hx b n)];exact n,fun b u q _=> ?_,
  fun b xs q=>by rw [bR (hm b _ q fun z=>z)];exact q,fun b u xs q=>by rw [bR (hm b _ q fun z=>z)];exact q,fun b ps q=>⟨#[],by rw [bR (hm b _ q fun z=>z),q];simp⟩⟩
 by_cases hbe:b=e
 ·subst hbe;exact heo
 ·exact⟨u,k b u hbe q⟩
theorem Un.mono(u:Un fs ex H H1 h h1)(hs:∀b∈fs,b∈fs')(hx:∀b∈ex,b∈ex'):Un fs' ex' H H1 h h1:=
 ⟨fun b ob q n hb he=>u.keep b ob q n (fun z=>hb (hs b z)) fun z=>he (hx b z),fun _ _ q n _ he=>u.any q n fun z=>he (hx _ z),fun b ob q n he=>u.free b ob q n fun z=>he (hx b z),fun b ob q he=>u.there b ob q fun z=>he (hx b z),u.tups,u.frzs,u.tbls⟩
end
def trk(h:Heap)(H:Hp):List Addr:=(List.range h.objs.size).filter fun a=>(H a).isSome
def nK(h:Heap)(H:Hp):Heap:=PySem.W.hideAll h (trk h H)
theorem xJ(h:Heap)(H:Hp):(nK h H).objs.size=h.objs.size:=PySem.W.hideAll_size _ _
theorem zR{h:Heap}{H:Hp}{b:Addr}{o:Obj}(e:h.get? b=some o)(n:H b=none):(nK h H).get? b=some o:=
 PySem.W.hideAll_get _ e fun hm=>by
  have q:(H b).isSome=true:=(List.mem_filter.mp hm).2
  rw [n] at q;simp at q
theorem ze7{h:Heap}{H:Hp}{b:Addr}{o:Obj}(e:(nK h H).get? b=some o):h.get? b=some o/\H b=none:=by
 have e':h.get? b=some o:=PySem.W.of_hideAll (trk h H) e
 refine⟨e',?_⟩
 cases q:H b with
 |none=>rfl
 |some x=>
  have hm:b∈trk h H:=List.mem_filter.mpr ⟨List.mem_range.mpr (Heap.lt_size e'),by simp [q]⟩
  have z:(nK h H).get? b=none:=PySem.W.hideAll_none (trk h H) hm
  rw [z] at e;cases e
def zi2(g h:Heap)(L:Addr):tzB:=(List.range h.objs.size).filterMap fun a=>if a=L\/(g.get? a).isSome=true then none else(h.get? a).map fun o=>(a,o)
def bC(g h:Heap)(L d:Addr):tzB:=(zi2 g h L).filter fun p=>decide (p.1≠d)
structure Mod(K:tz0)(mg:tzA)(base:Heap):Prop where
 kin:K.In base
 glob:base.Ns mainGlobals mg
 blt:∃mb,base.Ns builtinsNs mb/\∀x:Str,x≠"__name__"->mb x=bootBuiltins x
 nolimit:base.NoLimit
structure Cx where
 prog:Program
 w:World
 K:tz0
 mg:tzA
 base:Heap
 A:Around
 N:List Str
 s₀:Shared
 H₀:Hp
 env:Env
 outer:List Env
 stack:List Env
 ex:List Addr
 fn:Str->Bool
 calm:Bool
 pn:tzB
 xe:Value->Shared->Prop
def frs(l:List Env):List Addr:=l.filterMap (·.frame)
abbrev Cx.fs(X:Cx):List Addr:=frs X.outer
def Vis(sc:Scope)(x:Str):Prop:=sc.names.lookup x=some .local\/sc.names.lookup x=some .cell\/sc.names.lookup x=some .free
def Loc(sc:Scope)(x:Str):Prop:=sc.names.lookup x=some .local\/sc.names.lookup x=some .cell
def zs9(env:Env)(h:Heap)(m:tzA)(x:Str)(u:Value):Prop:=
 (env.kindOf x=some .local/\m x=some u)\/((env.kindOf x=some .cell\/env.kindOf x=some .free)/\∃c,env.cells.lookup x=some c/\h.IsCell c (some u))
structure Cx.Ok(X:Cx):Prop where
 mod:Mod X.K X.mg X.base
 kind:X.env.scope.kind= .function
 glob:X.env.globals=mainGlobals
 blt:X.env.builtins=builtinsNs
 above:X.s₀.heap.objs.size<=X.env.locals
 inj:∀x y c,X.env.cells.lookup x=some c->X.env.cells.lookup y=some c->x=y
 has:∀x,(X.env.kindOf x=some .cell\/X.env.kindOf x=some .free)->∃c,X.env.cells.lookup x=some c
 cab:∀x c,X.fn x=true->X.env.cells.lookup x=some c->X.s₀.heap.objs.size<=c
 hd:X.calm=true->X.A.handled=none
 frames:X.A.frames=some X.stack
 stk:X.stack=X.outer\/(X.stack=X.env::X.outer/\X.env.frame=some X.env.locals)
 exf:∀b∈X.ex,b≠X.env.locals/\∀x c,X.env.cells.lookup x=some c->c≠b
 bs:∀b o,X.base.get? b=some o->X.s₀.heap.get? b=some o/\X.H₀ b=none
 bsz:X.base.objs.size<=X.s₀.heap.objs.size
 noex:∀b o,X.base.get? b=some o->b∉X.ex
 exfs:∀b∈X.ex,b∉X.fs
 funs:X.s₀.heap.FunFrames X.base X.outer
 frf:∀b∈X.fs,X.H₀ b=none
structure Inv(X:Cx)(pins:tzB)(σ:List (Option V))(H:Hp)(s:Shared):Prop where
 ok:X.Ok
 os:s.os=X.s₀.os
 bare:AllBare s.gens
 base:Un X.fs X.ex X.H₀ H X.s₀.heap s.heap
 loc:∃m,s.heap.Ns X.env.locals m/\∀(i:Nat) (x:Str) (v:V),X.N[i]? =some x->σ[i]? =some (some v)->Vis X.env.scope x->∃u,cC v u/\zs9 X.env s.heap m x u
 cell:∀x c,X.env.cells.lookup x=some c->∃v,s.heap.IsCell c v
 free:H X.env.locals=none
 freeC:∀x c,X.env.cells.lookup x=some c->H c=none
 pin:∀p∈X.pn++pins,s.heap.get? p.1=some p.2/\H p.1=none/\p.1≠X.env.locals/\p.1∉X.fs/\∀v,p.2.data≠ .cell v
 hok:HOk X.prog X.w H s.heap
 len:σ.length=X.N.length
section
variable{X:Cx}{pins:tzB}{σ:List (Option V)}{H H':Hp}{s:Shared}{h':Heap}
theorem Cx.Ok.nofr(ok:X.Ok){b:Addr}{o:Obj}(e:X.base.get? b=some o):b∉X.fs:=fun hb=>by
 have:=(ok.funs.mem hb).1
 rw [e] at this;cases this
theorem Inv.bs(I:Inv X pins σ H s):∀b o,X.base.get? b=some o->s.heap.get? b=some o/\H b=none:=fun b o e=>
 ⟨I.base.keep b o (I.ok.bs b o e).1 (I.ok.bs b o e).2 (I.ok.nofr e) (I.ok.noex b o e),I.base.free b o (I.ok.bs b o e).1 (I.ok.bs b o e).2 (I.ok.noex b o e)⟩
theorem Inv.bk(I:Inv X pins σ H s):∀b o,X.base.get? b=some o->s.heap.get? b=some o:=fun b o e=>(I.bs b o e).1
theorem Inv.mod(I:Inv X pins σ H s):Mod X.K X.mg X.base:=I.ok.mod
theorem Inv.kIn(I:Inv X pins σ H s):X.K.In s.heap:=I.ok.mod.kin.keeps I.bk
theorem Inv.nolimit(I:Inv X pins σ H s):s.heap.NoLimit:=I.ok.mod.nolimit.keeps I.bk
theorem Inv.fr(I:Inv X pins σ H s):∃m,Fr X.base X.env.locals s.heap m:=
 let ⟨m,hn,_⟩:=I.loc
 ⟨m,hn,I.bk,Nat.le_trans I.ok.bsz I.ok.above⟩
theorem Inv.lt(I:Inv X pins σ H s):X.env.locals<s.heap.objs.size:=let ⟨_,hn,_⟩:=I.loc;hn.lt
theorem Inv.sz(I:Inv X pins σ H s):X.s₀.heap.objs.size<=s.heap.objs.size:=Nat.le_trans I.ok.above (Nat.le_of_lt I.lt)
theorem Inv.nofs(I:Inv X pins σ H s){a:Addr}(h:s.heap.objs.size<=a):a∉X.fs:=fun hb=>by
 obtain⟨_,o,ho,_⟩:=I.ok.funs.mem hb
 exact absurd (Nat.lt_of_lt_of_le (Heap.lt_size ho) (Nat.le_trans I.sz h)) (Nat.lt_irrefl _)
theorem Inv.cne(I:Inv X pins σ H s):∀x c,X.env.cells.lookup x=some c->c≠X.env.locals:=fun x c e z=>by
 obtain⟨v,o,ho,hd⟩:=I.cell x c e
 obtain⟨m,⟨o',es,ep,ho',hd',_⟩,_⟩:=I.loc
 rw [z,ho'] at ho;cases ho;rw [hd'] at hd;cases hd
theorem Inv.funs(I:Inv X pins σ H s):s.heap.FunFrames X.base X.outer:=by
 have all:∀(l:List Env),(∀b∈frs l,b∈X.fs)->X.s₀.heap.FunFrames X.base l->s.heap.FunFrames X.base l:=by
  intro l
  induction l with
  |nil=>intro _ _;trivial
  |cons env r ih=>
   intro hs hl
   obtain⟨hk,⟨L,o,hf,hn,ho,hd⟩,hr⟩:=hl
   have hL:L∈X.fs:=hs L (by unfold frs;rw [List.filterMap_cons,hf];exact List.mem_cons_self)
   obtain⟨sl,e⟩:=I.base.slot L o ho (I.ok.frf L hL) hL fun z=>I.ok.exfs L z hL
   exact⟨hk,⟨L,_,hf,hn,e,hd⟩,ih (fun b hb=>hs b (by unfold frs;rw [List.filterMap_cons,hf];exact List.mem_cons_of_mem _ hb)) hr⟩
 exact all X.outer (fun _ hb=>hb) I.ok.funs
theorem Inv.stack(I:Inv X pins σ H s):s.heap.FunFrames X.base X.stack:=by
 rcases I.ok.stk with e|⟨e,hf⟩
 ·rw [e];exact I.funs
 ·rw [e]
  obtain⟨m,hn,_⟩:=I.loc
  refine .cons (by rw [I.ok.kind];decide) hf hn ?_ I.funs
  exact Heap.get?_none_of_le (Nat.le_trans I.ok.bsz I.ok.above)
theorem Inv.stkSub(I:Inv X pins σ H s):∀b∈frs X.stack,b∈X.env.locals::X.fs:=fun b hb=>by
 rcases I.ok.stk with e|⟨e,hf⟩
 ·rw [e] at hb;exact List.mem_cons_of_mem _ hb
 ·rw [e] at hb
  unfold frs at hb
  rw [List.filterMap_cons,hf] at hb
  exact hb
theorem Inv.stkFree(I:Inv X pins σ H s):∀b∈frs X.stack,H b=none:=fun b hb=>by
 rcases List.mem_cons.mp (I.stkSub b hb) with e|hb
 ·rw [e];exact I.free
 ·obtain⟨_,o,ho,_⟩:=I.ok.funs.mem hb
  exact I.base.free b o ho (I.ok.frf b hb) fun z=>I.ok.exfs b z hb
theorem Inv.step{g':Array GenState}{t':Nat}{d':Drawn}{ch:List Addr}(I:Inv X pins σ H s)
  (hch:∀b∈ch,(b∈X.ex\/X.s₀.heap.objs.size<=b)/\b≠X.env.locals/\(∀x c,X.env.cells.lookup x=some c->c≠b)/\∀p∈X.pn++pins,p.1≠b)
  (keep:∀b o,b≠X.env.locals->b∉X.fs->b∉ch->s.heap.get? b=some o->H b=none->h'.get? b=some o)
  (slot:∀b o,b≠X.env.locals->b∈X.fs->b∉ch->s.heap.get? b=some o->H b=none->∃sl,h'.get? b=some {o with slots:=sl}) (free:∀b o,b∉ch->s.heap.get? b=some o->H b=none->H' b=none)
  (there:∀b o,b∉ch->s.heap.get? b=some o->∃o',h'.get? b=some o')
  (tups:∀b xs,H b=some (.tup xs)->H' b=some (.tup xs)) (frzs:∀b o u,H b=some (.frz o u)->H' b=some (.frz o u)) (tbls:∀b ps,H b=some (.tbl ps)->∃more,H' b=some (.tbl (ps++more)))
  (ns:∀m,s.heap.Ns X.env.locals m->h'.Ns X.env.locals m) (hok:HOk X.prog X.w H' h') (hg:AllBare g'):
  Inv X pins σ H' {s with heap:=h',gens:=g',drawn:=d',toks:=t'}:=by
 have neL:∀b o,X.s₀.heap.get? b=some o->b≠X.env.locals:=fun b o e=>Nat.ne_of_lt (Nat.lt_of_lt_of_le (Heap.lt_size e) I.ok.above)
 have neC:∀b o,X.s₀.heap.get? b=some o->b∉X.ex->b∉ch:=fun b o e hx hb=>by
  rcases(hch b hb).1 with z|z
  ·exact hx z
  ·exact absurd (Nat.lt_of_lt_of_le (Heap.lt_size e) z) (Nat.lt_irrefl _)
 have cellK:∀x c,X.env.cells.lookup x=some c->∀v,s.heap.IsCell c v->h'.IsCell c v:=fun x c e v ⟨o,ho,hd⟩=>by
  have nch:c∉ch:=fun z=>(hch c z).2.2.1 x c e rfl
  by_cases hc:c∈X.fs
  ·obtain⟨sl,q⟩:=slot c o (I.cne x c e) hc nch ho (I.freeC x c e)
   exact⟨_,q,hd⟩
  ·exact⟨o,keep c o (I.cne x c e) hc nch ho (I.freeC x c e),hd⟩
 refine⟨I.ok,I.os,hg,⟨fun b o e n hb hx=> ?_,fun b o e n hb hx=> ?_,fun b o e n hx=> ?_,fun b o e hx=> ?_,fun b xs e=>tups b xs (I.base.tups b xs e),fun b o xs e=>frzs b o xs (I.base.frzs b o xs e),fun b ps e=> ?_⟩,?_,fun x c e=> ?_,?_,fun x c e=> ?_,fun p hp=> ?_,hok,I.len⟩
 ·exact keep b o (neL b o e) hb (neC b o e hx) (I.base.keep b o e n hb hx) (I.base.free b o e n hx)
 ·obtain⟨sl,e1⟩:=I.base.slot b o e n hb hx
  obtain⟨sl',e2⟩:=slot b _ (neL b o e) hb (neC b o e hx) e1 (I.base.free b o e n hx)
  exact⟨sl',e2⟩
 ·obtain⟨o',e1⟩:=I.base.there b o e hx
  exact free b o' (neC b o e hx) e1 (I.base.free b o e n hx)
 ·obtain⟨o',e1⟩:=I.base.there b o e hx
  exact there b o' (neC b o e hx) e1
 ·obtain⟨m1,e1⟩:=I.base.tbls b ps e
  obtain⟨m2,e2⟩:=tbls b _ e1
  exact⟨m1++m2,by rw [e2,Array.append_assoc]⟩
 ·obtain⟨m,hn,hl⟩:=I.loc
  refine⟨m,ns m hn,fun i x v e1 e2 e3=> ?_⟩
  obtain⟨u,r,l⟩:=hl i x v e1 e2 e3
  refine⟨u,r,?_⟩
  rcases l with l|⟨k,c,e,z⟩
  ·exact .inl l
  ·exact .inr ⟨k,c,e,cellK x c e _ z⟩
 ·obtain⟨v,z⟩:=I.cell x c e
  exact⟨v,cellK x c e v z⟩
 ·obtain⟨m,⟨o,_,_,ho,_⟩,_⟩:=I.loc
  exact free _ o (fun z=>(hch _ z).2.1 rfl) ho I.free
 ·obtain⟨v,o,ho,hd⟩:=I.cell x c e
  exact free c o (fun z=>(hch c z).2.2.1 x c e rfl) ho (I.freeC x c e)
 ·obtain⟨e,n,ne,nf,d⟩:=I.pin p hp
  have nch:p.1∉ch:=fun z=>(hch p.1 z).2.2.2 p hp rfl
  exact⟨keep p.1 p.2 ne nf nch e n,free p.1 p.2 nch e n,ne,nf,d⟩
theorem Inv.un{t':Nat}(I:Inv X pins σ H s)(u:Un X.fs [] H H' s.heap h')(hok:HOk X.prog X.w H' h'):Inv X pins σ H' {s with heap:=h',toks:=t'}:=by
 obtain⟨m,⟨o,es,ep,ho,r⟩,_⟩:=id I.loc
 obtain⟨sl,hL⟩:=u.any ho I.free (by simp)
 exact I.step (g':=s.gens) (d':=s.drawn) (ch:=[]) (fun _ z=>nomatch z) (fun b o _ hb _ e n=>u.keep b o e n hb (by simp)) (fun b o _ hb _ e n=>u.slot b o e n hb (by simp)) (fun b o _ e n=>u.free b o e n (by simp)) (fun b o _ e=>u.there b o e (by simp)) u.tups u.frzs u.tbls (fun m' hm=>by
  obtain⟨o',es',ep',ho',r'⟩:=hm
  rw [ho] at ho';cases ho'
  exact⟨_,es',ep',hL,r'⟩) hok I.bare
theorem Inv.call{g':Array GenState}{t':Nat}{d':Drawn}{ch:List Addr}(I:Inv X pins σ H s)(u:Un (frs X.stack) ch H H' s.heap h')(hok:HOk X.prog X.w H' h')(hg:AllBare g')
  (hch:∀b∈ch,(b∈X.ex\/X.s₀.heap.objs.size<=b)/\b≠X.env.locals/\(∀x c,X.env.cells.lookup x=some c->c≠b)/\∀p∈X.pn++pins,p.1≠b):
  Inv X pins σ H' {s with heap:=h',gens:=g',drawn:=d',toks:=t'}:=by
 obtain⟨m,⟨o,es,ep,ho,r⟩,_⟩:=id I.loc
 obtain⟨sl,hL⟩:=u.any ho I.free fun z=>(hch _ z).2.1 rfl
 exact I.step (ch:=ch) hch (fun b o hL hb hc e n=>u.keep b o e n (fun z=>(List.mem_cons.mp (I.stkSub b z)).elim hL hb) hc) (fun b o _ _ hc e n=>u.any e n hc) (fun b o hc e n=>u.free b o e n hc) (fun b o hc e=>u.there b o e hc) u.tups u.frzs u.tbls (fun m' hm=>by
  obtain⟨o',es',ep',ho',r'⟩:=hm
  rw [ho] at ho';cases ho'
  exact⟨_,es',ep',hL,r'⟩) hok hg
theorem Inv.turned{t':Nat}{it:Addr}(I:Inv X pins σ H s)(k:∀b o,b≠it->s.heap.get? b=some o->h'.get? b=some o)(hn:H it=none)(hL:it≠X.env.locals)
  (h1:it∈X.ex\/X.s₀.heap.objs.size<=it) (h2:∀x c,X.env.cells.lookup x=some c->c≠it) (h3:∀p∈X.pn++pins,p.1≠it):Inv X pins σ H {s with heap:=h',toks:=t'}:=by
 have nit:∀b u,H b=some u->b≠it:=fun b u e z=>by rw [z,hn] at e;cases e
 refine I.step (g':=s.gens) (d':=s.drawn) (ch:=[it]) (fun b hb=> ?_) (fun b o _ _ hc e _=>k b o (fun z=>hc (by simp [z])) e) (fun b o _ _ hc e _=>⟨o.slots,k b o (fun z=>hc (by simp [z])) e⟩) (fun _ _ _ _ n=>n)
  (fun b o hc e=>⟨o,k b o (fun z=>hc (by simp [z])) e⟩) (fun _ _ e=>e) (fun _ _ _ e=>e) (fun b ps e=>⟨#[],by rw [e];simp⟩) (fun m hm=> ?_) (fun b u e=> ?_) I.bare
 ·have e:b=it:=by simpa using hb
  subst e
  exact⟨h1,hL,h2,h3⟩
 ·obtain⟨o,es,ep,ho,r⟩:=hm
  exact⟨o,es,ep,k _ o (Ne.symm hL) ho,r⟩
 ·refine(I.hok b u e).stay (fun c v hc q=>k c v ?_ q) (fun _ q=>q) fun _ _ q=>q
  rcases hc with z|z
  ·rw [z];exact nit b u e
  ·exact nit c _ z
theorem Inv.tok(I:Inv X pins σ H s)(t:Nat):Inv X pins σ H {s with toks:=t}:=I.un (h':=s.heap) (t':=t) Un.refl I.hok
theorem Inv.kept{t':Nat}(I:Inv X pins σ H s)(k:∀b u,s.heap.get? b=some u->h'.get? b=some u):Inv X pins σ H {s with heap:=h',toks:=t'}:=I.un (Un.kept k) (I.hok.kept k)
theorem Inv.laid{a:Addr}{o:HO}{t':Nat}(I:Inv X pins σ H s)(k:∀b u,s.heap.get? b=some u->h'.get? b=some u)(hp:s.heap.objs.size<=a)(new:dW X.prog X.w (upd H a o) h' a o):
  Inv X pins σ (upd H a o) {s with heap:=h',toks:=t'}:=I.un (Un.laid k hp (I.hok.fresh hp)) (I.hok.laid k hp new)
theorem Inv.write{x e:Addr}{o:HO}{t':Nat}(I:Inv X pins σ H s)(mu:Mut (H x))(he:e=x\/H e=some (.own x))(k:∀b u,b≠e->s.heap.get? b=some u->h'.get? b=some u)(heo:∃u,h'.get? e=some u)
  (new:dW X.prog X.w (upd H x o) h' x o):Inv X pins σ (upd H x o) {s with heap:=h',toks:=t'}:=I.un (Un.write mu he k heo) (I.hok.write mu he k heo new)
theorem Inv.pins_of{pins':tzB}(I:Inv X pins σ H s)(h:∀p∈pins',s.heap.get? p.1=some p.2/\H p.1=none/\p.1≠X.env.locals/\p.1∉X.fs/\∀v,p.2.data≠ .cell v):Inv X pins' σ H s:=
 ⟨I.ok,I.os,I.bare,I.base,I.loc,I.cell,I.free,I.freeC,fun p hp=>(List.mem_append.mp hp).elim (fun z=>I.pin p (List.mem_append_left _ z)) (h p),I.hok,I.len⟩
theorem sW{N:List Str}(hN:N.Nodup){i j:Nat}{x:Str}(a:N[i]? =some x)(b:N[j]? =some x):i=j:=by
 obtain⟨h1,e1⟩:=List.getElem?_eq_some_iff.mp a
 obtain⟨h2,e2⟩:=List.getElem?_eq_some_iff.mp b
 exact(List.getElem_inj hN).mp (e1.trans e2.symm)
theorem xK{M:Model}{A:Around}{E:Value->Shared->Prop}{i:Nat}{x:Str}{v:V}{u:Value}{Q:Unit->Shared->Prop}(I:Inv X pins σ H s)(hN:X.N.Nodup)(hi:X.N[i]? =some x)(hx:Loc X.env.scope x)(r:cC v u)
  (h:∀s',Inv X pins (σ.set i (some v)) H s'->(∃a,Heap.SameBut a s.heap s'.heap/\(a=X.env.locals\/X.env.cells.lookup x=some a))->Q () s') (hf:X.fn x=true\/X.env.scope.names.lookup x=some .local:=by first|exact .inl rfl|exact .inr rfl|assumption):wpAny M A (storeName X.env x u) Q E s:=by
 obtain⟨m,hn,hl⟩:=id I.loc
 have hcls:(X.env.scope.kind== .class||(X.env.scope.kind== .module&&X.env.locals !=X.env.globals))=false:=by rw [I.ok.kind];rfl
 have hiσ:i<σ.length:=by rw [I.len];exact(List.getElem?_eq_some_iff.mp hi).1
 have cne:=I.cne
 have tracked:∀{a:Addr} {h':Heap},(∃o,s.heap.get? a=some o/\H a=none)->Heap.SameBut a s.heap h'->HOk X.prog X.w H h':=fun {a h'} ha hs b ob e=>by
  obtain⟨_,_,hfree⟩:=ha
  refine(I.hok b ob e).stay (fun c w' hc q=>(hs.2 c ?_).trans q) (fun _ q=>q) fun _ _ q=>q
  rintro rfl
  rcases hc with rfl|hc
  ·rw [hfree] at e;cases e
  ·rw [hfree] at hc;cases hc
 rcases hx with hk|hk
 ·refine wpAny_storeName_local hk hn (fun h' hn' hs=> ?_) hcls
  obtain⟨oL,_,_,hoL,_⟩:=id hn
  refine h _ ⟨I.ok,I.os,I.bare,⟨fun b o e n hb hx=> ?_,fun b o e n hb hx=> ?_,I.base.free,fun b o e hx=> ?_,I.base.tups,I.base.frzs,I.base.tbls⟩,⟨_,hn',fun j y v' e1 e2 e3=> ?_⟩,fun y c e=> ?_,I.free,I.freeC,fun p hp=> ?_,tracked ⟨oL,hoL,I.free⟩ hs,by simpa using I.len⟩ ⟨_,hs,.inl rfl⟩
  ·exact(hs.2 b (Nat.ne_of_lt (Nat.lt_of_lt_of_le (Heap.lt_size e) I.ok.above))).trans (I.base.keep b o e n hb hx)
  ·obtain⟨sl,e1⟩:=I.base.slot b o e n hb hx
   exact⟨sl,(hs.2 b (Nat.ne_of_lt (Nat.lt_of_lt_of_le (Heap.lt_size e) I.ok.above))).trans e1⟩
  ·obtain⟨o',e1⟩:=I.base.there b o e hx
   exact⟨o',(hs.2 b (Nat.ne_of_lt (Nat.lt_of_lt_of_le (Heap.lt_size e) I.ok.above))).trans e1⟩
  ·by_cases hj:j=i
   ·subst hj
    rw [hi] at e1;cases e1
    rw [List.getElem?_set_self hiσ] at e2
    cases e2
    exact⟨u,r,.inl ⟨hk,by simp⟩⟩
   ·rw [List.getElem?_set_ne (Ne.symm hj)] at e2
    obtain⟨u',r',q⟩:=hl j y v' e1 e2 e3
    refine⟨u',r',?_⟩
    rcases q with ⟨k,e⟩|⟨k,c,e,z⟩
    ·refine .inl ⟨k,?_⟩
     have:y≠x:=fun e=>hj (sW hN e1 (e▸hi))
     simp [this,e]
    ·exact .inr ⟨k,c,e,z.sameBut hs (cne y c e)⟩
  ·obtain⟨w',z⟩:=I.cell y c e
   exact⟨w',z.sameBut hs (cne y c e)⟩
  ·obtain⟨e,n,ne,nf,d⟩:=I.pin p hp
   exact⟨(hs.2 p.1 ne).trans e,n,ne,nf,d⟩
 ·have hfn:X.fn x=true:=by
   rcases hf with z|z
   ·exact z
   ·rw [z] at hk;cases hk
  obtain⟨c,hc⟩:=I.ok.has x (.inl hk)
  obtain⟨w',z⟩:=I.cell x c hc
  refine wpAny_storeName_cell I.ok.kind hk hc z (fun h' hc' hs=> ?_)
  obtain⟨oc,hoc,hocd⟩:=id z
  refine h {s with heap:=h'} ⟨I.ok,I.os,I.bare,⟨fun b o e n hb hx=> ?_,fun b o e n hb hx=> ?_,I.base.free,fun b o e hx=> ?_,I.base.tups,I.base.frzs,I.base.tbls⟩,⟨m,hn.sameBut hs (Ne.symm (cne x c hc)),fun j y v' e1 e2 e3=> ?_⟩,fun y c' e=> ?_,I.free,I.freeC,fun p hp=> ?_,tracked ⟨oc,hoc,I.freeC x c hc⟩ hs,by simpa using I.len⟩ ⟨c,hs,.inr hc⟩
  ·exact(hs.2 b (Nat.ne_of_lt (Nat.lt_of_lt_of_le (Heap.lt_size e) (I.ok.cab x c hfn hc)))).trans (I.base.keep b o e n hb hx)
  ·obtain⟨sl,e1⟩:=I.base.slot b o e n hb hx
   exact⟨sl,(hs.2 b (Nat.ne_of_lt (Nat.lt_of_lt_of_le (Heap.lt_size e) (I.ok.cab x c hfn hc)))).trans e1⟩
  ·obtain⟨o',e1⟩:=I.base.there b o e hx
   exact⟨o',(hs.2 b (Nat.ne_of_lt (Nat.lt_of_lt_of_le (Heap.lt_size e) (I.ok.cab x c hfn hc)))).trans e1⟩
  ·by_cases hj:j=i
   ·subst hj
    rw [hi] at e1;cases e1
    rw [List.getElem?_set_self hiσ] at e2
    cases e2
    exact⟨u,r,.inr ⟨.inl hk,c,hc,hc'⟩⟩
   ·rw [List.getElem?_set_ne (Ne.symm hj)] at e2
    obtain⟨u',r',q⟩:=hl j y v' e1 e2 e3
    refine⟨u',r',?_⟩
    rcases q with q|⟨k,c',e,z'⟩
    ·exact .inl q
    ·refine .inr ⟨k,c',e,z'.sameBut hs ?_⟩
     rintro rfl
     exact hj (sW hN e1 (I.ok.inj _ _ _ e hc▸hi))
  ·by_cases hcc:c'=c
   ·subst hcc;exact⟨_,hc'⟩
   ·obtain⟨w2,z2⟩:=I.cell y c' e
    exact⟨w2,z2.sameBut hs hcc⟩
  ·obtain⟨e,n,ne,nf,d⟩:=I.pin p hp
   refine⟨(hs.2 p.1 ?_).trans e,n,ne,nf,d⟩
   intro q
   rw [q,hoc] at e
   have q':oc=p.2:=Option.some.inj e
   exact d w' (by rw [<-q'];exact hocd)
theorem sX{M:Model}{A:Around}{E:Value->Shared->Prop}{i:Nat}{x:Str}{v:V}{u:Value}{Q:Unit->Shared->Prop}(I:Inv X pins σ H s)(hN:X.N.Nodup)(hi:X.N[i]? =some x)(hx:Loc X.env.scope x)(r:cC v u)
  (h:∀s',Inv X pins (σ.set i (some v)) H s'->Q () s') (hf:X.fn x=true\/X.env.scope.names.lookup x=some .local:=by first|exact .inl rfl|exact .inr rfl|assumption):wpAny M A (storeName X.env x u) Q E s:=
 xK I hN hi hx r (fun s' I' _=>h s' I') hf
theorem Inv.call'{s':Shared}{ch:List Addr}(I:Inv X pins σ H s)(ho:s'.os=s.os)(u:Un (frs X.stack) ch H H' s.heap s'.heap)(hok:HOk X.prog X.w H' s'.heap)(hg:AllBare s'.gens)
  (hch:∀b∈ch,(b∈X.ex\/X.s₀.heap.objs.size<=b)/\b≠X.env.locals/\(∀x c,X.env.cells.lookup x=some c->c≠b)/\∀p∈X.pn++pins,p.1≠b):Inv X pins σ H' s':=by
 obtain⟨h',g',d',t',o'⟩:=s'
 have e:o'=s.os:=ho
 subst e
 exact I.call (g':=g') (t':=t') (d':=d') u hok hg hch
end
abbrev XK:=Value->Option Addr->Hp->Prop
abbrev St:=List (Option V)
abbrev VK:=V->Hp->Prop
abbrev TE:=St->Hp->VK->Prop
abbrev TT:=St->Hp->(Bool->Hp->Prop)->Prop
abbrev TA:=St->Hp->(List V->Hp->Prop)->Prop
structure Ends where
 nx:St->Hp->Prop
 rt:VK
 bk:St->Hp->Prop:=fun _ _=>False
 ct:St->Hp->Prop:=fun _ _=>False
abbrev TS:=Ends->St->Hp->Prop
def EP(X:Cx)(pins:tzB)(σ:St)(Q:VK)(u:Value)(s':Shared):Prop:=∃v H',Inv X pins σ H' s'/\cC v u/\Q v H'
def TP(X:Cx)(pins:tzB)(σ:St)(Q:Bool->Hp->Prop)(b:Bool)(s':Shared):Prop:=∃H',Inv X pins σ H' s'/\Q b H'
def AP(X:Cx)(pins:tzB)(σ:St)(Q:List V->Hp->Prop)(us:List Value)(s':Shared):Prop:=∃vs H',Inv X pins σ H' s'/\bH vs us/\Q vs H'
def SP(X:Cx)(pins:tzB)(D:Ends)(f:Flow)(s':Shared):Prop:=
 match f with
 | .next=>∃σ' H',Inv X pins σ' H' s'/\D.nx σ' H'
 | .brk=>∃σ' H',Inv X pins σ' H' s'/\D.bk σ' H'
 | .cont=>∃σ' H',Inv X pins σ' H' s'/\D.ct σ' H'
 | .ret u=>∃v σ' H',Inv X pins σ' H' s'/\cC v u/\D.rt v H'
def PE(X:Cx)(e:Expr)(t:TE):Prop:=
 ∀(pins:tzB) (s:Shared) (σ:St) (H:Hp) (Q:VK),Inv X pins σ H s->t σ H Q->wpAny (model X.prog X.w) X.A (eval e X.env) (EP X pins σ Q) X.xe s
def PT(X:Cx)(e:Expr)(t:TT):Prop:=
 ∀(pins:tzB) (s:Shared) (σ:St) (H:Hp) (Q:Bool->Hp->Prop),Inv X pins σ H s->t σ H Q->wpAny (model X.prog X.w) X.A (isTrue e X.env (eval e X.env)) (TP X pins σ Q) X.xe s
def PW(X:Cx)(e:Expr)(t:TT):Prop:=
 ∀(whole:Sem Value) (pins:tzB) (s:Shared) (σ:St) (H:Hp) (Q:Bool->Hp->Prop),Inv X pins σ H s->t σ H Q->wpAny (model X.prog X.w) X.A (isTrue e X.env whole) (TP X pins σ Q) X.xe s
theorem PW.pt{X:Cx}{e:Expr}{t:TT}(h:PW X e t):PT X e t:=h _
def PA(X:Cx)(es:List Expr)(t:TA):Prop:=
 ∀(pos:Pos) (pins:tzB) (s:Shared) (σ:St) (H:Hp) (Q:List V->Hp->Prop),Inv X pins σ H s->t σ H Q->wpAny (model X.prog X.w) X.A (spliced (backTo pos (starEach es X.env))) (AP X pins σ Q) X.xe s
def PS(X:Cx)(st:Stmt)(t:TS):Prop:=
 ∀(pins:tzB) (s:Shared) (σ:St) (H:Hp) (D:Ends),Inv X pins σ H s->t D σ H->wpAny (model X.prog X.w) X.A (exec st X.env) (SP X pins D) X.xe s
def PSs(X:Cx)(st:List Stmt)(t:TS):Prop:=
 ∀(pins:tzB) (s:Shared) (σ:St) (H:Hp) (D:Ends),Inv X pins σ H s->t D σ H->wpAny (model X.prog X.w) X.A (execs st X.env) (SP X pins D) X.xe s
theorem thn{α:Type}{t:Sem α}{Q Q':α->Shared->Prop}{M:Model}{A:Around}{E:Value->Shared->Prop}{s:Shared}(h:wpAny M A t Q E s)(hQ:∀a s,Q a s->Q' a s):wpAny M A t Q' E s:=wpAny_mono h hQ fun _ _ x=>x
section
variable{X:Cx}
def zc2(i:Nat):TE:=fun σ H Q=>∃v,σ[i]? =some (some v)/\Q v H
def tC(v:V):TE:=fun _ H Q=>Q v H
theorem lK{i:Nat}{x:Str}{pos:Pos}(hN:X.N[i]? =some x)(hv:Vis X.env.scope x)(hd:(x==("__debug__":Str))=false:=by decide)(hcd:(x==("__classdict__":Str))=false:=by decide):PE X (.Name x pos) (zc2 i):=by
 intro pins s σ H Q I h
 obtain⟨v,e,h⟩:=h
 obtain⟨m,hn,hl⟩:=I.loc
 obtain⟨u,r,l⟩:=hl i x v hN e hv
 have fin:EP X pins σ Q u s:=⟨v,H,I,r,h⟩
 rcases l with ⟨hk,hm⟩|⟨hk,c,hc,hcell⟩
 ·exact wpAny_Name (wpAny_loadName_local I.ok.kind hk hn hm fin) hd
 ·rcases hk with hk|hk
  ·exact wpAny_Name (wpAny_loadName_cell I.ok.kind hk hc hcell fin) hd
  ·exact wpAny_Name (wpAny_loadName_free I.ok.kind hk hc hcell fin hcd) hd
theorem fU{i j pos}:PE X (.Constant (.int i) j pos) (tC (.int i)):=fun _ _ _ H _ I h=>wpAny_Constant_int ⟨.int i,H,I.tok _,⟨_,rfl⟩,h⟩
theorem zd1{b j pos}:PE X (.Constant (.bool b) j pos) (tC (.bl b)):=fun _ _ _ H _ I h=>Constant_bool ⟨.bl b,H,I,rfl,h⟩
theorem xL{j pos}:PE X (.Constant .none j pos) (tC .non):=fun _ _ _ H _ I h=>Constant_none ⟨.non,H,I,rfl,h⟩
theorem xM{x j pos}:PE X (.Constant (.str x) j pos) (tC (.str x)):=fun _ _ _ H _ I h=>Calls.Constant_str ⟨.str x,H,I.tok _,⟨_,rfl⟩,h⟩
def Gl(X:Cx)(x:Str):Prop:=X.env.kindOf x=some .globalImplicit
theorem vI{E:Value->Shared->Prop}{pins:tzB}{s:Shared}{σ:St}{H:Hp}{x:Str}{u:Value}{pos:Pos}{Q:Value->Shared->Prop}(I:Inv X pins σ H s)(hg:Gl X x)(hm:X.mg x=some u)(h:Q u s)
  (hd:(x==("__debug__":Str))=false:=by decide):wpAny (model X.prog X.w) X.A (eval (.Name x pos) X.env) Q E s:=
 Calls.Name_function_global I.ok.kind hg (Calls.loadGlobal_global (by rw [I.ok.glob];exact I.mod.glob.keeps I.bk) hm h) hd
theorem nV{E:Value->Shared->Prop}{pins:tzB}{s:Shared}{σ:St}{H:Hp}{x:Str}{u:Value}{pos:Pos}{Q:Value->Shared->Prop}(I:Inv X pins σ H s)(hg:Gl X x)(hm:X.mg x=none)(hv:bootBuiltins x=some u)(h:Q u s)
  (hn:x≠"__name__":=by decide) (hd:(x==("__debug__":Str))=false:=by decide):wpAny (model X.prog X.w) X.A (eval (.Name x pos) X.env) Q E s:=by
 obtain⟨mb,h1,h2⟩:=I.mod.blt
 exact Calls.Name_function_global I.ok.kind hg (Calls.loadGlobal_builtin (by rw [I.ok.glob];exact I.mod.glob.keeps I.bk) hm (by rw [I.ok.blt];exact h1.keeps I.bk) ((h2 x hn).trans hv) h) hd
theorem ze8{x:Str}{v:V}{u:Value}{pos:Pos}(hg:Gl X x)(hm:X.mg x=some u)(r:cC v u)(hd:(x==("__debug__":Str))=false:=by decide):PE X (.Name x pos) (tC v):=
 fun _ _ _ H _ I h=>vI I hg hm ⟨v,H,I,r,h⟩ hd
theorem ze9{x:Str}{v:V}{u:Value}{pos:Pos}(hg:Gl X x)(hm:X.mg x=none)(hv:bootBuiltins x=some u)(r:cC v u)(hn:x≠"__name__":=by decide)(hd:(x==("__debug__":Str))=false:=by decide):PE X (.Name x pos) (tC v):=
 fun _ _ _ H _ I h=>nV I hg hm hv ⟨v,H,I,r,h⟩ hn hd
variable{a b:Expr}{ta tb:TE}{pos:Pos}
variable{tA tB':TT}{bC:List Expr}
def zt0(t u:TT):TT:=fun σ H Q=>t σ H fun c H1=>if c=true then u σ H1 Q else Q false H1
def tOr(t u:TT):TT:=fun σ H Q=>t σ H fun c H1=>if c=true then Q true H1 else u σ H1 Q
def zt1(t:TT):TT:=fun σ H Q=>t σ H fun c H1=>Q (!c) H1
theorem zf0(ha:PT X a tA):PW X (.BoolOp .And [a] pos) tA:=by
 intro wh pins s σ H Q I h
 refine isTrue_and (thn (ha pins s σ H Q I h) fun c s1 e=> ?_)
 cases c with
 |true=>exact isTrue_and_nil e
 |false=>exact e
theorem zi9(ha:PT X a tA):PW X (.BoolOp .Or [a] pos) tA:=by
 intro wh pins s σ H Q I h
 refine isTrue_or (thn (ha pins s σ H Q I h) fun c s1 e=> ?_)
 cases c with
 |false=>exact isTrue_or_nil e
 |true=>exact e
theorem zj0(ha:PT X a tA)(hb:PW X (.BoolOp .And (b::bC) pos) tB'):PW X (.BoolOp .And (a::b::bC) pos) (zt0 tA tB'):=by
 intro wh pins s σ H Q I h
 refine isTrue_and (thn (ha pins s σ H _ I h) fun c s1 ⟨H1,I1,q1⟩=> ?_)
 cases c with
 |true=>exact hb wh pins s1 σ H1 Q I1 q1
 |false=>exact⟨H1,I1,q1⟩
theorem zo7(ha:PT X a tA)(hb:PW X (.BoolOp .Or (b::bC) pos) tB'):PW X (.BoolOp .Or (a::b::bC) pos) (tOr tA tB'):=by
 intro wh pins s σ H Q I h
 refine isTrue_or (thn (ha pins s σ H _ I h) fun c s1 ⟨H1,I1,q1⟩=> ?_)
 cases c with
 |true=>exact⟨H1,I1,q1⟩
 |false=>exact hb wh pins s1 σ H1 Q I1 q1
theorem zj1(ha:PT X a tA):PT X (.UnaryOp .Not a pos) (zt1 tA):=by
 intro pins s σ H Q I h
 exact isTrue_not (ha pins s σ H (fun c H1=>Q (!c) H1) I h)
def zq6(ta tb:TE):TE:=fun σ H Q=>ta σ H fun x H1=>∃c,x= .bl c/\if c=true then tb σ H1 Q else Q (.bl false) H1
def zq7(ta:TE):TE:=fun σ H Q=>ta σ H fun x H1=>∃c,x= .bl c/\Q (.bl (!c)) H1
theorem zj2{op}{t:TE}(h:PE X a t):PE X (.BoolOp op [a] pos) t:=fun pins s σ H Q I hw=>BoolOp_one (h pins s σ H Q I hw)
theorem zj3(ha:PE X a ta)(hb:PE X (.BoolOp .And (b::bC) pos) tb):PE X (.BoolOp .And (a::b::bC) pos) (zq6 ta tb):=by
 intro pins s σ H Q I h
 refine BoolOp_and (thn (ha pins s σ H _ I h) fun v s1 ⟨x,H1,I1,r1,q1⟩=> ?_)
 obtain⟨c,rfl,q1⟩:=q1
 cases r1
 refine wpAny_truthy_bool ?_
 cases c with
 |true=>exact hb pins s1 σ H1 Q I1 q1
 |false=>exact⟨.bl false,H1,I1,rfl,q1⟩
theorem zj4(ha:PE X a ta):PE X (.UnaryOp .Not a pos) (zq7 ta):=by
 intro pins s σ H Q I h
 refine UnaryOp_ (thn (ha pins s σ H _ I h) fun v s1 ⟨x,H1,I1,r1,q1⟩=> ?_)
 obtain⟨c,rfl,q1⟩:=q1
 cases r1
 exact not_of (wpAny_truthy_bool ⟨.bl (!c),H1,I1,rfl,q1⟩)
end
def SqL(K:tz0)(H:Hp)(a:Addr)(xs:List V):Prop:=
 Rd H a (.lst xs)\/
  ∃(o:Obj) (its:Array Value) (n:Nat),K.lookup a=some o/\o.cls= .type "list"/\o.dict=none/\o.data= .seq its n/\its.size<=sizeLine/\bH xs its.toList
def SqT(K:tz0)(H:Hp)(a:Addr)(xs:List V):Prop:=
 Rd H a (.tup xs)\/
  ∃(o:Obj) (its:Array Value) (n:Nat),K.lookup a=some o/\o.cls= .type "tuple"/\o.data= .seq its n/\its.size<=sizeLine/\bH xs its.toList
def zt2:Value->Option V
 | .none=>some .non
 | .bool b=>some (.bl b)
 | .int i _=>some (.int i)
 | .str x _=>some (.str x)
 | .bytes b _=>some (.byt b)
 | .float b _=>some (.flt b)
 | .ref a=>some (.ref a)
 | .type n=>some (.ty n)
 |_=>none
theorem cC.abs{x:V}{u:Value}(r:cC x u):zt2 u=some x:=by
 cases x with
 |non=>cases r;rfl
 |bl _=>cases r;rfl
 |int _=>obtain⟨t,rfl⟩:=r;rfl
 |str _=>obtain⟨t,rfl⟩:=r;rfl
 |byt _=>obtain⟨t,rfl⟩:=r;rfl
 |flt _=>obtain⟨t,rfl⟩:=r;rfl
 |ref _=>cases r;rfl
 |ty _=>cases r;rfl
theorem cC.inj{x y:V}{u:Value}(r:cC x u)(q:cC y u):x=y:=Option.some.inj (r.abs.symm.trans q.abs)
theorem bH.inj:∀{xs ys:List V} {us:List Value},bH xs us->bH ys us->xs=ys
 |_,_,_,.nil,.nil=>rfl
 |_,_,_,.cons r t,.cons r' t'=>by rw [r.inj r',bH.inj t t']
section
variable{X:Cx}{pins:tzB}{σ:St}{H:Hp}{s:Shared}{a:Addr}{xs ys:List V}
theorem SqL.of{K:tz0}(h:H a=some (.lst xs)):SqL K H a xs:= .inl (.inl h)
theorem SqT.of{K:tz0}(h:H a=some (.tup xs)):SqT K H a xs:= .inl (.inl h)
theorem Inv.list(I:Inv X pins σ H s)(h:SqL X.K H a xs):∃its:List Value,bH xs its/\PlainL s.heap a its.toArray/\xs.length<=sizeLine:=by
 rcases h with h|⟨o,its,n,hk,hc,hd,hs,hz,r⟩
 ·obtain⟨z,its,n,r,e⟩:=h.ok I.hok
  exact⟨its,r,⟨_,n,e,rfl,rfl,rfl⟩,z⟩
 ·refine⟨its.toList,r,⟨o,n,I.kIn a o hk,hc,hd,by simpa using hs⟩,?_⟩
  have e:=r.length
  simp only [Array.length_toList] at e
  omega
theorem Inv.tuple(I:Inv X pins σ H s)(h:SqT X.K H a xs):∃its:List Value,bH xs its/\IsTup s.heap a its.toArray/\xs.length<=sizeLine:=by
 rcases h with h|⟨o,its,n,hk,hc,hs,hz,r⟩
 ·obtain⟨z,its,r,p⟩:=h.ok I.hok
  exact⟨its,r,p,z⟩
 ·refine⟨its.toList,r,⟨o,I.kIn a o hk,hc,n,by simpa using hs⟩,?_⟩
  have e:=r.length
  simp only [Array.length_toList] at e
  omega
theorem Inv.list_inj(I:Inv X pins σ H s)(h:SqL X.K H a xs)(h':SqL X.K H a ys):xs=ys:=by
 obtain⟨its,r,⟨o,n,e,_,_,d⟩,_⟩:=I.list h
 obtain⟨its',r',⟨o',n',e',_,_,d'⟩,_⟩:=I.list h'
 rw [e] at e';cases e'
 rw [d] at d'
 injection d' with d1 _
 have:its=its':=by simpa using congrArg Array.toList d1
 subst this
 exact r.inj r'
theorem Inv.tuple_inj(I:Inv X pins σ H s)(h:SqT X.K H a xs)(h':SqT X.K H a ys):xs=ys:=by
 obtain⟨its,r,⟨o,e,_,n,d⟩,_⟩:=I.tuple h
 obtain⟨its',r',⟨o',e',_,n',d'⟩,_⟩:=I.tuple h'
 rw [e] at e';cases e'
 rw [d] at d'
 injection d' with d1 _
 have:its=its':=by simpa using congrArg Array.toList d1
 subst this
 exact r.inj r'
end
abbrev Cx.wish(X:Cx)(E:Value->Shared->Prop):Cx:={X with xe:=E}
abbrev Cx.nox(X:Cx):Cx:=X.wish fun _ _=>False
theorem Cx.Ok.wish{X:Cx}(ok:X.Ok)(E:Value->Shared->Prop):(X.wish E).Ok:=
 ⟨ok.mod,ok.kind,ok.glob,ok.blt,ok.above,ok.inj,ok.has,ok.cab,ok.hd,ok.frames,ok.stk,ok.exf,ok.bs,ok.bsz,ok.noex,ok.exfs,ok.funs,ok.frf⟩
theorem Cx.Ok.unwish{X:Cx}{E:Value->Shared->Prop}(ok:(X.wish E).Ok):X.Ok:=
 ⟨ok.mod,ok.kind,ok.glob,ok.blt,ok.above,ok.inj,ok.has,ok.cab,ok.hd,ok.frames,ok.stk,ok.exf,ok.bs,ok.bsz,ok.noex,ok.exfs,ok.funs,ok.frf⟩
section
variable{X:Cx}{pins:tzB}{σ:St}{H:Hp}{s:Shared}{E:Value->Shared->Prop}
theorem Inv.wish(I:Inv X pins σ H s)(E:Value->Shared->Prop):Inv (X.wish E) pins σ H s:=⟨I.ok.wish E,I.os,I.bare,I.base,I.loc,I.cell,I.free,I.freeC,I.pin,I.hok,I.len⟩
theorem Inv.unwish(I:Inv (X.wish E) pins σ H s):Inv X pins σ H s:=⟨I.ok.unwish,I.os,I.bare,I.base,I.loc,I.cell,I.free,I.freeC,I.pin,I.hok,I.len⟩
theorem SP.unwish{D:Ends}{f:Flow}{s':Shared}(h:SP (X.wish E) pins D f s'):SP X pins D f s':=by
 cases f with
 |next=>obtain⟨σ',H',I,q⟩:=h;exact⟨σ',H',I.unwish,q⟩
 |brk=>obtain⟨σ',H',I,q⟩:=h;exact⟨σ',H',I.unwish,q⟩
 |cont=>obtain⟨σ',H',I,q⟩:=h;exact⟨σ',H',I.unwish,q⟩
 |ret u=>obtain⟨v,σ',H',I,r,q⟩:=h;exact⟨v,σ',H',I.unwish,r,q⟩
theorem PE.nox{e:Expr}{t:TE}(h:PE X.nox e t):PE X e t:=fun pins s σ H Q I hw=>
 wpAny_mono (h pins s σ H Q (I.wish _) hw) (fun _ _ ⟨v,H',I',r,q⟩=>⟨v,H',I'.unwish,r,q⟩) fun _ _ z=>False.elim z
theorem PT.nox{e:Expr}{t:TT}(h:PT X.nox e t):PT X e t:=fun pins s σ H Q I hw=>
 wpAny_mono (h pins s σ H Q (I.wish _) hw) (fun _ _ ⟨H',I',q⟩=>⟨H',I'.unwish,q⟩) fun _ _ z=>False.elim z
theorem PSs.nox{st:List Stmt}{t:TS}(h:PSs X.nox st t):PSs X st t:=fun pins s σ H D I hw=>
 wpAny_mono (h pins s σ H D (I.wish _) hw) (fun _ _ q=>q.unwish) fun _ _ z=>False.elim z
end
section
variable{X:Cx}{st:Stmt}{bC:List Stmt}{t u:TS}{e:Expr}{te:TE}{pos:Pos}
def zq8:TS:=fun D σ H=>D.nx σ H
def zt3(t u:TS):TS:=fun D σ H=>t {D with nx:=u D} σ H
theorem vJ:PSs X [] zq8:=fun _ _ σ H _ I h=>wpAny_execs_nil ⟨σ,H,I,h⟩
theorem jV(h1:PS X st t)(h2:PSs X bC u):PSs X (st::bC) (zt3 t u):=by
 intro pins s σ H D I h
 refine wpAny_execs_cons (thn (h1 pins s σ H {D with nx:=u D} I h) fun f s1 q=> ?_)
 cases f with
 |next=>
  obtain⟨σ',H',I',q⟩:=q
  exact h2 pins s1 σ' H' D I' q
 |ret v=>exact q
 |brk=>exact q
 |cont=>exact q
theorem oZ(h1:PS X st t):PSs X [st] t:=by
 intro pins s σ H D I h
 refine wpAny_execs_cons (thn (h1 pins s σ H D I h) fun f s1 q=> ?_)
 cases f with
 |next=>exact wpAny_execs_nil q
 |ret v=>exact q
 |brk=>exact q
 |cont=>exact q
theorem Inv.quiet{pins:tzB}{σ:St}{H:Hp}{s:Shared}(I:Inv X pins σ H s):interactive X.env=false:=by simp [interactive,I.ok.kind]
def zq9(te:TE):TS:=fun D σ H=>te σ H fun _ H1=>D.nx σ H1
theorem zf1(he:PE X e te)(hs:swapsWith e none pos.line X.env=pure false:=by rfl):PS X (.Expr e pos) (zq9 te):=by
 intro pins s σ H D I h
 exact wpAny_Expr_any (thn (he pins s σ H _ I h) fun v s1 ⟨x,H1,I1,r1,q1⟩=>⟨σ,H1,I1,q1⟩) I.quiet hs
def zt4(te:TE):TS:=fun D σ H=>te σ H D.rt
theorem nW(he:PE X e te):PS X (.Return (some e) pos) (zt4 te):=by
 intro pins s σ H D I h
 exact wpAny_Return_some (thn (he pins s σ H _ I h) fun v s1 ⟨x,H1,I1,r1,q1⟩=>⟨x,σ,H1,I1,r1,q1⟩)
def zt5(c:TT)(t u:TS):TS:=fun D σ H=>c σ H fun b H1=>if b=true then t D σ H1 else u D σ H1
theorem zd2{c:Expr}{a b:List Stmt}{tc:TT}(hc:PT X c tc)(ha:PSs X a t)(hb:PSs X b u):PS X (.If c a b pos) (zt5 tc t u):=by
 intro pins s σ H D I h
 refine wpAny_If (thn (hc pins s σ H _ I h) fun d s1 ⟨H1,I1,q1⟩=> ?_)
 cases d with
 |true=>exact ha pins s1 σ H1 D I1 q1
 |false=>exact hb pins s1 σ H1 D I1 q1
end
abbrev TG:=V->St->Hp->(St->Hp->Prop)->Prop
def PG(X:Cx)(target:Expr)(t:TG):Prop:=
 ∀(pins:tzB) (s:Shared) (σ:St) (H:Hp) (v:V) (u:Value) (Q:St->Hp->Prop),Inv X pins σ H s->cC v u->t v σ H Q->
  wpAny (model X.prog X.w) X.A (assign target X.env u) (fun _ s'=>∃σ' H',Inv X pins σ' H' s'/\Q σ' H') X.xe s
abbrev zc3:=V->V->V->Hp->(Hp->Prop)->Prop
def zn2(X:Cx)(t:zc3):Prop:=
 ∀(pins:tzB) (s:Shared) (σ:St) (H:Hp) (o i v:V) (ov iv u:Value) (Q:Hp->Prop),Inv X pins σ H s->cC o ov->cC i iv->cC v u->t o i v H Q->
  wpAny (model X.prog X.w) X.A (setItem ov iv u) (fun _ s'=>∃H',Inv X pins σ H' s'/\Q H') X.xe s
section
variable{X:Cx}{pos:Pos}
def kT(i:Nat):TG:=fun v σ H Q=>Q (σ.set i (some v)) H
theorem jI{i:Nat}{x:Str}(hN:X.N.Nodup)(hi:X.N[i]? =some x)(hx:Loc X.env.scope x)(hf:X.fn x=true\/X.env.scope.names.lookup x=some .local:=by first|exact .inl rfl|exact .inr rfl|assumption):PG X (.Name x pos) (kT i):=by
 intro pins s σ H v u Q I r h
 exact wpAny_assign_Name (sX I hN hi hx r (fun s' I'=>⟨_,H,I',h⟩) hf)
def zt6(to ti:TE)(t:zc3):TG:=fun v σ H Q=>to σ H fun o H1=>ti σ H1 fun i H2=>t o i v H2 fun H3=>Q σ H3
theorem zj5{o i:Expr}{to ti:TE}{t:zc3}(ho:PE X o to)(hi:PE X i ti)(hs:zn2 X t)
  (ha:∀v,assign (.Subscript o i pos) X.env v=(do
   let ov<-holding [v] (eval o X.env)
   let iv<-holding [v,ov] (eval i X.env)
   standAt pos
   holding [v,ov,iv] (setItem ov iv v)
   release [v,ov,iv] []):=by intro _;rfl):PG X (.Subscript o i pos) (zt6 to ti t):=by
 intro pins s σ H v u Q I r h
 rw [ha]
 refine wpAny_bind (wpAny_holding (thn (ho pins s σ H _ I h) fun ov s1 ⟨x,H1,I1,r1,q1⟩=> ?_))
 refine wpAny_bind (wpAny_holding (thn (hi pins s1 σ H1 _ I1 q1) fun iv s2 ⟨y,H2,I2,r2,q2⟩=> ?_))
 refine wpAny_bind (wpAny_standAt (wpAny_bind (wpAny_holding (thn (hs pins s2 σ H2 x y v ov iv u _ I2 r1 r2 r q2) fun _ s3 ⟨H3,I3,q3⟩=> ?_))))
 exact wpAny_release ⟨σ,H3,I3,q3⟩
def zn3(te:TE)(g:TG):TS:=fun D σ H=>te σ H fun x H1=>g x σ H1 D.nx
theorem zj6{tg e:Expr}{te:TE}{g:TG}(he:PE X e te)(hg:PG X tg g)(hs:swapsWithSole [tg] e pos.line X.env=pure false:=by rfl)(hw:swappedStores [tg] e X.env=pure none:=by rfl)
  (h1:(assignEach [tg] X.env).map (·.2)=[assign tg X.env]:=by rfl):PS X (.Assign [tg] e pos) (zn3 te g):=by
 intro pins s σ H D I h
 refine wpAny_Assign_stores (thn (he pins s σ H _ I h) fun v s1 ⟨x,H1,I1,r1,q1⟩=> ?_) hs hw
 rw [h1]
 exact thn (hg pins s1 σ H1 x v _ I1 r1 q1) fun _ s2 q=>q
theorem mH{i:Nat}{x:Str}{e:Expr}{te:TE}{pos':Pos}(hN:X.N.Nodup)(hi:X.N[i]? =some x)(hx:Loc X.env.scope x)(he:PE X e te)(hs:swapsWith e (some (.Name x pos')) pos.line X.env=pure false:=by rfl)(hf:X.fn x=true\/X.env.scope.names.lookup x=some .local:=by first|exact .inl rfl|exact .inr rfl|assumption):
  PS X (.Assign [.Name x pos'] e pos) (zn3 te (kT i)):=by
 intro pins s σ H D I h
 refine wpAny_Assign_Name (thn (he pins s σ H _ I h) fun v s1 ⟨y,H1,I1,r1,q1⟩=> ?_) hs
 exact sX I1 hN hi hx r1 (fun s2 I2=>⟨_,H1,I2,q1⟩) hf
def zn4(c:TT)(tb:TS):TS:=fun D σ H=>∃W:Nat->St->Hp->Prop,(∃m,W m σ H)/\∀m σ H,W m σ H->
 c σ H fun b H1=>if b=true then ∃N:St->Hp->Prop,(∀σ' H',N σ' H'->∃m',m'<m/\W m' σ' H')/\tb {D with nx:=N,ct:=N,bk:=D.nx} σ H1 else D.nx σ H1
theorem zS{c:Expr}{body:List Stmt}{tc:TT}{tb:TS}(hp:PassesOwn (model X.prog X.w) X.A X.env X.xe)(hc:PT X c tc)(hb:PSs X body tb):PS X (.While c body [] pos) (zn4 tc tb):=by
 intro pins s σ H D I h
 obtain⟨W,⟨m0,w0⟩,turn⟩:=h
 refine wpAny_While (codeAny_whileLoop (fun n s'=>∃σ' H',Inv X pins σ' H' s'/\W n σ' H') ?_ m0 ⟨σ,H,I,w0⟩)
 rintro n s1 ⟨σ1,H1,I1,w1⟩
 refine wpAny_passesOwn hp (thn (hc pins s1 σ1 H1 _ I1 (turn n σ1 H1 w1)) fun b s2 ⟨H2,I2,q2⟩=> ?_)
 cases b with
 | true=>
  obtain⟨N,hN,q2⟩:=q2
  rw [if_pos rfl]
  refine wpAny_passesOwn hp (thn (hb pins s2 σ1 H2 _ I2 q2) fun f s3 q3=> ?_)
  cases f with
  |next=>
   obtain⟨σ3,H3,I3,n3⟩:=q3
   obtain⟨m',hm,w3⟩:=hN σ3 H3 n3
   exact⟨m',hm,σ3,H3,I3,w3⟩
  |cont=>
   obtain⟨σ3,H3,I3,n3⟩:=q3
   obtain⟨m',hm,w3⟩:=hN σ3 H3 n3
   exact⟨m',hm,σ3,H3,I3,w3⟩
  |brk=>exact q3
  |ret v=>exact q3
 |false=>
  rw [if_neg Bool.false_ne_true]
  exact wpAny_execs_nil ⟨σ1,H2,I2,q2⟩
end
structure It where
 go:Nat->Hp->Prop
 yld:Nat->Hp->V->Hp->Prop
 stop:Nat->Hp->Prop
def lR(X:Cx)(pins:tzB)(H:Hp)(b:Addr):Prop:=
 H b=none/\b≠X.env.locals/\b∉X.fs/\(b∈X.ex\/X.s₀.heap.objs.size<=b)/\(∀x c,X.env.cells.lookup x=some c->c≠b)/\∀p∈X.pn++pins,p.1≠b
theorem Inv.fpOk{X:Cx}{pins:tzB}{σ:St}{H H':Hp}{s:Shared}{b:Addr}(I:Inv X pins σ H s)(hb:s.heap.objs.size<=b)(hn:H' b=none):lR X pins H' b:=by
 refine⟨hn,Nat.ne_of_gt (Nat.lt_of_lt_of_le I.lt hb),I.nofs hb,.inr (Nat.le_trans I.sz hb),fun x c e z=> ?_,fun p hp z=> ?_⟩
 ·obtain⟨v,q⟩:=I.cell x c e
  exact absurd (Nat.lt_of_lt_of_le q.lt (by rw [z];exact hb)) (Nat.lt_irrefl _)
 ·exact absurd (Nat.lt_of_lt_of_le (Heap.lt_size (I.pin p hp).1) (by rw [z];exact hb)) (Nat.lt_irrefl _)
structure Turn(P:Program)(w:World)(K:tz0)(tg:Expr)(J:It)(fp:List Addr)(it:Addr)(tn:Nat->Heap->Prop):Prop where
 mem:it∈fp
 obj:∀i h,tn i h->∀b∈fp,∃o,h.get? b=some o/\∀v,o.data≠ .cell v
 keep:∀i h h',tn i h->(∀b∈fp,∀o,h.get? b=some o->h'.get? b=some o)->tn i h'
 item:∀(X:Cx),X.prog=P->X.w=w->X.K=K->X.calm=true->∀(i:Nat) (pins:tzB) (s:Shared) (σ:St) (H:Hp) (E:Value->Shared->Prop),Inv X pins σ H s->(∀b∈fp,lR X pins H b)->tn i s.heap->J.go i H->
  wpAny (model P w) X.A (pyNext (.ref it)) (fun r s1=>∃u,r=some u/\
   wpAny (model P w) X.A (letOwnedTupleGo tg (.ref it) u) (fun _ s2=>∃x H',Inv X pins σ H' s2/\cC x u/\J.yld i H x H'/\tn (i+1) s2.heap/\∀b∈fp,H' b=none) E s1) E s
 done:∀(X:Cx),X.prog=P->X.w=w->X.K=K->X.calm=true->∀(i:Nat) (pins:tzB) (s:Shared) (σ:St) (H:Hp) (E:Value->Shared->Prop),Inv X pins σ H s->(∀b∈fp,lR X pins H b)->tn i s.heap->J.stop i H->
  wpAny (model P w) X.A (pyNext (.ref it)) (fun r s1=>r=none/\Inv X pins σ H s1) E s
 self:∀(A:Around) (i:Nat) (s:Shared) (Q:Value->Shared->Prop) (E:Value->Shared->Prop),tn i s.heap->Q (.ref it) s->wpAny (model P w) A (pyIter (.ref it)) Q E s
abbrev TI:=St->Hp->(It->Hp->Prop)->Prop
def PIE(X:Cx)(pins:tzB)(σ:St)(tg:Expr)(R:It->Hp->Prop)(itv:Value)(s2:Shared):Prop:=
 ∃(it:Addr) (fp:List Addr) (tn:Nat->Heap->Prop) (J:It) (H':Hp),itv= .ref it/\Inv X pins σ H' s2/\Turn X.prog X.w X.K tg J fp it tn/\tn 0 s2.heap/\(∀b∈fp,lR X pins H' b)/\R J H'
def PI(X:Cx)(tg iter:Expr)(wi:TI):Prop:=
 ∀(pins:tzB) (s:Shared) (σ:St) (H:Hp) (R:It->Hp->Prop),Inv X pins σ H s->wi σ H R->
  wpAny (model X.prog X.w) X.A (eval iter X.env) (fun v s1=>wpAny (model X.prog X.w) X.A (pyIter v) (PIE X pins σ tg R) X.xe s1) X.xe s
theorem sN{M:Model}{A:Around}{E:Value->Shared->Prop}{s:Shared}{tg:Expr}{it:Addr}{u:Value}{o:Obj}{n:String}{vs:Array Value}{Q:Unit->Shared->Prop}(ho:s.heap.get? it=some o)(hc:o.cls= .type n)(hd:o.data= .fields vs)
  (hn:["enumerate","zip","dict_itemiterator","dict_reverseitemiterator","odict_iterator","itertools.zip_longest","itertools.pairwise"].contains n=false) (hQ:Q () s):wpAny M A (letOwnedTupleGo tg (.ref it) u) Q E s:=by
 unfold letOwnedTupleGo
 cases tg<;>first
  |exact wpAny_pure hQ
  | (cases u<;>first
    |exact wpAny_pure hQ
    | (refine wpAny_bind (wpAny_load ho ?_)
       rw [hc,hd]
       show wpAny M A (if (["enumerate","zip","dict_itemiterator","dict_reverseitemiterator","odict_iterator","itertools.zip_longest","itertools.pairwise"].contains n&&vs[0]? ==some (rawInt _))=true then _ else _) Q E s
       rw [if_neg (by intro h;rw [hn,Bool.false_and] at h;cases h)]
       exact wpAny_pure hQ))
def Itl(K:tz0)(a:Addr):It:=
 ⟨fun i H=>∃xs x,SqL K H a xs/\xs[i]? =some x,fun i H x H'=>H'=H/\∀xs,SqL K H a xs->xs[i]? =some x,fun i H=>∃xs,SqL K H a xs/\xs.length<=i⟩
def Itt(K:tz0)(a:Addr):It:=
 ⟨fun i H=>∃xs x,SqT K H a xs/\xs[i]? =some x,fun i H x H'=>H'=H/\∀xs,SqT K H a xs->xs[i]? =some x,fun i H=>∃xs,SqT K H a xs/\xs.length<=i⟩
def Itr(lo:Int)(n:Nat):It:=⟨fun i _=>i<n,fun i H x H'=>H'=H/\x= .int (lo+i),fun i _=>n<=i⟩
theorem xN{P:Program}{w:World}{K:tz0}{tg:Expr}(a it:Addr):Turn P w K tg (Itl K a) [it] it (fun i h=>h.IsListIter it a i) where
 mem:=by simp
 obj:=fun i h st b hb=>by
  have e:b=it:=by simpa using hb
  subst e
  obtain⟨o,e,c,d⟩:=st
  exact⟨o,e,fun v z=>by rw [d] at z;cases z⟩
 keep:=fun i h h' st k=>st.at fun o e=>k it (by simp) o e
 item:=by
  intro X hP hw hK hc i pins s σ H E I hf st hg
  subst hP hw hK
  obtain⟨xs,x,hq,hx⟩:=hg
  obtain⟨its,rv,p,hz⟩:=I.list hq
  obtain⟨u,hu,ru⟩:=rv.get hx
  obtain⟨f0,f1,f2,f3,f4,f5⟩:=hf it (by simp)
  refine wpAny_pyNext_list_item st p.isList (x:=u) (by simpa using hu) fun h' st' sb=> ?_
  have I1:Inv X pins σ H {s with heap:=h'}:=I.turned (t':=s.toks) (fun b o hb e=>(sb.2 b hb).trans e) f0 f1 f3 f4 f5
  obtain⟨o,e,c,d⟩:=id st'
  exact⟨u,rfl,sN (s:={s with heap:=h'}) e c d (by decide) ⟨x,H,I1,ru,⟨rfl,fun ys hy=>by rw [I.list_inj hy hq];exact hx⟩,st',fun b hb=>(hf b hb).1⟩⟩
 done:=by
  intro X hP hw hK hc i pins s σ H E I hf st hg
  subst hP hw hK
  obtain⟨xs,hq,hx⟩:=hg
  obtain⟨its,rv,p,hz⟩:=I.list hq
  obtain⟨f0,f1,f2,f3,f4,f5⟩:=hf it (by simp)
  have hl:=rv.length
  exact wpAny_pyNext_list_end (I.ok.hd hc) st p.isList (by simp;omega) fun h' eb=>⟨rfl,I.turned (t':=s.toks) (fun b o hb e=>eb b o hb e) f0 f1 f3 f4 f5⟩
 self:=fun _ _ _ _ _ st h=>wpAny_pyIter_listiter st h
theorem wB{P:Program}{w:World}{K:tz0}{tg:Expr}(a it:Addr):Turn P w K tg (Itt K a) [it] it (fun i h=>h.IsTupleIter it a i) where
 mem:=by simp
 obj:=fun i h st b hb=>by
  have e:b=it:=by simpa using hb
  subst e
  obtain⟨o,e,c,d⟩:=st
  exact⟨o,e,fun v z=>by rw [d] at z;cases z⟩
 keep:=fun i h h' st k=>st.at fun o e=>k it (by simp) o e
 item:=by
  intro X hP hw hK hc i pins s σ H E I hf st hg
  subst hP hw hK
  obtain⟨xs,x,hq,hx⟩:=hg
  obtain⟨its,rv,p,hz⟩:=I.tuple hq
  obtain⟨u,hu,ru⟩:=rv.get hx
  obtain⟨f0,f1,f2,f3,f4,f5⟩:=hf it (by simp)
  refine wpAny_pyNext_tuple_item st (show s.heap.IsTuple a its.toArray from p) (x:=u) (by simpa using hu) fun h' st' sb=> ?_
  have I1:Inv X pins σ H {s with heap:=h'}:=I.turned (t':=s.toks) (fun b o hb e=>(sb.2 b hb).trans e) f0 f1 f3 f4 f5
  obtain⟨o,e,c,d⟩:=id st'
  exact⟨u,rfl,sN (s:={s with heap:=h'}) e c d (by decide) ⟨x,H,I1,ru,⟨rfl,fun ys hy=>by rw [I.tuple_inj hy hq];exact hx⟩,st',fun b hb=>(hf b hb).1⟩⟩
 done:=by
  intro X hP hw hK hc i pins s σ H E I hf st hg
  subst hP hw hK
  obtain⟨xs,hq,hx⟩:=hg
  obtain⟨its,rv,p,hz⟩:=I.tuple hq
  obtain⟨f0,f1,f2,f3,f4,f5⟩:=hf it (by simp)
  have hl:=rv.length
  exact wpAny_pyNext_tuple_end (I.ok.hd hc) st (show s.heap.IsTuple a its.toArray from p) (by simp;omega) fun h' eb=>⟨rfl,I.turned (t':=s.toks) (fun b o hb e=>eb b o hb e) f0 f1 f3 f4 f5⟩
 self:=fun _ _ _ _ _ st h=>wpAny_pyIter_tupleiter st h
theorem wC{P:Program}{w:World}{K:tz0}{tg:Expr}(it:Addr)(lo:Int)(n:Nat):Turn P w K tg (Itr lo n) [it] it (fun i h=>IsRangeIter h it (lo+(i:Nat)*1) ((n:Int)-(i:Nat)) 1) where
 mem:=by simp
 obj:=fun i h st b hb=>by
  have e:b=it:=by simpa using hb
  subst e
  exact⟨_,st,fun v z=>by
   have z':Data.fields _=Data.cell v:=z
   cases z'⟩
 keep:=fun i h h' st k=>k it (by simp) _ st
 item:=by
  intro X hP hw hK hc i pins s σ H E I hf st hg
  subst hP hw hK
  obtain⟨f0,f1,f2,f3,f4,f5⟩:=hf it (by simp)
  have W:=Walks.range (prog:=X.prog) (w:=X.w) (I.ok.hd hc) it lo 1 n
  refine W.item i s _ _ hg st fun v h' tk hv st' kk=> ?_
  obtain⟨t,rfl⟩:=hv
  have I1:Inv X pins σ H {s with heap:=h',toks:=tk}:=I.turned (fun b o hb e=>kk b o (by simpa using hb) e) f0 f1 f3 f4 f5
  refine⟨_,rfl,sN (s:={s with heap:=h',toks:=tk}) (n:="range_iterator") st' rfl rfl (by decide) ⟨.int (lo+i),H,I1,⟨t,?_⟩,⟨rfl,rfl⟩,st',fun b hb=>(hf b hb).1⟩⟩
  rw [Int.mul_one]
 done:=by
  intro X hP hw hK hc i pins s σ H E I hf st hg
  subst hP hw hK
  obtain⟨f0,f1,f2,f3,f4,f5⟩:=hf it (by simp)
  exact wpAny_pyNext_range_end (I.ok.hd hc) st (by have:n<=i:=hg;omega) fun h' eb=>⟨rfl,I.turned (t':=s.toks) (fun b o hb e=>eb b o hb e) f0 f1 f3 f4 f5⟩
 self:=fun _ _ _ _ _ st h=>wpAny_pyIter_rangeiter st h
section
variable{X:Cx}{tg:Expr}
theorem sY{pins:tzB}{σ:St}{H:Hp}{s:Shared}{R:It->Hp->Prop}{E:Value->Shared->Prop}{lo hi:Int}{t u v:Tok}{tk:Nat}(I:Inv X pins σ H s)(h1: -(2^62)<=lo)(h2:lo<2^62)(h3: -(2^62)<=hi)(h4:hi<2^62)
  (q:R (Itr lo (hi-lo).toNat) H):wpAny (model X.prog X.w) X.A (pyIter (.ref s.heap.objs.size)) (PIE X pins σ tg R) E {s with heap:=s.heap.push {cls:= .type "range",data:= .fields #[.int lo t,.int hi u,.int 1 v]},toks:=tk}:=by
 refine wpAny_pyIter_range (IsRange.new ..) (small_one h1 h2 h3 h4) ?_
 have I1:Inv X pins σ H {s with heap:=s.heap.push {cls:= .type "range",data:= .fields #[.int lo t,.int hi u,.int 1 v]},toks:=tk}:=I.kept fun b o e=>Heap.get?_push_of_some _ e
 refine⟨(s.heap.push {cls:= .type "range",data:= .fields #[.int lo t,.int hi u,.int 1 v]}).objs.size,[(s.heap.push {cls:= .type "range",data:= .fields #[.int lo t,.int hi u,.int 1 v]}).objs.size],_,_,H,rfl,
  I1.kept (t':=tk) fun b o e=>Heap.get?_push_of_some _ e,wC _ lo (hi-lo).toNat,?_,fun b hb=> ?_,q⟩
 ·have e1:lo+((0:Nat):Int)*1=lo:=by simp
  have e2:(((hi-lo).toNat:Nat):Int)-((0:Nat):Int)=Builtin.Range.rangeSize lo hi 1:=by rw [rangeSize_one];split<;>omega
  show IsRangeIter _ _ (lo+((0:Nat):Int)*1) ((((hi-lo).toNat:Nat):Int)-((0:Nat):Int)) 1
  rw [e1,e2]
  exact Heap.get?_push_size _ rfl
 ·have e:b=(s.heap.push {cls:= .type "range",data:= .fields #[.int lo t,.int hi u,.int 1 v]}).objs.size:=by simpa using hb
  subst e
  exact I1.fpOk (Nat.le_refl _) (I1.hok.fresh (Nat.le_refl _))
def zr0(ta:TA):TI:=fun σ H R=>ta σ H fun vs H1=>∃j:Int,vs=[.int j]/\ -(2^62)<=j/\j<2^62/\R (Itr 0 j.toNat) H1
def zr1(ta:TA):TI:=fun σ H R=>ta σ H fun vs H1=>∃i j:Int,vs=[.int i,.int j]/\(-(2^62)<=i/\i<2^62/\ -(2^62)<=j/\j<2^62)/\R (Itr i (j-i).toNat) H1
theorem xO{a:Expr}{ta:TA}{p pos:Pos}(hg:Gl X "range")(hm:X.mg "range"=none)(ha:PA X [a] ta)(hs:starEach [a] X.env=[(false,eval a X.env)]:=by rfl):PI X tg (.Call (.Name "range" p) [a] [] pos) (zr0 ta):=by
 intro pins s σ H R I h
 refine Call_ (nV I hg hm boot_range (PyProof.Rows.callWith_type1 (thn (ha pos pins s σ H _ I h) fun us s1 ⟨vs,H1,I1,r1,q1⟩=> ?_) hs rfl))
 obtain⟨j,e,q1,q2,q⟩:=q1
 subst e
 cases r1 with
 |cons r rr=>
  cases rr
  obtain⟨t,rfl⟩:=r
  exact call_range_1 (sY I1 (by omega) (by omega) q1 q2 (by simpa using q))
theorem xP{a b:Expr}{ta:TA}{p pos:Pos}(hg:Gl X "range")(hm:X.mg "range"=none)(ha:PA X [a,b] ta)(hs:starEach [a,b] X.env=[(false,eval a X.env),(false,eval b X.env)]:=by rfl)(hs2:starEach [b] X.env=[(false,eval b X.env)]:=by rfl):
  PI X tg (.Call (.Name "range" p) [a,b] [] pos) (zr1 ta):=by
 intro pins s σ H R I h
 refine Call_ (nV I hg hm boot_range (PyProof.Rows.callWith_type1 (thn (ha pos pins s σ H _ I h) fun us s1 ⟨vs,H1,I1,r1,q1⟩=> ?_) (by rw [hs,hs2]) (by rw [hs2];rfl)))
 obtain⟨i,j,e,⟨q1,q2,q3,q4⟩,q⟩:=q1
 subst e
 cases r1 with
 | cons r rr=>
  cases rr with
  |cons r' rr=>
   cases rr
   obtain⟨t,rfl⟩:=r
   obtain⟨t',rfl⟩:=r'
   exact call_range_2 (sY I1 q1 q2 q3 q4 q)
def zt7(wi:TI)(g:TG)(tb:TS):TS:=fun D σ H=>wi σ H fun J H1=>∃W:Nat->Nat->St->Hp->Prop,(∃m,W 0 m σ H1)/\∀i m σ H,W i m σ H->
 (J.stop i H/\D.nx σ H)\/(J.go i H/\∃N:St->Hp->Prop,(∀σ' H',N σ' H'->∃m',m'<m/\W (i+1) m' σ' H')/\∀x H',J.yld i H x H'->g x σ H' fun σ2 H2=>tb {D with nx:=N,ct:=N,bk:=D.nx} σ2 H2)
def mR(fp:List Addr)(h:Heap):tzB:=fp.filterMap fun b=>(h.get? b).map fun o=>(b,o)
theorem lD{fp:List Addr}{h:Heap}{b:Addr}{o:Obj}(hb:b∈fp)(e:h.get? b=some o):(b,o)∈mR fp h:=List.mem_filterMap.mpr ⟨b,hb,by rw [e];rfl⟩
theorem xQ{fp:List Addr}{h:Heap}{p:Addr×Obj}(hp:p∈mR fp h):p.1∈fp/\h.get? p.1=some p.2:=by
 obtain⟨b,hb,e⟩:=List.mem_filterMap.mp hp
 cases q:h.get? b with
 |none=>rw [q] at e;cases e
 |some o=>
  rw [q] at e
  have e':(b,o)=p:=Option.some.inj e
  subst e'
  exact⟨hb,q⟩
theorem Inv.pinned{pins:tzB}{σ:St}{H:Hp}{s:Shared}{fp:List Addr}(I:Inv X pins σ H s)(hf:∀b∈fp,lR X pins H b)(ho:∀b∈fp,∃o,s.heap.get? b=some o/\∀v,o.data≠ .cell v):Inv X (pins++mR fp s.heap) σ H s:=
 I.pins_of fun p hp=>(List.mem_append.mp hp).elim (fun z=>I.pin p (List.mem_append_right _ z)) fun z=>by
  obtain⟨hb,e⟩:=xQ z
  obtain⟨f0,f1,f2,_⟩:=hf p.1 hb
  obtain⟨o,e',d⟩:=ho p.1 hb
  rw [e] at e';cases e'
  exact⟨e,f0,f1,f2,d⟩
theorem Inv.unpinned{pins pl:tzB}{σ:St}{H:Hp}{s:Shared}(I:Inv X (pins++pl) σ H s):Inv X pins σ H s:=I.pins_of fun p hp=>I.pin p (List.mem_append_right _ (List.mem_append_left _ hp))
theorem sZ{iter:Expr}{body:List Stmt}{wi:TI}{g:TG}{tb:TS}{pos:Pos}(hp:PassesOwn (model X.prog X.w) X.A X.env X.xe)(hc:X.calm=true)(hi:PI X tg iter wi)(hg:PG X tg g)(hb:PSs X body tb)
  (hs:∀x,foldedSetIterable iter X.env x=pure x:=by intro _;rfl):PS X (.For tg iter body [] pos) (zt7 wi g tb):=by
 intro pins s σ H D I h
 refine wpAny_For (thn (hi pins s σ H _ I h) fun v s1 h1=>thn h1 fun itv s2 h2=> ?_) hs
 obtain⟨it,fp,tn,J,H2,e,I2,T,st2,f2,W,⟨m0,w0⟩,turn⟩:=h2
 subst e
 have stat:∀{H':Hp},(∀b∈fp,H' b=none)->∀b∈fp,lR X pins H' b:=fun hn b hb=>⟨hn b hb,(f2 b hb).2⟩
 refine codeAny_forLoop_any (fun n s'=>∃i σ' H',Inv X pins σ' H' s'/\tn i s'.heap/\(∀b∈fp,H' b=none)/\W i n σ' H') ?_ m0 ⟨0,σ,H2,I2,st2,fun b hb=>(f2 b hb).1,w0⟩
 rintro n s3 ⟨i,σ3,H3,I3,st3,fr3,w3⟩
 rcases turn i n σ3 H3 w3 with ⟨stop,qn⟩|⟨go,N,hN,step⟩
 ·refine wpAny_passesOwn hp (thn (T.done X rfl rfl rfl hc i pins s3 σ3 H3 X.xe I3 (stat fr3) st3 stop) fun r s4 ⟨hr,I4⟩=> ?_)
  subst hr
  exact wpAny_execs_nil ⟨σ3,H3,I4,qn⟩
 ·refine wpAny_passesOwn hp (thn (T.item X rfl rfl rfl hc i pins s3 σ3 H3 X.xe I3 (stat fr3) st3 go) fun r s4 ⟨u,hr,h4⟩=> ?_)
  subst hr
  refine wpAny_passesOwn hp (thn h4 fun _ s5 ⟨x,H5,I5,r5,y5,st5,fr5⟩=> ?_)
  have I5':=I5.pinned (stat fr5) (T.obj _ _ st5)
  refine wpAny_passesOwn hp (thn (hg _ s5 σ3 H5 x u _ I5' r5 (step x H5 y5)) fun _ s6 ⟨σ6,H6,I6,q6⟩=> ?_)
  refine wpAny_passesOwn hp (thn (hb _ s6 σ6 H6 _ I6 q6) fun f s7 q7=> ?_)
  have again:∀{σ7:St} {H7:Hp},Inv X (pins++mR fp s5.heap) σ7 H7 s7->N σ7 H7->∃m,m<n/\∃i σ' H',Inv X pins σ' H' s7/\tn i s7.heap/\(∀b∈fp,H' b=none)/\W i m σ' H':=fun {σ7 H7} I7 n7=>by
   obtain⟨m',hm,w7⟩:=hN σ7 H7 n7
   refine⟨m',hm,i+1,σ7,H7,I7.unpinned,T.keep _ _ _ st5 fun b hb o e=>(I7.pin (b,o) (List.mem_append_right _ (List.mem_append_right _ (lD hb e)))).1,fun b hb=> ?_,w7⟩
   obtain⟨o,e,d⟩:=T.obj _ _ st5 b hb
   exact(I7.pin (b,o) (List.mem_append_right _ (List.mem_append_right _ (lD hb e)))).2.1
  cases f with
  |next=>obtain⟨σ7,H7,I7,n7⟩:=q7;exact again I7 n7
  |cont=>obtain⟨σ7,H7,I7,n7⟩:=q7;exact again I7 n7
  |brk=>obtain⟨σ7,H7,I7,q7⟩:=q7;exact⟨σ7,H7,I7.unpinned,q7⟩
  |ret v=>obtain⟨x7,σ7,H7,I7,r7,q7⟩:=q7;exact⟨x7,σ7,H7,I7.unpinned,r7,q7⟩
end
abbrev R2:=V->V->Hp->VK->Prop
def OpR(X:Cx)(f:Value->Value->Sem Value)(r:R2):Prop:=
 ∀(pins:tzB) (s:Shared) (σ:St) (H:Hp) (x y:V) (v u:Value) (Q:VK),Inv X pins σ H s->cC x v->cC y u->r x y H Q->
  wpAny (model X.prog X.w) X.A (f v u) (EP X pins σ Q) X.xe s
def UnR(X:Cx)(f:Value->Sem Value)(r:V->Hp->VK->Prop):Prop:=
 ∀(pins:tzB) (s:Shared) (σ:St) (H:Hp) (x:V) (v:Value) (Q:VK),Inv X pins σ H s->cC x v->r x H Q->
  wpAny (model X.prog X.w) X.A (f v) (EP X pins σ Q) X.xe s
def cM(X:Cx)(f:Value)(r:List V->Hp->VK->Prop):Prop:=
 ∀(pins:tzB) (s:Shared) (σ:St) (H:Hp) (xs:List V) (us:List Value) (Q:VK),Inv X pins σ H s->bH xs us->r xs H Q->
  wpAny (model X.prog X.w) X.A (call f us) (EP X pins σ Q) X.xe s
def zt8(X:Cx)(r:V->Hp->(Bool->Hp->Prop)->Prop):Prop:=
 ∀(pins:tzB) (s:Shared) (σ:St) (H:Hp) (x:V) (v:Value) (Q:Bool->Hp->Prop),Inv X pins σ H s->cC x v->r x H Q->
  wpAny (model X.prog X.w) X.A (truthy v) (TP X pins σ Q) X.xe s
def tOp(r:R2)(ta tb:TE):TE:=fun σ H Q=>ta σ H fun x H1=>tb σ H1 fun y H2=>r x y H2 Q
def tUn(r:V->Hp->VK->Prop)(ta:TE):TE:=fun σ H Q=>ta σ H fun x H1=>r x H1 Q
def rI(C:Int->Int->Prop)(g:Int->Int->V):R2:=fun x y H Q=>∃i j,x= .int i/\y= .int j/\C i j/\Q (g i j) H
def rI0(g:Int->Int->V):R2:=fun x y H Q=>∃i j,x= .int i/\y= .int j/\Q (g i j) H
def rU(g:Int->V):V->Hp->VK->Prop:=fun x H Q=>∃i,x= .int i/\Q (g i) H
section
variable{X:Cx}{a b c:Expr}{ta tb tc:TE}{pos:Pos}
theorem zT(ha:PE X a ta)(hb:PE X b tb){pins:tzB}{s:Shared}{σ:St}{H:Hp}{R:V->V->Hp->Prop}(I:Inv X pins σ H s)
  (h:ta σ H fun x H1=>tb σ H1 fun y H2=>R x y H2) {Q:Value->Shared->Prop} {f:Value->Value->Sem Value}
  (hf:∀v u s2 x y H2,Inv X pins σ H2 s2->cC x v->cC y u->R x y H2->wpAny (model X.prog X.w) X.A (f v u) Q X.xe s2):
  wpAny (model X.prog X.w) X.A (eval a X.env) (fun v s₁=>wpAny (model X.prog X.w) X.A (eval b X.env) (fun u s₂=>wpAny (model X.prog X.w) X.A (f v u) Q X.xe s₂) X.xe s₁) X.xe s:=by
 refine thn (ha pins s σ H _ I h) fun v s1 ⟨x,H1,I1,r1,q1⟩=> ?_
 refine thn (hb pins s1 σ H1 _ I1 q1) fun u s2 ⟨y,H2,I2,r2,q2⟩=> ?_
 exact hf v u s2 x y H2 I2 r1 r2 q2
theorem eT{op:Operator}{r:R2}(ho:OpR X (binaryOp op) r)(ha:PE X a ta)(hb:PE X b tb):PE X (.BinOp a op b pos) (tOp r ta tb):=by
 intro pins s σ H Q I h
 exact wpAny_BinOp (zT ha hb I h fun v u s2 x y H2 I2 rx ry q=>ho pins s2 σ H2 x y v u Q I2 rx ry q)
theorem zo8{op:UnaryOp}{r:V->Hp->VK->Prop}(ho:UnR X (unaryOp op) r)(ha:PE X a ta):PE X (.UnaryOp op a pos) (tUn r ta):=by
 intro pins s σ H Q I h
 exact UnaryOp_ (thn (ha pins s σ H _ I h) fun v s1 ⟨x,H1,I1,r1,q1⟩=>ho pins s1 σ H1 x v Q I1 r1 q1)
theorem opI{f:Value->Value->Sem Value}{C:Int->Int->Prop}{g:Int->Int->Int}
  (rule:∀(i j:Int) (t u:Tok) (s:Shared) (Q:Value->Shared->Prop) (E:Value->Shared->Prop),C i j->Q (.int (g i j) s.toks) {s with toks:=s.toks+1}->wpAny (model X.prog X.w) X.A (f (.int i t) (.int j u)) Q E s):
  OpR X f (rI C fun i j=> .int (g i j)):=by
 intro pins s σ H x y v u Q I rx ry h
 obtain⟨i,j,rfl,rfl,hc,q⟩:=h
 obtain⟨t,rfl⟩:=rx
 obtain⟨t',rfl⟩:=ry
 exact rule i j t t' s _ _ hc ⟨.int (g i j),H,I.tok _,⟨_,rfl⟩,q⟩
theorem zj7{f:Value->Value->Sem Value}{g:Int->Int->Int}
  (rule:∀(i j:Int) (t u:Tok) (s:Shared) (Q:Value->Shared->Prop) (E:Value->Shared->Prop),Q (.int (g i j) s.toks) {s with toks:=s.toks+1}->wpAny (model X.prog X.w) X.A (f (.int i t) (.int j u)) Q E s):
  OpR X f (rI0 fun i j=> .int (g i j)):=by
 intro pins s σ H x y v u Q I rx ry h
 obtain⟨i,j,rfl,rfl,q⟩:=h
 obtain⟨t,rfl⟩:=rx
 obtain⟨t',rfl⟩:=ry
 exact rule i j t t' s _ _ ⟨.int (g i j),H,I.tok _,⟨_,rfl⟩,q⟩
theorem zU{f:Value->Value->Sem Value}{g:Int->Int->Bool}
  (rule:∀(i j:Int) (t u:Tok) (s:Shared) (Q:Value->Shared->Prop) (E:Value->Shared->Prop),Q (.bool (g i j)) s->wpAny (model X.prog X.w) X.A (f (.int i t) (.int j u)) Q E s):
  OpR X f (rI0 fun i j=> .bl (g i j)):=by
 intro pins s σ H x y v u Q I rx ry h
 obtain⟨i,j,rfl,rfl,q⟩:=h
 obtain⟨t,rfl⟩:=rx
 obtain⟨t',rfl⟩:=ry
 exact rule i j t t' s _ _ ⟨.bl (g i j),H,I,rfl,q⟩
def zt9(i j:Int):Prop:=0<j/\j<1073741824
def zc4(i j:Int):Prop:=(-(2^64)<i/\i<2^64)\/(-(2^64)<j/\j<2^64)
theorem zc4.ok{i j:Int}(h:zc4 i j):IntMulOk i j:=by
 rcases h with ⟨h1,h2⟩|⟨h1,h2⟩
 ·exact .of_left (intBits_le_64 h1 h2)
 ·exact .of_right (intBits_le_64 h1 h2)
theorem wD(k:Nat):(0:Int)<=2^k:=by
 rw [two_pow_cast]
 exact Int.natCast_nonneg _
theorem mI:OpR X (binaryOp .Add) (rI0 fun i j=> .int (i+j)):=zj7 fun _ _ _ _ _ _ _ q=>add_int q
theorem kC:OpR X (binaryOp .Mult) (rI zc4 fun i j=> .int (i*j)):=opI fun _ _ _ _ _ _ _ hc q=>mul_int q hc.ok
theorem vK:OpR X (binaryOp .FloorDiv) (rI zt9 fun i j=> .int (i/j)):=opI fun i j _ _ _ _ _ hc q=>by
 have h1:(0:Int)<j:=hc.1
 have h2:j<1073741824:=hc.2
 exact floordiv_int (by omega) (by rw [Int.fdiv_eq_ediv_of_nonneg i (by omega)];exact q) (.inl (PyProof.noPylong_small (by omega)))
theorem pZ:OpR X (binaryOp .Mod) (rI (fun _ j=>0<j) fun i j=> .int (i % j)):=opI fun i j _ _ _ _ _ hc q=>by
 have h1:(0:Int)<j:=hc
 exact mod_int' (by omega) (by rw [Int.fmod_eq_emod_of_nonneg i (by omega)];exact q)
theorem zj8:OpR X (binaryOp .RShift) (rI (fun _ j=>0<=j) fun i j=> .int (i/2^j.toNat)):=opI fun i j _ _ _ _ _ hc q=>
 rshift_int hc (by rw [Int.fdiv_eq_ediv_of_nonneg i (wD _)];exact q)
theorem xR:OpR X (binaryOp .BitAnd) (rI0 fun i j=> .int (Builtin.bitAnd i j)):=zj7 fun _ _ _ _ _ _ _ q=>and_int q
theorem unI{f:Value->Sem Value}{g:Int->Int}
  (rule:∀(i:Int) (t:Tok) (s:Shared) (Q:Value->Shared->Prop) (E:Value->Shared->Prop),Q (.int (g i) s.toks) {s with toks:=s.toks+1}->wpAny (model X.prog X.w) X.A (f (.int i t)) Q E s):
  UnR X f (rU fun i=> .int (g i)):=by
 intro pins s σ H x v Q I rx h
 obtain⟨i,rfl,q⟩:=h
 obtain⟨t,rfl⟩:=rx
 exact rule i t s _ _ ⟨.int (g i),H,I.tok _,⟨_,rfl⟩,q⟩
theorem zj9:UnR X (unaryOp .USub) (rU fun i=> .int (-i)):=unI fun _ _ _ _ _ q=>neg_int q
end
def zn5:V->V->Bool
 | .non,.non=>true| .non,.int _=>true| .int _,.non=>true| .non,.bl _=>true| .bl _,.non=>true| .non,.str _=>true| .str _,.non=>true
 | .int _,.int _=>true| .bl _,.bl _=>true| .str _,.str _=>true| .byt _,.byt _=>true
 | .int _,.str _=>true| .str _,.int _=>true| .bl _,.str _=>true| .str _,.bl _=>true
 |_,_=>false
def rEq:R2:=fun x y H Q=>zn5 x y=true/\Q (.bl (decide (x=y))) H
def rNe:R2:=fun x y H Q=>zn5 x y=true/\Q (.bl (!decide (x=y))) H
theorem vL{i j:Int}:decide (V.int i=V.int j)=(i==j):=by
 rw [Bool.eq_iff_iff]
 simp
theorem xS{i j:Bool}:decide (V.bl i=V.bl j)=(i==j):=by
 rw [Bool.eq_iff_iff]
 simp
theorem vM{i j:Str}:decide (V.str i=V.str j)=(i==j):=by
 rw [Bool.eq_iff_iff]
 simp
theorem vN{i j:Array UInt8}:decide (V.byt i=V.byt j)=(i.toList==j.toList):=by
 rw [Bool.eq_iff_iff]
 cases i
 cases j
 simp
section
variable{X:Cx}{a b c:Expr}{ta tb tc:TE}{pos:Pos}
theorem cJ{pins:tzB}{σ:St}{H:Hp}{s:Shared}{Q:VK}{k k':Bool}(I:Inv X pins σ H s)(q:Q (.bl k) H)(e:k=k'):EP X pins σ Q (.bool k') s:=by
 subst e
 exact⟨.bl k,H,I,rfl,q⟩
theorem wE:OpR X (compareOp .Eq) rEq:=by
 intro pins s σ H x y v u Q I rx ry h
 obtain⟨hs,q⟩:=h
 cases x with
 |non=>
  cases rx
  cases y with
  |non=>cases ry;exact PySem.EqNone.eq_none_none (cJ I q (by simp))
  |bl j=>cases ry;exact PySem.EqNone.eq_none_bool (cJ I q (by simp))
  |int j=>obtain⟨t',rfl⟩:=ry;exact PySem.EqNone.eq_none_int (cJ I q (by simp))
  |str j=>obtain⟨t',rfl⟩:=ry;exact PySem.EqNone.eq_none_str (cJ I q (by simp))
  |_=>exact absurd (show false=true from hs) Bool.false_ne_true
 |bl i=>
  cases rx
  cases y with
  |non=>cases ry;exact PySem.EqNone.eq_bool_none (cJ I q (by simp))
  |bl j=>cases ry;exact eq_bool (cJ I q xS)
  |str j=>obtain⟨t',rfl⟩:=ry;exact PySem.EqMixed.eq_bool_str (cJ I q (by simp))
  |_=>exact absurd (show false=true from hs) Bool.false_ne_true
 |int i=>
  obtain⟨t,rfl⟩:=rx
  cases y with
  |non=>cases ry;exact PySem.EqNone.eq_int_none (cJ I q (by simp))
  |int j=>obtain⟨t',rfl⟩:=ry;exact eq_int (cJ I q vL)
  |str j=>obtain⟨t',rfl⟩:=ry;exact PySem.EqMixed.eq_int_str (cJ I q (by simp))
  |_=>exact absurd (show false=true from hs) Bool.false_ne_true
 |str i=>
  obtain⟨t,rfl⟩:=rx
  cases y with
  |non=>cases ry;exact PySem.EqNone.eq_str_none (cJ I q (by simp))
  |bl j=>cases ry;exact PySem.EqMixed.eq_str_bool (cJ I q (by simp))
  |int j=>obtain⟨t',rfl⟩:=ry;exact PySem.EqMixed.eq_str_int (cJ I q (by simp))
  |str j=>obtain⟨t',rfl⟩:=ry;exact eq_str (cJ I q vM)
  |_=>exact absurd (show false=true from hs) Bool.false_ne_true
 |byt i=>
  obtain⟨t,rfl⟩:=rx
  cases y with
  |byt j=>obtain⟨t',rfl⟩:=ry;exact PySem.W.eq_bytes (cJ I q vN)
  |_=>exact absurd (show false=true from hs) Bool.false_ne_true
 |_=>cases y<;>exact absurd (show false=true from hs) Bool.false_ne_true
theorem zd3:OpR X (compareOp .NotEq) rNe:=by
 intro pins s σ H x y v u Q I rx ry h
 obtain⟨hs,q⟩:=h
 cases x with
 |non=>
  cases rx
  cases y with
  |non=>cases ry;exact PySem.EqNone.ne_none_none (cJ I q (by simp))
  |bl j=>cases ry;exact PySem.EqNone.ne_none_bool (cJ I q (by simp))
  |int j=>obtain⟨t',rfl⟩:=ry;exact PySem.EqNone.ne_none_int (cJ I q (by simp))
  |str j=>obtain⟨t',rfl⟩:=ry;exact PySem.EqNone.ne_none_str (cJ I q (by simp))
  |_=>exact absurd (show false=true from hs) Bool.false_ne_true
 |bl i=>
  cases rx
  cases y with
  |non=>cases ry;exact PySem.EqNone.ne_bool_none (cJ I q (by simp))
  |bl j=>cases ry;exact ne_bool (cJ I q (congrArg not xS))
  |str j=>obtain⟨t',rfl⟩:=ry;exact PySem.EqMixed.ne_bool_str (cJ I q (by simp))
  |_=>exact absurd (show false=true from hs) Bool.false_ne_true
 |int i=>
  obtain⟨t,rfl⟩:=rx
  cases y with
  |non=>cases ry;exact PySem.EqNone.ne_int_none (cJ I q (by simp))
  |int j=>obtain⟨t',rfl⟩:=ry;exact ne_int (cJ I q (congrArg not vL))
  |str j=>obtain⟨t',rfl⟩:=ry;exact PySem.EqMixed.ne_int_str (cJ I q (by simp))
  |_=>exact absurd (show false=true from hs) Bool.false_ne_true
 |str i=>
  obtain⟨t,rfl⟩:=rx
  cases y with
  |non=>cases ry;exact PySem.EqNone.ne_str_none (cJ I q (by simp))
  |bl j=>cases ry;exact PySem.EqMixed.ne_str_bool (cJ I q (by simp))
  |int j=>obtain⟨t',rfl⟩:=ry;exact PySem.EqMixed.ne_str_int (cJ I q (by simp))
  |str j=>obtain⟨t',rfl⟩:=ry;exact ne_str (cJ I q (congrArg not vM))
  |_=>exact absurd (show false=true from hs) Bool.false_ne_true
 |byt i=>
  obtain⟨t,rfl⟩:=rx
  cases y with
  |byt j=>obtain⟨t',rfl⟩:=ry;exact PySem.W.ne_bytes (cJ I q (congrArg not vN))
  |_=>exact absurd (show false=true from hs) Bool.false_ne_true
 |_=>cases y<;>exact absurd (show false=true from hs) Bool.false_ne_true
theorem zo9:OpR X (compareOp .Lt) (rI0 fun i j=> .bl (decide (i<j))):=zU fun _ _ _ _ _ _ _ q=>lt_int q
theorem zp0:OpR X (compareOp .LtE) (rI0 fun i j=> .bl (decide (i<=j))):=zU fun _ _ _ _ _ _ _ q=>le_int q
theorem zp1:OpR X (compareOp .Gt) (rI0 fun i j=> .bl (decide (j<i))):=zU fun _ _ _ _ _ _ _ q=>gt_int q
theorem xT:OpR X (compareOp .Lt) (fun x y H Q=>∃i j,x= .str i/\y= .str j/\Q (.bl (decide (i.cps.toList<j.cps.toList))) H):=by
 intro pins s σ H x y v u Q I rx ry h
 obtain⟨i,j,rfl,rfl,q⟩:=h
 obtain⟨t,rfl⟩:=rx
 obtain⟨t',rfl⟩:=ry
 exact lt_str (cJ I q rfl)
theorem zk0:OpR X (compareOp .Is) (fun x y H Q=>y= .non/\Q (.bl (decide (x= .non))) H):=by
 intro pins s σ H x y v u Q I rx ry h
 obtain⟨rfl,q⟩:=h
 cases ry
 refine is_none_gen (cJ I q ?_)
 cases x<;>first
  |(cases rx;rfl)
  |(obtain⟨t,rfl⟩:=rx;rfl)
theorem zf2:OpR X (compareOp .IsNot) (fun x y H Q=>y= .non/\Q (.bl (!decide (x= .non))) H):=by
 intro pins s σ H x y v u Q I rx ry h
 obtain⟨rfl,q⟩:=h
 cases ry
 refine isnot_none_gen (cJ I q ?_)
 cases x<;>first
  |(cases rx;rfl)
  |(obtain⟨t,rfl⟩:=rx;rfl)
theorem OpR.or{f:Value->Value->Sem Value}{r r':R2}(h:OpR X f r)(h':OpR X f r'):OpR X f (fun x y H Q=>r x y H Q\/r' x y H Q):=by
 intro pins s σ H x y v u Q I rx ry q
 rcases q with q|q
 ·exact h pins s σ H x y v u Q I rx ry q
 ·exact h' pins s σ H x y v u Q I rx ry q
theorem bE(b:Expr){op:CmpOp}(h:op≠ .In:=by decide)(h2:op≠ .NotIn:=by decide):behindInMarks op b=false:=by
 have e1:(op==CmpOp.In)=false:=by cases op<;>first|rfl|exact absurd rfl h
 have e2:(op==CmpOp.NotIn)=false:=by cases op<;>first|rfl|exact absurd rfl h2
 cases b<;>simp [behindInMarks,e1,e2]
theorem zf3{op:CmpOp}{r:R2}(ho:OpR X (compareOp op) r)(ha:PE X a ta)(hb:PE X b tb)(hm:behindInMarks op b=false):PE X (.Compare a [op] [b] pos) (tOp r ta tb):=by
 intro pins s σ H Q I h
 exact wpAny_Compare1 (zT ha hb I h fun v u s2 x y H2 I2 rx ry q=>ho pins s2 σ H2 x y v u Q I2 rx ry q) hm
def ze0(t:TE):TT:=fun σ H Q=>t σ H fun x H'=>∃k,x= .bl k/\Q k H'
theorem vO{op:CmpOp}{r:R2}(ho:OpR X (compareOp op) r)(ha:PE X a ta)(hb:PE X b tb)(hm:behindInMarks op b=false):PT X (.Compare a [op] [b] pos) (ze0 (tOp r ta tb)):=by
 intro pins s σ H Q I h
 refine wpAny_isTrue_Compare1 (thn (ha pins s σ H _ I h) fun v s1 ⟨x,H1,I1,r1,q1⟩=>thn (hb pins s1 σ H1 _ I1 q1) fun u s2 ⟨y,H2,I2,r2,q2⟩=>
  thn (ho pins s2 σ H2 x y v u _ I2 r1 r2 q2) fun c s3 ⟨z,H3,I3,r3,k,e,q3⟩=> ?_) hm
 subst e
 cases r3
 exact wpAny_truthy_bool ⟨H3,I3,q3⟩
def uU(r r':R2)(ta tb tc:TE):TE:=fun σ H Q=>ta σ H fun x H1=>tb σ H1 fun y H2=>r x y H2 fun z H3=>∃k,z= .bl k/\
 (if k=true then tc σ H3 fun w' H4=>r' y w' H4 Q else Q (.bl false) H3)
theorem zV{op op':CmpOp}{r r':R2}(ho:OpR X (compareOp op) r)(ho':OpR X (compareOp op') r')(ha:PE X a ta)(hb:PE X b tb)(hc:PE X c tc)
  (hm:lastMarks [op,op'] [b,c]=false:=by with_unfolding_all rfl):PE X (.Compare a [op,op'] [b,c] pos) (uU r r' ta tb tc):=by
 intro pins s σ H Q I h
 refine Compare_chain (thn (ha pins s σ H _ I h) fun v s1 ⟨x,H1,I1,r1,q1⟩=>chain_link (thn (hb pins s1 σ H1 _ I1 q1) fun u s2 ⟨y,H2,I2,r2,q2⟩=>
  thn (ho pins s2 σ H2 x y v u _ I2 r1 r2 q2) fun d s3 ⟨z,H3,I3,r3,k,e,q3⟩=> ?_)) hm
 subst e
 cases r3
 refine wpAny_truthy_bool ?_
 cases k with
 |false=>exact ite_ff ⟨.bl false,H3,I3,rfl,q3⟩
 |true=>exact ite_tt (chain_last (thn (hc pins s3 σ H3 _ I3 q3) fun w' s4 ⟨z',H4,I4,r4,q4⟩=>ho' pins s4 σ H4 y z' u w' Q I4 r2 r4 q4))
theorem zW{op op':CmpOp}{r r':R2}(ho:OpR X (compareOp op) r)(ho':OpR X (compareOp op') r')(ha:PE X a ta)(hb:PE X b tb)(hc:PE X c tc)
  (hm:lastMarks [op,op'] [b,c]=false:=by with_unfolding_all rfl):PT X (.Compare a [op,op'] [b,c] pos) (ze0 (uU r r' ta tb tc)):=by
 intro pins s σ H Q I h
 refine isTrue_chain (thn (ha pins s σ H _ I h) fun v s1 ⟨x,H1,I1,r1,q1⟩=>test_link (thn (hb pins s1 σ H1 _ I1 q1) fun u s2 ⟨y,H2,I2,r2,q2⟩=>
  thn (ho pins s2 σ H2 x y v u _ I2 r1 r2 q2) fun d s3 ⟨z,H3,I3,r3,k,e,q3⟩=> ?_)) hm
 subst e
 cases r3
 refine wpAny_truthy_bool ?_
 cases k with
 |false=>
  obtain⟨k',e',q'⟩:=q3
  cases e'
  exact ite_ff ⟨H3,I3,q'⟩
 |true=>
  refine ite_tt (test_last (thn (hc pins s3 σ H3 _ I3 q3) fun w' s4 ⟨z',H4,I4,r4,q4⟩=>thn (ho' pins s4 σ H4 y z' u w' _ I4 r2 r4 q4) fun d' s5 ⟨z2,H5,I5,r5,k2,e2,q5⟩=> ?_))
  subst e2
  cases r5
  exact wpAny_truthy_bool ⟨H5,I5,q5⟩
def zc5(K:tz0)(x:V)(H:Hp)(k:Bool):Prop:=
 match x with
 | .non=>k=false
 | .bl b=>k=b
 | .int i=>k=(i !=0)
 | .str y=>y.length<=sizeLine/\k=((y.length:Int) !=0)
 | .byt y=>y.size<=sizeLine/\k=((y.size:Int) !=0)
 | .ref p=>(∃xs,SqL K H p xs/\k= !xs.isEmpty)\/(∃xs,SqT K H p xs/\k= !xs.isEmpty)\/∃kvs,H p=some (.dK kvs)/\k= !kvs.isEmpty
 |_=>False
theorem wF{κ:Type}{kvs:List (κ×V)}{vs:List (κ×Value)}(r:KV kvs vs):(!vs.isEmpty)= !kvs.isEmpty:=by
 cases r<;>rfl
theorem qA{xs:List V}{its:List Value}(r:bH xs its):(!its.toArray.isEmpty)= !xs.isEmpty:=by
 cases r<;>simp
theorem lL:(sizeLine:Nat)<2^63:=by rw [sizeLine_eq];decide
theorem zk1:zt8 X (fun x H Q=>∃k,zc5 X.K x H k/\Q k H):=by
 intro pins s σ H x v Q I rx h
 obtain⟨k,e,q⟩:=h
 have hl:=lL
 have hs:sizeLine=16777216:=sizeLine_eq
 cases x with
 |non=>
  cases rx
  have e':k=false:=e
  subst e'
  exact truthy_none ⟨H,I,q⟩
 |bl b=>
  cases rx
  have e':k=b:=e
  subst e'
  exact wpAny_truthy_bool ⟨H,I,q⟩
 |int i=>
  obtain⟨t,rfl⟩:=rx
  have e':k=(i !=0):=e
  subst e'
  exact PySem.P.truthy_int ⟨H,I,q⟩
 |str y=>
  obtain⟨t,rfl⟩:=rx
  obtain⟨hy,e'⟩:y.length<=sizeLine/\k=((y.length:Int) !=0):=e
  subst e'
  exact PySem.P.truthy_str (by omega) ⟨H,I.tok _,q⟩
 |byt y=>
  obtain⟨t,rfl⟩:=rx
  obtain⟨hy,e'⟩:y.size<=sizeLine/\k=((y.size:Int) !=0):=e
  subst e'
  exact PySem.W.truthy_bytes (by omega) ⟨H,I.tok _,q⟩
 | ref p=>
  cases rx
  have e':(∃xs,SqL X.K H p xs/\k= !xs.isEmpty)\/(∃xs,SqT X.K H p xs/\k= !xs.isEmpty)\/∃kvs,H p=some (.dK kvs)/\k= !kvs.isEmpty:=e
  rcases e' with ⟨xs,hx,e'⟩|⟨xs,hx,e'⟩|⟨kvs,hx,e'⟩
  ·subst e'
   obtain⟨its,r,pl,hz⟩:=I.list hx
   have hlen:=r.length
   exact wpAny_truthy_list pl.isList (by simp only [List.size_toArray];omega) ⟨H,I.tok _,by rw [qA r];exact q⟩
  ·subst e'
   obtain⟨its,r,pl,hz⟩:=I.tuple hx
   have hlen:=r.length
   exact truthy_tuple pl (by simp only [List.size_toArray];omega) ⟨H,I.tok _,by rw [qA r];exact q⟩
  ·subst e'
   obtain⟨hz,hS,vs,r,m⟩:kvs.length<=sizeLine/\(p==sysModules)=false/\∃vs,KV kvs vs/\s.heap.DictOf (rJ X.prog X.w) p vs:=I.hok p _ hx
   have hlen:kvs.length=vs.length:=Paired.length r
   exact wpAny_truthy_dict hS m (by omega) ⟨H,I.tok _,by rw [wF r];exact q⟩
 |_=>exact(show False from e).elim
theorem zX(ha:PE X a ta)(he:∀whole,isTrue a X.env whole=(do let v<-whole;standAt a.pos;holding [v] (truthy v))):
  PT X a (fun σ H Q=>ta σ H fun x H'=>∃k,zc5 X.K x H' k/\Q k H'):=by
 intro pins s σ H Q I h
 exact isTrue_plain (thn (ha pins s σ H _ I h) fun v s1 ⟨x,H1,I1,r1,q1⟩=>zk1 pins s1 σ H1 x v Q I1 r1 q1) (he _)
theorem wG:OpR X (binaryOp .Add) (fun x y H Q=>∃i j,x= .str i/\y= .str j/\i.length+j.length<=sizeLine/\Q (.str (i++j)) H):=by
 intro pins s σ H x y v u Q I rx ry h
 obtain⟨i,j,rfl,rfl,hz,q⟩:=h
 obtain⟨t,rfl⟩:=rx
 obtain⟨t',rfl⟩:=ry
 exact add_str (fun t' tk=>⟨.str (i++j),H,I.tok _,⟨_,rfl⟩,q⟩) hz
theorem mX{x:V}{us:List Value}(r:bH [x] us):∃u,us=[u]/\cC x u:=by
 cases r with
 |cons r1 r2=>cases r2;exact⟨_,rfl,r1⟩
theorem sO{x y:V}{us:List Value}(r:bH [x,y] us):∃u w',us=[u,w']/\cC x u/\cC y w':=by
 cases r with
 |cons r1 r2=>
  cases r2 with
  |cons r3 r4=>cases r4;exact⟨_,_,rfl,r1,r3⟩
theorem rM(hc:X.calm=true):cM X (.builtin "max") (fun xs H Q=>∃i j,xs=[.int i,.int j]/\Q (.int (if j>i then j else i)) H):=by
 intro pins s σ H xs us Q I r h
 obtain⟨i,j,rfl,q⟩:=h
 obtain⟨u,w',rfl,⟨t,rfl⟩,⟨t',rfl⟩⟩:=sO r
 refine max_two_ints (I.ok.hd hc) fun h' tk k=>⟨_,H,I.kept k,?_,q⟩
 by_cases hj:j>i
 ·rw [if_pos hj,if_pos hj];exact⟨_,rfl⟩
 ·rw [if_neg hj,if_neg hj];exact⟨_,rfl⟩
theorem xU(hc:X.calm=true):cM X (.builtin "min") (fun xs H Q=>∃i j,xs=[.int i,.int j]/\Q (.int (if j<i then j else i)) H):=by
 intro pins s σ H xs us Q I r h
 obtain⟨i,j,rfl,q⟩:=h
 obtain⟨u,w',rfl,⟨t,rfl⟩,⟨t',rfl⟩⟩:=sO r
 refine min_two_ints (I.ok.hd hc) fun h' tk k=>⟨_,H,I.kept k,?_,q⟩
 by_cases hj:j<i
 ·rw [if_pos hj,if_pos hj];exact⟨_,rfl⟩
 ·rw [if_neg hj,if_neg hj];exact⟨_,rfl⟩
end
structure ObjM(h:Heap)(x dx C:Addr)(mA:tzA):Prop where
 obj:h.get? x=some (PySem.W.instObj C dx)
 ns:h.Ns1 dx mA
 ne:dx≠x
theorem xV{h:Heap}{dx:Addr}{mA:tzA}(n:h.Ns1 dx mA):∃od,h.get? dx=some od/\∀name,PySem.W.lookIn name od=some (mA name):=by
 obtain⟨o,es,ep,ho,hd,hk,_,hm⟩:=n
 refine⟨o,ho,fun name=> ?_⟩
 have e:=hm name
 unfold nsFind findBy at e
 rw [<-Array.find?_toList] at e
 unfold PySem.W.lookIn
 rw [hd]
 dsimp only
 split
 ·rename_i y q
  rw [q] at e
  exact congrArg some e
 ·rename_i q
  rw [q] at e
  have a:es.toList.any (·.refKey)=false:=by
   rw [List.any_eq_false]
   intro y hy
   obtain⟨z,t,hkey⟩:=hk y (Array.mem_toList_iff.mp hy)
   simp [DictEntry.refKey,hkey]
  have a':¬es.toList.any (·.refKey)=true:=by rw [a];exact Bool.false_ne_true
  rw [if_neg a']
  exact congrArg some e
theorem ObjM.look{h:Heap}{x dx C:Addr}{mA:tzA}(I:ObjM h x dx C mA):∃od,PySem.W.InstAt h x (PySem.W.instObj C dx) C (some od)/\∀name,PySem.W.lookIn name od=some (mA name):=
 let ⟨od,ho,hl⟩:=xV I.ns
 ⟨od,⟨I.obj,rfl,rfl,ho⟩,hl⟩
theorem lQ.none_of{o:Option Value}(r:lQ none o):o=none:=by
 cases o with
 |none=>rfl
 |some u=>exact(show False from r).elim
section
variable{P:Program}{w:World}{H H':Hp}{h h':Heap}{a C dx:Addr}{fs fs':List (Str×V)}
theorem zf4(hok:HOk P w H h)(e:H a=some (.ins C dx fs)):∃mA,ObjM h a dx C mA/\(∀f,lQ (fs.lookup f) (mA f))/\PySem.Within mA (fs.map (·.1))/\fs.length<=1000/\H dx=some (.own a):=by
 obtain⟨d,z,ne,ob,mA,n,r,q⟩:=(show dW P w H h a (.ins C dx fs) from hok a _ e)
 exact⟨mA,⟨ob,n,ne⟩,r,q,z,d⟩
end
structure Cls(K:tz0)(C:Addr):Prop where
 pg:PySem.W.plainGet K C Str.empty=true
 hd:PySem.W.hasDictIn K C=true
 po:PySem.W.plainOver K C=true
 sa:PySem.W.findIn K (.ref C) "__setattr__"=some (some (.builtin "object.__setattr__"))
theorem Cls.get{K:tz0}{C:Addr}(c:Cls K C)(f:Str):PySem.W.plainGet K C f=true:=c.pg
structure Con(K:tz0)(C:Addr)(f:Str)(v:V)(u:Value):Prop where
 at_:PySem.W.findIn K (.ref C) f=some (some u)
 rel:cC v u
 get:PySem.W.specialIn K u "__get__"=some none
 cp:PySem.W.copiedNames.contains f=false
structure Meth(K:tz0)(C:Addr)(m:Str)(f:Addr):Prop where
 at_:PySem.W.findIn K (.ref C) m=some (some (.ref f))
 fn:PySem.W.isFn K (.ref f)=true
 kp:PySem.W.keepIn K (.ref f)=true
section
variable{X:Cx}{pins:tzB}{σ:St}{H:Hp}{s:Shared}{A:Around}{E:Value->Shared->Prop}{Q:Value->Shared->Prop}{c:Value}{b:Bool}
inductive TyOf(K:tz0)(H:Hp):V->Value->Prop where
 |non:TyOf K H .non (.type "NoneType")
 |bl (x:Bool):TyOf K H (.bl x) (.type "bool")
 |int (i:Int):TyOf K H (.int i) (.type "int")
 |str (x:Str):TyOf K H (.str x) (.type "str")
 |flt (x:UInt64):TyOf K H (.flt x) (.type "float")
 |lst {a:Addr} {xs:List V} (e:H a=some (.lst xs)):TyOf K H (.ref a) (.type "list")
 |frz {a:Addr} {o:Obj} {xs:List V} (e:H a=some (.frz o (.lst xs))):TyOf K H (.ref a) (.type "list")
 |tup {a:Addr} {xs:List V} (e:H a=some (.tup xs)):TyOf K H (.ref a) (.type "tuple")
 |dK {a:Addr} {kvs:List (Key×V)} (e:H a=some (.dK kvs)):TyOf K H (.ref a) (.type "dict")
 |dT {a:Addr} {kvs:List (List Key×V)} (e:H a=some (.dT kvs)):TyOf K H (.ref a) (.type "dict")
 | ins {a C dx:Addr} {fs:List (Str×V)} (e:H a=some (.ins C dx fs)) (cl:Cls K C) (ha:PySem.W.findIn K (.ref C) "__class__"=some (some (.builtin "object.__class__")))
   (hn:PySem.W.specialIn K (.builtin "object.__class__") "__get__"=some (some (.builtin "getset_descriptor.__get__"))) (htk:PySem.W.takesIn K (.builtin "object.__class__")=some true)
   (hm:PySem.W.mroIn K C (.type "object")=some true):TyOf K H (.ref a) (.ref C)
theorem xW{x:V}{u t:Value}(I:Inv X pins σ H s)(rx:cC x u)(ty:TyOf X.K H x t)(e:PySem.W.kitOne X.K t c=some b)(h:∀tk,Q (.bool b) {s with toks:=tk}):
  wpAny (model X.prog X.w) A (call (.builtin "isinstance") [u,c]) Q E s:=by
 cases ty with
 |non=>cases(show u=Value.none from rx);exact PySem.W.kia_one PySem.W.kitx_none I.kIn True.intro e (fun z=>nomatch z) h
 |bl y=>cases(show u=Value.bool y from rx);exact PySem.W.kia_one PySem.W.kitx_bool I.kIn True.intro e (fun z=>nomatch z) h
 |int i=>obtain⟨t,q⟩:=(show ∃t,u=Value.int i t from rx);cases q;exact PySem.W.kia_one PySem.W.kitx_int I.kIn True.intro e (fun z=>nomatch z) h
 |str y=>obtain⟨t,q⟩:=(show ∃t,u=Value.str y t from rx);cases q;exact PySem.W.kia_one PySem.W.kitx_str I.kIn True.intro e (fun z=>nomatch z) h
 |flt y=>obtain⟨t,q⟩:=(show ∃t,u=Value.float y t from rx);cases q;exact PySem.W.kia_one PySem.W.kitx_float I.kIn True.intro e (fun z=>nomatch z) h
 | @lst a xs ea=>
  cases(show u=Value.ref a from rx)
  obtain⟨_,_,n,_,h1⟩:=(show dW X.prog X.w H s.heap a (.lst xs) from I.hok a _ ea)
  exact PySem.W.kia_one PySem.W.kitx_list I.kIn ⟨_,h1,rfl⟩ e (fun z=>nomatch z) h
 | @frz a ob xs ea=>
  cases(show u=Value.ref a from rx)
  obtain⟨_,_,_,n,_,h1⟩:=(show dW X.prog X.w H s.heap a (.frz ob (.lst xs)) from I.hok a _ ea)
  exact PySem.W.kia_one PySem.W.kitx_list I.kIn ⟨_,h1,rfl⟩ e (fun z=>nomatch z) h
 | @tup a xs ea=>
  cases(show u=Value.ref a from rx)
  obtain⟨_,_,_,p⟩:=(show dW X.prog X.w H s.heap a (.tup xs) from I.hok a _ ea)
  obtain⟨o,h1,h2,_⟩:=p
  exact PySem.W.kia_one PySem.W.kitx_tuple I.kIn ⟨o,h1,h2⟩ e (fun z=>nomatch z) h
 | @dK a kvs ea=>
  cases(show u=Value.ref a from rx)
  obtain⟨_,_,vs,_,p⟩:=(show dW X.prog X.w H s.heap a (.dK kvs) from I.hok a _ ea)
  obtain⟨o,es,ep,h1,h2,_⟩:=p
  exact PySem.W.kia_one PySem.W.kitx_dict I.kIn ⟨o,h1,h2.1⟩ e (fun z=>nomatch z) h
 | @dT a kvs ea=>
  cases(show u=Value.ref a from rx)
  obtain⟨_,_,xs,_,o,es,ep,h1,h2,_⟩:=(show dW X.prog X.w H s.heap a (.dT kvs) from I.hok a _ ea)
  exact PySem.W.kia_one PySem.W.kitx_dict I.kIn ⟨o,h1,h2.1⟩ e (fun z=>nomatch z) h
 | @ins a C dx fs ea cl ha hn htk hm=>
  cases(show u=Value.ref a from rx)
  obtain⟨mA,O,_⟩:=zf4 I.hok ea
  obtain⟨od,J,_⟩:=O.look
  exact PySem.W.kia_one (PySem.W.kitx_own (cl.get _) cl.hd ha hn htk hm) I.kIn J e (fun z=>nomatch z) h
end
structure Room(k:Nat)(A:Around):Prop where
 hd:A.handled=none
 dp:A.depth+3*k+5<recursionLimit
 un:A.units+16*k+200<cLine
theorem Room.mono{j k:Nat}{A:Around}(r:Room k A)(h:j<=k):Room j A:=⟨r.hd,by have:=r.dp;omega,by have:=r.un;omega⟩
theorem Room.deeper{k:Nat}{A:Around}(r:Room (k+1) A)(env:Env):Room k (A.deeper env):=
 ⟨r.hd,by have:=r.dp;show A.depth+1+3*k+5<_;omega,by have:=r.un;show A.units+3+16*k+200<_;omega⟩
theorem Room.in1{k:Nat}{A:Around}(r:Room (k+1) A):Room k A.in1:=
 ⟨r.hd,by have:=r.dp;show A.depth+3*k+5<_;omega,by have:=r.un;show A.units+1+16*k+200<_;omega⟩
theorem Room.depth{k:Nat}{A:Around}(r:Room k A):A.depth<recursionLimit:=by have:=r.dp;omega
theorem Room.units{k:Nat}{A:Around}(r:Room k A):A.units+64<cLine:=by have:=r.un;omega
theorem Room.units0{k:Nat}{A:Around}(r:Room k A):A.units<cLine:=by have:=r.un;omega
def zu0:TA:=fun _ H Q=>Q [] H
def zr2(ta:TE)(tr:TA):TA:=fun σ H Q=>ta σ H fun x H1=>tr σ H1 fun xs H2=>Q (x::xs) H2
section
variable{X:Cx}{e:Expr}{es:List Expr}{te:TE}{t:TA}{pos:Pos}
theorem kD:PA X [] zu0:=fun _ _ _ _ H Q I h=>Calls.spliced_nil ⟨[],H,I,.nil,h⟩
theorem fF(ha:PE X e te)(hr:PA X es t)(hs:starEach (e::es) X.env=(false,eval e X.env)::starEach es X.env:=by rfl):PA X (e::es) (zr2 te t):=by
 intro pos pins s σ H Q I h
 rw [hs]
 show wpAny _ _ (spliced ((false,eval e X.env)::backTo pos (starEach es X.env))) _ _ s
 refine Calls.spliced_cons (thn (ha pins s σ H _ I h) fun u s1 ⟨x,H1,I1,r1,q1⟩=> ?_)
 exact thn (hr pos pins s1 σ H1 _ I1 q1) fun us s2 ⟨xs,H2,I2,r2,q2⟩=>⟨x::xs,H2,I2,.cons r1 r2,q2⟩
def zu1(t:TA):TE:=fun σ H Q=>t σ H fun xs H1=>xs.length<=sizeLine/\∀p,H1 p=none->Q (.ref p) (upd H1 p (.tup xs))
def zu2(t:TA):TE:=fun σ H Q=>t σ H fun xs H1=>xs.length<=sizeLine/\∀p,H1 p=none->Q (.ref p) (upd H1 p (.lst xs))
theorem zk2{x1}(h:PA X es t):PE X (.Tuple es x1 pos) (zu1 t):=by
 intro pins s σ H Q I hq
 refine wpAny_Tuple_spliced (thn (h pos pins s σ H _ I hq) fun us s1 ⟨xs,H1,I1,r,z,q⟩=>⟨by rw [<-r.length];exact z,?_⟩)
 have hf:H1 s1.heap.objs.size=none:=I1.hok.fresh (Nat.le_refl _)
 refine⟨.ref s1.heap.objs.size,upd H1 s1.heap.objs.size (.tup xs),I1.laid (t':=s1.toks) (fun b u e=>Heap.get?_push_of_some _ e) (Nat.le_refl _) ?_,rfl,q _ hf⟩
 exact⟨z,us,r,⟨_,Heap.get?_push_size _ rfl,rfl,_,rfl⟩⟩
theorem zk3(h:PA X es t):PE X (.List es pos) (zu2 t):=by
 intro pins s σ H Q I hq
 refine wpAny_List_spliced (thn (h pos pins s σ H _ I hq) fun us s1 ⟨xs,H1,I1,r,z,q⟩=>⟨by rw [<-r.length];exact z,?_⟩)
 have hf:H1 s1.heap.objs.size=none:=I1.hok.fresh (Nat.le_refl _)
 refine⟨.ref s1.heap.objs.size,upd H1 s1.heap.objs.size (.lst xs),I1.laid (t':=s1.toks) (fun b u e=>Heap.get?_push_of_some _ e) (Nat.le_refl _) ?_,rfl,q _ hf⟩
 exact⟨z,us,0,r,Heap.get?_push_size _ rfl⟩
end
abbrev Sp:=List V->Hp->VK->XK->Prop
abbrev CXT:=List Env->Hp->Shared->XK->Value->Shared->Prop
structure Env0(P:Program)(w:World)(K:tz0)(mg:tzA)(base:Heap)(A:Around)(outer:List Env)(s:Shared)(H:Hp):Prop where
 frames:A.frames=some outer
 mod:Mod K mg base
 bs:∀b o,base.get? b=some o->s.heap.get? b=some o/\H b=none
 bsz:base.objs.size<=s.heap.objs.size
 funs:s.heap.FunFrames base outer
 frf:∀b∈frs outer,H b=none
 hok:HOk P w H s.heap
 bare:AllBare s.gens
def CE(outer:List Env)(P:Program)(w:World)(H:Hp)(s:Shared)(Q:VK)(u:Value)(s':Shared):Prop:=
 ∃v H',s'.os=s.os/\AllBare s'.gens/\Un (frs outer) [] H H' s.heap s'.heap/\HOk P w H' s'.heap/\cC v u/\Q v H'
def CR(CX:CXT)(outer:List Env)(P:Program)(w:World)(H:Hp)(s:Shared)(Q:VK)(E:XK)(r:Result)(s':Shared):Prop:=
 match r with
 | .ok (.ret u)=>CE outer P w H s Q u s'
 | .ok _=>False
 | .error e=>CX outer H s E e s'
structure FnOk(P:Program)(w:World)(K:tz0)(mg:tzA)(base:Heap)(CX:CXT)(k:Nat)(f:Addr)(fd:FuncData)(ps:List Str)(sp:Sp):Prop where
 len:∀vs H Q E,sp vs H Q E->vs.length=ps.length
 run:∀(A:Around) (outer:List Env) (s:Shared) (H:Hp) (args:Args) (us:List Value) (vs:List V) (Q:VK) (E:XK),Room k A->Env0 P w K mg base A outer s H->BindsTo s fd args (ps.zip us)->bH vs us->sp vs H Q E->
  codeAny (model P w) A (.call (.ref f) args) (CR CX outer P w H s Q E) s
theorem FnOk.mono{P:Program}{w:World}{K:tz0}{mg:tzA}{base:Heap}{CX:CXT}{j k:Nat}{f:Addr}{fd:FuncData}{ps:List Str}{sp:Sp}(F:FnOk P w K mg base CX j f fd ps sp)(h:j<=k):
  FnOk P w K mg base CX k f fd ps sp:=⟨F.len,fun A outer s H args us vs Q E hr=>F.run A outer s H args us vs Q E (hr.mono h)⟩
theorem FnOk.imp{P:Program}{w:World}{K:tz0}{mg:tzA}{base:Heap}{CX:CXT}{k:Nat}{f:Addr}{fd:FuncData}{ps:List Str}{sp sp':Sp}(F:FnOk P w K mg base CX k f fd ps sp)
  (h:∀vs H Q E,sp' vs H Q E->sp vs H Q E):FnOk P w K mg base CX k f fd ps sp':=
 ⟨fun vs H Q E q=>F.len vs H Q E (h _ _ _ _ q),fun A outer s H args us vs Q E hr he hb hv hs=>F.run A outer s H args us vs Q E hr he hb hv (h _ _ _ _ hs)⟩
theorem Env0.in1{P:Program}{w:World}{K:tz0}{mg:tzA}{base:Heap}{A:Around}{outer:List Env}{s:Shared}{H:Hp}(e:Env0 P w K mg base A outer s H):
  Env0 P w K mg base A.in1 outer s H:=⟨e.frames,e.mod,e.bs,e.bsz,e.funs,e.frf,e.hok,e.bare⟩
section
variable{X:Cx}{pins:tzB}{σ:St}{H:Hp}{s s':Shared}
theorem Inv.env0(I:Inv X pins σ H s):Env0 X.prog X.w X.K X.mg X.base X.A X.stack s H:=
 ⟨I.ok.frames,I.ok.mod,I.bs,Nat.le_trans I.ok.bsz I.sz,I.stack,I.stkFree,I.hok,I.bare⟩
theorem Inv.after{Q:VK}{u:Value}(I:Inv X pins σ H s)(h:CE X.stack X.prog X.w H s Q u s'):EP X pins σ Q u s':=by
 obtain⟨v,H',os,bare,un,hok,r,q⟩:=h
 obtain⟨hh,g,d,t,os'⟩:=s'
 obtain rfl:os'=s.os:=os
 exact⟨v,H',I.call (h':=hh) (g':=g) (d':=d) (t':=t) (ch:=[]) un hok bare (fun b z=>absurd z (by simp)),r,q⟩
end
def ze1(sp:Sp)(dvs:List V)(E:XK)(t:TA):TE:=fun σ H Q=>t σ H fun vs H1=>sp (vs++dvs) H1 Q E
def mB(K:tz0)(fd:FuncData)(ps:List Str)(ds:List Value):Prop:=
 ∀(s:Shared) (us:List Value),K.In s.heap->(us++ds).length=ps.length->BindsTo s fd ⟨us,[]⟩ (ps.zip (us++ds))
theorem mB.all{K:tz0}{fd:FuncData}{ps:List Str}(h:∀us:List Value,us.length=ps.length->bindArgs fd ⟨us,[]⟩=pure (ps.zip us)):mB K fd ps []:=fun s us _ hl=>by
 rw [List.append_nil] at hl|-
 exact .of_eq (h us hl)
def uV(CX:CXT)(X:Cx)(E:XK):Prop:=∀(pins:tzB) (σ:St) (H:Hp) (s:Shared) (e:Value) (s':Shared),Inv X pins σ H s->CX X.stack H s E e s'->X.xe e s'
section
variable{X:Cx}{CX:CXT}{k:Nat}{f C:Addr}{fd:FuncData}{ps:List Str}{sp:Sp}{dvs:List V}{ds:List Value}{E:XK}{x m:Str}{p pos apos:Pos}{e o:Expr}{es:List Expr}{ta:TE}{t:TA}
theorem zk4{pins:tzB}{σ:St}{H:Hp}{s:Shared}{Q:VK}{us:List Value}{vs:List V}(F:FnOk X.prog X.w X.K X.mg X.base CX k f fd ps sp)(hr:Room k X.A)(hb:mB X.K fd ps ds)(hd:bH dvs ds)(hx:uV CX X E)
  (I:Inv X pins σ H s) (r:bH vs us) (h:sp (vs++dvs) H Q E):wpAny (model X.prog X.w) X.A (call (.ref f) us) (EP X pins σ Q) X.xe s:=by
 have r2:bH (vs++dvs) (us++ds):=r.append hd
 have hl:(us++ds).length=ps.length:=by rw [<-r2.length];exact F.len _ _ _ _ h
 refine wpAny_call (codeAny_mono (F.run X.A X.stack s H ⟨us,[]⟩ (us++ds) (vs++dvs) Q E hr I.env0 (hb s us I.kIn hl) r2 h) fun r s' hq=> ?_)
 cases r with
 |error e=>exact hx pins σ H s e s' I hq
 |ok fl=>
  cases fl with
  |ret u=>exact I.after hq
  |next=>exact False.elim hq
  |brk=>exact False.elim hq
  |cont=>exact False.elim hq
theorem zf5(F:FnOk X.prog X.w X.K X.mg X.base CX k f fd ps sp)(hr:Room k X.A)(hg:Gl X x)(hm:X.mg x=some (.ref f))(hk:PySem.W.keepIn X.K (.ref f)=true)(hb:mB X.K fd ps ds)(hd:bH dvs ds)(hx:uV CX X E)
  (ha:PA X (e::es) t) (hdb:(x==("__debug__":Str))=false:=by decide) (he:starEach (e::es) X.env=(false,eval e X.env)::starEach es X.env:=by rfl) (hpl:(backTo pos (starEach es X.env)).any (·.1)=false:=by rfl):
  PE X (.Call (.Name x p) (e::es) [] pos) (ze1 sp dvs E t):=by
 intro pins s σ H Q I h
 refine wpAny_Call_Name_kw (vI I hg hm ?_ hdb)
 refine PySem.W.callWith_K (h₀:=X.base) I.ok.mod.kin hk (thn (ha pos pins s σ H _ I h) fun us s1 ⟨vs,H1,I1,r,q⟩=>⟨I1.kIn,?_⟩) he hpl
 exact zk4 F hr hb hd hx I1 r q
structure Mk(K:tz0)(C f:Addr):Prop where
 makes:PySem.W.makesIn K C=true
 init:PySem.W.findIn K (.ref C) "__init__"=some (some (.ref f))
 fn:PySem.W.isFn K (.ref f)=true
 kp:PySem.W.keepIn K (.ref C)=true
end
section
variable{X:Cx}{CX:CXT}{k:Nat}{f C:Addr}{fd:FuncData}{ps ks:List Str}{sp:Sp}{E:XK}{x m:Str}{p pos apos kpos:Pos}{e o:Expr}{es:List Expr}{kws:List Keyword}{te ta:TE}{t tk:TA}{nm:Option Str}
structure KBinds(K:tz0)(fd:FuncData)(ps ks:List Str)(g:List Value->List Value->List Value)(gV:List V->List V->List V):Prop where
 to:∀(s:Shared) (us ws:List Value),K.In s.heap->(g us ws).length=ps.length->BindsTo s fd ⟨us,ks.zip ws⟩ (ps.zip (g us ws))
 rel:∀{vs:List V} {us:List Value} {zs:List V} {ws:List Value},bH vs us->bH zs ws->bH (gV vs zs) (g us ws)
variable{g:List Value->List Value->List Value}{gV:List V->List V->List V}
end
structure FnScope(N P:List Str)(sc:Scope):Prop where
 kind:sc.kind= .function
 co:sc.isCoroutine=false
 gen:sc.isGenerator=false
 nd:N.Nodup
 pre:N.take P.length=P
 par:∀x∈P,sc.names.lookup x=some .local\/sc.names.lookup x=some .cell
 nofree:∀y∈sc.names,y.2≠ .free
theorem rN{kindOf:Str->Option NameKind}{x:Str}:∀{binds:List (Str×Value)} {m:tzA},(∀v,(x,v)∉binds)->bindL kindOf binds m x=m x
 |[],_,_=>rfl
 | (n,v)::r,m,h=>by
  unfold bindL
  rw [rN fun w hw=>h w (List.mem_cons_of_mem _ hw)]
  split
  ·have:x≠n:=by rintro rfl;exact h v List.mem_cons_self
   simp [this]
  ·rfl
theorem rO{kindOf:Str->Option NameKind}{x:Str}:∀{binds:List (Str×Value)} {m:tzA},(∀v,(x,v)∉binds)->bindC kindOf binds m x=m x
 |[],_,_=>rfl
 | (n,v)::r,m,h=>by
  unfold bindC
  rw [rO fun w hw=>h w (List.mem_cons_of_mem _ hw)]
  split
  ·rfl
  ·have:x≠n:=by rintro rfl;exact h v List.mem_cons_self
   simp [this]
theorem rP{kindOf:Str->Option NameKind}{x:Str}{v:Value}:∀{P:List Str} {vs:List Value} {i:Nat} {m:tzA},P.Nodup->P[i]? =some x->vs[i]? =some v->kindOf x=some .local->
  bindL kindOf (P.zip vs) m x=some v
 |[],_,_,_,_,h,_,_=>by simp at h
 |_::_,[],_,_,_,_,h,_=>by simp at h
 |p::P,w::vs,0,m,nd,h1,h2,hk=>by
  simp at h1 h2;subst h1;subst h2
  show bindL kindOf ((p,w)::P.zip vs) m p=_
  unfold bindL
  rw [rN fun v hv=>(List.nodup_cons.mp nd).1 (List.of_mem_zip hv).1,if_pos hk]
  simp
 |p::P,w::vs,i+1,m,nd,h1,h2,hk=>by
  show bindL kindOf ((p,w)::P.zip vs) m x=_
  unfold bindL
  exact rP (i:=i) (List.nodup_cons.mp nd).2 (by simpa using h1) (by simpa using h2) hk
theorem rQ{kindOf:Str->Option NameKind}{x:Str}{v:Value}:∀{P:List Str} {vs:List Value} {i:Nat} {m:tzA},P.Nodup->P[i]? =some x->vs[i]? =some v->kindOf x≠some .local->
  bindC kindOf (P.zip vs) m x=some v
 |[],_,_,_,_,h,_,_=>by simp at h
 |_::_,[],_,_,_,_,h,_=>by simp at h
 |p::P,w::vs,0,m,nd,h1,h2,hk=>by
  simp at h1 h2;subst h1;subst h2
  show bindC kindOf ((p,w)::P.zip vs) m p=_
  unfold bindC
  rw [rO fun v hv=>(List.nodup_cons.mp nd).1 (List.of_mem_zip hv).1,if_neg hk]
  simp
 |p::P,w::vs,i+1,m,nd,h1,h2,hk=>by
  show bindC kindOf ((p,w)::P.zip vs) m x=_
  unfold bindC
  exact rQ (i:=i) (List.nodup_cons.mp nd).2 (by simpa using h1) (by simpa using h2) hk
def start(N:List Str)(vs:List V):St:=vs.map some++List.replicate (N.length-vs.length) none
def oK(CX:CXT)(P:Program)(w:World)(K:tz0)(mg:tzA)(base:Heap)(N:List Str)(qual:Str)(scope:Scope)(f:Addr)(cd:Value)(A:Around)(outer:List Env)(s:Shared)(H:Hp)(E:XK):Cx where
 prog:=P
 w:=w
 K:=K
 mg:=mg
 base:=base
 A:=A.deeper (envOfC qual scope s.heap.objs.size f cd)
 N:=N
 s₀:=s
 H₀:=H
 env:=envOfC qual scope s.heap.objs.size f cd
 outer:=outer
 stack:=envOfC qual scope s.heap.objs.size f cd::outer
 ex:=[]
 calm:=true
 fn:=fun _=>true
 pn:=[]
 xe:=fun e s'=>wpAny (model P w) (A.deeper (envOfC qual scope s.heap.objs.size f cd)) (leaving (envOfC qual scope s.heap.objs.size f cd) e) (fun _ s''=>CX outer H s E e s'') (fun e' s''=>CX outer H s E e' s'') s'
theorem tB{sc:Scope}{n:Nat}{x:Str}(h:sc.names.lookup x=some .cell):∃c,(cellsFrom n sc.names []).lookup x=some c:=by
 have q:=PySem.W.cellsFrom_some sc.names n [] (.inl h)
 exact Option.isSome_iff_exists.mp q
theorem xX{CX:CXT}{P:Program}{w:World}{K:tz0}{mg:tzA}{base:Heap}{N ps:List Str}{qual:Str}{scope:Scope}{f:Addr}{cd:Value}{A:Around}{outer:List Env}{s s1:Shared}{H:Hp}{E:XK}{us:List Value}{vs:List V}
  (S:FnScope N ps scope) (hd:A.handled=none) (e0:Env0 P w K mg base A outer s H) (hl:vs.length=ps.length) (r:bH vs us)
  (x:InCallC s s.heap.objs.size (bindL (envOfC qual scope s.heap.objs.size f cd).kindOf (ps.zip us) fun _=>none) (cellsFrom (s.heap.objs.size+1) scope.names []) (bindC (envOfC qual scope s.heap.objs.size f cd).kindOf (ps.zip us) fun _=>none) s1):
  Inv (oK CX P w K mg base N qual scope f cd A outer s H E) [] (start N vs) H s1:=by
 have hpl:ps.length<=N.length:=by have:=congrArg List.length S.pre;rw [List.length_take] at this;omega
 obtain⟨h1,tk,rfl,hk⟩:=x.done
 have noA:∀b:Addr,b∉(oK CX P w K mg base N qual scope f cd A outer s H E).ex:=fun b z=>absurd (show b∈([]:List Addr) from z) (by simp)
 refine⟨⟨e0.mod,S.kind,rfl,rfl,Nat.le_refl _,fun y z c h1 h2=> ?_,fun y hy=> ?_,fun y c _ h=> ?_,fun _=>hd,Around.frames_deeper e0.frames,.inr ⟨rfl,rfl⟩,fun b z=>absurd z (noA b),e0.bs,e0.bsz,fun b _ _=>noA b,fun b z=>absurd z (noA b),e0.funs,e0.frf⟩,
  rfl,e0.bare,Un.kept hk,⟨_,x.toInCall.ns,fun i y v h1 h2 h3=> ?_⟩,fun y c h=>⟨_,x.cell y c h⟩,e0.hok.fresh (Nat.le_refl _),fun y c h=> ?_,fun p hp=>absurd (show p∈([]:tzB) from hp) (by simp),e0.hok.kept hk,?_⟩
 ·exact name_of_addr x.apart (PySem.mem_of_lookup h1) (PySem.mem_of_lookup h2)
 ·have hy:scope.names.lookup y=some .cell\/scope.names.lookup y=some .free:=hy
  rcases hy with hy|hy
  ·exact tB hy
  ·exact absurd rfl (S.nofree _ (PySem.mem_of_lookup hy))
 ·exact Nat.le_of_lt (x.above y c (PySem.mem_of_lookup h))
 ·have hi:i<vs.length:=by
   unfold start at h2
   by_cases hi:i<vs.length
   ·exact hi
   ·rw [List.getElem?_append_right (by simpa using hi)] at h2
    rw [List.getElem?_replicate] at h2
    split at h2<;>cases h2
  have ha:vs[i]? =some v:=by
   unfold start at h2
   rw [List.getElem?_append_left (by simpa using hi),List.getElem?_map] at h2
   cases e:vs[i]? with
   |none=>rw [e] at h2;cases h2
   |some a=>rw [e] at h2;cases h2;rfl
  obtain⟨u,hu,rv⟩:=r.get ha
  have hp:ps[i]? =some y:=by
   rw [<-S.pre,List.getElem?_take_of_lt (by omega)];exact h1
  have ndP:ps.Nodup:=by rw [<-S.pre];exact S.nd.sublist (List.take_sublist _ _)
  refine⟨u,rv,?_⟩
  rcases S.par y (List.mem_of_getElem? hp) with k|k
  ·exact .inl ⟨k,rP ndP hp hu k⟩
  ·obtain⟨c,e⟩:=tB (n:=s.heap.objs.size+1) k
   refine .inr ⟨.inl k,c,e,?_⟩
   have q:=x.cell y c e
   rw [rQ ndP hp hu (by show scope.names.lookup y≠_;rw [k];decide)] at q
   exact q
 ·exact e0.hok.fresh (Nat.le_of_lt (x.above y c (PySem.mem_of_lookup h)))
 ·unfold start
  show _=N.length
  rw [List.length_append,List.length_map,List.length_replicate]
  omega
theorem zp2{CX:CXT}{P:Program}{w:World}{K:tz0}{mg:tzA}{base:Heap}{k:Nat}{f:Addr}{name qual:Str}{params:Arguments}{body:List Stmt}{scope:Scope}{dV kV doc pm cdv ct oc:Value}{an od:Option Addr}
  {osl:Array (Option Value)} {N ps:List Str} {sp:Sp} (lk:K.lookup f=some ⟨oc,od,.func (PySem.W.fnOf name qual params body scope dV kV doc pm an cdv ct),osl⟩) (hcd:PySem.W.codeIn K cdv qual=true) (S:FnScope N ps scope)
  (len:∀vs H Q E,sp vs H Q E->vs.length=ps.length)
  (hbody:∀(A:Around) (outer:List Env) (s:Shared) (H:Hp) (vs:List V) (Q:VK) (E:XK),Room k (A.deeper (envOfC qual scope s.heap.objs.size f cdv))->sp vs H Q E->
   ∃t,PSs (oK CX P w K mg base N qual scope f cdv A outer s H E) body t/\t {nx:=fun _ H'=>Q .non H',rt:=Q} (start N vs) H):
  FnOk P w K mg base CX (k+1) f (PySem.W.fnOf name qual params body scope dV kV doc pm an cdv ct) ps sp:=by
 refine⟨len,fun A outer s H args us vs Q E hr e0 hb r hsp=> ?_⟩
 have hl:=len _ _ _ _ hsp
 have KX:K.In s.heap:=e0.mod.kin.keeps fun b o e=>(e0.bs b o e).1
 have lim:s.heap.NoLimit:=e0.mod.nolimit.keeps fun b o e=>(e0.bs b o e).1
 have hkind:∀y∈ps.zip us,scope.names.lookup y.1=some .local\/(scope.names.lookup y.1=some .cell/\((cellsFrom (s.heap.objs.size+1) scope.names []).lookup y.1).isSome=true):=fun⟨n,v⟩ hy=>by
  rcases S.par n (List.of_mem_zip hy).1 with q|q
  ·exact .inl q
  ·exact .inr ⟨q,PySem.W.cellsFrom_some _ _ _ (.inl q)⟩
 refine codeAny_call_function hr.depth (KX _ _ lk) rfl S.co S.gen rfl (PySem.W.codeRec_of KX hcd) (hb _ _ _ _ ?_)
 refine wpAny_newFunctionEnv_cells S.kind hkind fun env he s1 x=> ?_
 subst he
 refine⟨lim.keeps x.toInCall.keep,codeAny_func ?_⟩
 obtain⟨t,ht,hq⟩:=hbody A outer s H vs Q E (hr.deeper _) hsp
 have I:Inv (oK CX P w K mg base N qual scope f cdv A outer s H E) [] (start N vs) H s1:=xX S hr.hd e0 hl r x
 refine wpAny_mono (ht [] s1 (start N vs) H _ I hq) (fun fl s' hs=> ?_) fun e s' hs=>hs
 have fin:∀{σ':St} {H':Hp} {v:V} {u:Value},Inv (oK CX P w K mg base N qual scope f cdv A outer s H E) [] σ' H' s'->cC v u->Q v H'->CE outer P w H s Q u s':=
  fun {σ' H' v u} J rv q=>⟨v,H',J.os,J.bare,J.base,J.hok,rv,q⟩
 cases fl with
 |ret u=>
  obtain⟨v,σ',H',J,rv,q⟩:=hs
  exact fin J rv q
 |next=>
  obtain⟨σ',H',J,q⟩:=hs
  exact fin (v:=V.non) (u:=Value.none) J rfl q
 |brk=>
  obtain⟨_,_,_,q⟩:=hs
  exact False.elim q
 |cont=>
  obtain⟨_,_,_,q⟩:=hs
  exact False.elim q
section
variable{X:Cx}{x:Str}{p pos:Pos}{e:Expr}{es:List Expr}{t:TA}{id T:String}{r:List V->Hp->VK->Prop}
def tCB(r:List V->Hp->VK->Prop)(t:TA):TE:=fun σ H Q=>t σ H fun vs H1=>r vs H1 Q
theorem lM(hc:cM X (.builtin id) r)(hg:Gl X x)(hm:X.mg x=none)(hv:bootBuiltins x=some (.builtin id))(ha:PA X (e::es) t)(hn:x≠"__name__":=by decide)(hdb:(x==("__debug__":Str))=false:=by decide)
  (he:starEach (e::es) X.env=(false,eval e X.env)::starEach es X.env:=by rfl) (hpl:(backTo pos (starEach es X.env)).any (·.1)=false:=by rfl):PE X (.Call (.Name x p) (e::es) [] pos) (tCB r t):=by
 intro pins s σ H Q I h
 refine wpAny_Call_Name_kw (nV I hg hm hv ?_ hn hdb)
 exact PyProof.Rows.callWith_builtin1 (thn (ha pos pins s σ H _ I h) fun us s1 ⟨vs,H1,I1,r1,q1⟩=>hc pins s1 σ H1 vs us Q I1 r1 q1) he hpl
theorem rR(hc:cM X (.type T) r)(hg:Gl X x)(hm:X.mg x=none)(hv:bootBuiltins x=some (.type T))(ha:PA X (e::es) t)(hn:x≠"__name__":=by decide)(hdb:(x==("__debug__":Str))=false:=by decide)
  (he:starEach (e::es) X.env=(false,eval e X.env)::starEach es X.env:=by rfl) (hpl:(backTo pos (starEach es X.env)).any (·.1)=false:=by rfl):PE X (.Call (.Name x p) (e::es) [] pos) (tCB r t):=by
 intro pins s σ H Q I h
 refine wpAny_Call_Name_kw (nV I hg hm hv ?_ hn hdb)
 exact PyProof.Rows.callWith_type1 (thn (ha pos pins s σ H _ I h) fun us s1 ⟨vs,H1,I1,r1,q1⟩=>hc pins s1 σ H1 vs us Q I1 r1 q1) he hpl
end
end L2
namespace HT
open PySem PyProof.Rows
def lexLt:List Int->List Int->Bool
 |[],[]=>false
 |[],_::_=>true
 |_::_,[]=>false
 |x::xs,y::ys=>if x=y then lexLt xs ys else decide (x<y)
theorem wH(x y:Int)(xs ys:List Int):lexLt (x::xs) (y::ys)=if x=y then lexLt xs ys else decide (x<y):=rfl
theorem sJ:lexLt [] []=false:=rfl
theorem qU(y:Int)(ys:List Int):lexLt [] (y::ys)=true:=rfl
theorem qV(x:Int)(xs:List Int):lexLt (x::xs) []=false:=rfl
theorem zY(A:Around)(s:Shared)(a:Int)(t:Tok)(c:Int)(u:Tok):∃e,SeqAt.EqAt A s (.int a t) (.int c u) e/\(e=true↔a=c):=
 ⟨(a==c),SeqAt.EqAt.int_int a t c u,by simp⟩
theorem zZ(A:Around)(s:Shared)(a:Int)(t:Tok)(c:Int)(u:Tok)(prog:Program)(w:World)(E:Value->Shared->Prop)(Q:Value->Shared->Prop)(h:Q (.bool (decide (a<c))) s):
  wpAny (model prog w) A (richCompare .Lt (.int a t) (.int c u)) Q E s:=
 (PyProof.Rows.lt_int h:wpAny (model prog w) A (compareOp .Lt (.int a t) (.int c u)) Q E s)
section
open PySem.SeqAt
open PySem.AutoSeq1 (wpAny_loadPart')
open PySem.MeetsSeq PySem.MeetsSeq2 PySem.MeetsSeq3
theorem sK(l b:Addr)(items items2:Array Value)(n n2:Nat)(dd dd2:Option Addr)(sl sl2:Array (Option Value))(ns ms:List Int)(hi:IntsAre items.toList ns)(hj:IntsAre items2.toList ms):
  Meets (Builtin.«tuple.__lt__» ⟨[.ref l,.ref b],[]⟩)
   (fun _ R s=>s.heap.get? l=some {cls:= .type "tuple",dict:=dd,data:= .seq items n,slots:=sl}/\s.heap.get? b=some {cls:= .type "tuple",dict:=dd2,data:= .seq items2 n2,slots:=sl2}/\
    R (.ok (.ret (.bool (lexLt ns ms)))) s):=
 .of_wp fun prog w A R s h=>by
  obtain⟨hp,g,d,tk,os⟩:=s;obtain⟨hl,hb,h⟩:=h
  have f2:=AutoSeq1.sub_tuple_tuple
  have z1:items.size=ns.length:=by rw [<-hi.length];simp
  have z2:items2.size=ms.length:=by rw [<-hj.length];simp
  wp_walk using wpAny_loadPart' hl,wpAny_loadPart' hb,wpAny_forIn_list _ (fun bC b s'=>b.1=none/\s'=⟨hp,g,d,tk,os⟩/\∃(vs ws:List Value) (ns' ms':List Int),bC=vs.zip ws/\
   IntsAre vs ns'/\IntsAre ws ms'/\ns'.length+items2.size=ms'.length+items.size/\R (.ok (.ret (.bool (lexLt ns' ms')))) ⟨hp,g,d,tk,os⟩) _
  case turn=>
   rintro⟨y,x⟩ bC b s' ⟨hb',rfl,vs,ws,ns',ms',hz,hvi,hwi,hlen,hR⟩
   cases hvi with
   |nil=>rw [List.zip_nil_left] at hz;cases hz
   | cons a t hvi'=>
    cases hwi with
    |nil=>rw [List.zip_nil_right] at hz;cases hz
    | cons c u hwi'=>
     rw [List.zip_cons_cons] at hz
     injection hz with hyx hrest
     injection hyx with hy hx
     subst hy hx
     rw [wH] at hR
     simp only [List.length_cons] at hlen
     obtain⟨e,he,hiff⟩:=zY A.in1 ⟨hp,g,d,tk,os⟩ a t c u
     refine wpAny_bind (he prog w _ _ ?_)
     cases e with
     |true=>
      rw [if_pos (hiff.mp rfl)] at hR
      wp_walk
      exact⟨rfl,rfl,_,_,_,_,hrest,hvi',hwi',by omega,hR⟩
     |false=>
      rw [if_neg (fun q=>absurd (hiff.mpr q) Bool.false_ne_true)] at hR
      have hri:=zZ A.in1 ⟨hp,g,d,tk,os⟩ a t c u prog w
      wp_walk using hri
      exact⟨_,rfl,by simpa using hR⟩
  case fin=>
   rintro⟨b1,b2⟩ s' ⟨hb',rfl,vs,ws,ns',ms',hz,hvi,hwi,hlen,hR⟩
   simp only at hb'
   subst hb'
   have hv:lexLt ns' ms'=decide (items.size<items2.size):=by
    cases hvi with
    | nil=>
     cases hwi with
     |nil=>
      simp only [List.length_nil] at hlen
      rw [sJ]
      exact(decide_eq_false (by omega)).symm
     |cons c u hw=>
      simp only [List.length_nil,List.length_cons] at hlen
      rw [qU]
      exact(decide_eq_true (by omega)).symm
    | cons a t hv=>
     cases hwi with
     |nil=>
      simp only [List.length_nil,List.length_cons] at hlen
      rw [qV]
      exact(decide_eq_false (by omega)).symm
     |cons c u hw=>
      rw [List.zip_cons_cons] at hz
      cases hz
   rw [hv] at hR
   wp_walk
   exact⟨_,rfl,by simpa [Builtin.Tuple.tupleCompareSizes] using hR⟩
  case h=>
   exact⟨rfl,rfl,items.toList,items2.toList,ns,ms,rfl,hi,hj,by omega,h⟩
end
section
variable{prog:Program}{w:World}{A:Around}{E:Value->Shared->Prop}{s:Shared}
theorem lt_tupInts{l b:Addr}{items items2:Array Value}{ns ms:List Int}{Q:Value->Shared->Prop}(hl:IsTup s.heap l items)(hb:IsTup s.heap b items2)(hi:IntsAre items.toList ns)(hj:IntsAre items2.toList ms)
  (hu:A.units<cLine) (h:Q (.bool (lexLt ns ms)) s):wpAny (model prog w) A (compareOp .Lt (.ref l) (.ref b)) Q E s:=by
 obtain⟨⟨cls,dd,data,sl⟩,ho,hc,n,hd⟩:=id hl
 obtain⟨⟨cls2,dd2,data2,sl2⟩,ho2,hc2,n2,hd2⟩:=id hb
 simp only at hc hd hc2 hd2
 subst hc hd hc2 hd2
 exact richCompare_meets_room (op:= .Lt) ⟨_,ho,rfl⟩ ⟨_,ho2,rfl⟩ PySem.F.slot_tuple_lt PySem.F.entry_tuple_lt (PySem.F.args_tuple_lt_2 _ _) (sK l b items items2 n n2 dd dd2 sl sl2 ns ms hi hj)
  ⟨ho,ho2,show Value.bool (lexLt ns ms)≠Value.notImplemented/\Q (.bool (lexLt ns ms)) s from⟨(fun x=>nomatch x),h⟩⟩ hu
theorem cat_tup{t b:Addr}{vs ws:List Value}{Q:Value->Shared->Prop}(ht:IsTup s.heap t vs.toArray)(hb:IsTup s.heap b ws.toArray)(hv:vs≠[])
  (h1:ws=[]->Q (.ref t) s) (h2:ws≠[]->Q (.ref s.heap.objs.size) {s with heap:=s.heap.push {cls:= .type "tuple",data:= .seq (vs++ws).toArray}})
  (hsz:vs.length+ws.length<=sizeLine):wpAny (model prog w) A (binaryOp .Add (.ref t) (.ref b)) Q E s:=by
 obtain⟨⟨cls,dd,data,sl⟩,ho,hc,n,hd⟩:=id ht
 obtain⟨⟨cls2,dd2,data2,sl2⟩,ho2,hc2,n2,hd2⟩:=id hb
 simp only at hc hd hc2 hd2
 subst hc hd hc2 hd2
 have e:vs.toArray++ws.toArray=(vs++ws).toArray:=by simp
 by_cases hw:ws=[]
 ·exact concat_meets ⟨_,ho,rfl⟩ ⟨_,ho2,rfl⟩ noFill_tuple_add seq_tuple_add PySem.F.slot_tuple_add PySem.F.entry_tuple_add (PySem.F.args_tuple_add_2 _ _)
   (tuple_addW1 t b vs.toArray ws.toArray n n2 dd dd2 sl sl2 (by simpa using hv) (by simp [hw])) ⟨ho,ho2,h1 hw⟩
 ·refine concat_meets ⟨_,ho,rfl⟩ ⟨_,ho2,rfl⟩ noFill_tuple_add seq_tuple_add PySem.F.slot_tuple_add PySem.F.entry_tuple_add (PySem.F.args_tuple_add_2 _ _)
   (tuple_addW2 t b vs.toArray ws.toArray n n2 dd dd2 sl sl2 (by simpa using hv) (by simpa using hw) (by rw [List.size_toArray,List.size_toArray];exact hsz)) ⟨ho,ho2,?_⟩
  rw [e]
  exact h2 hw
def sIx(n d:Nat):Option Int->Nat
 |none=>d
 |some v=>if v<0 then(v+(n:Int)).toNat else min v.toNat n
end
end HT
namespace L2
open PySem PySem.Spec PyProof.Rows
abbrev TO:=St->Hp->(Option Int->Hp->Prop)->Prop
theorem qB{ns:List Int}:∀{us:List Value},bH (ns.map V.int) us->IntsAre us ns:=by
 induction ns with
 |nil=>intro us r;rw [List.map_nil] at r;cases r;exact .nil
 | cons n ns ih=>
  intro us r
  rw [List.map_cons] at r
  cases r with
  |cons r1 r2=>
   obtain⟨t,e⟩:=r1
   subst e
   exact .cons n t (ih r2)
section
variable{X:Cx}{e:Expr}{te:TE}{lo hi:Option Expr}{tl th:TO}{pos p2:Pos}
def SlR(X:Cx)(r:V->Option Int->Option Int->Hp->VK->Prop):Prop:=
 ∀(pins:tzB) (s:Shared) (σ:St) (H:Hp) (x:V) (v vl vu:Value) (lo hi:Option Int) (sl:Addr) (Q:VK),Inv X pins σ H s->cC x v->s.heap.IsSliceOf sl vl vu .none->IsPart vl lo->IsPart vu hi->r x lo hi H Q->
  ∃T id,typeLookup (.type T) "__getitem__"=pure (some (.builtin id))/\s.TypeIs v T/\wpAny (model X.prog X.w) X.A (getItem v (.ref sl)) (EP X pins σ Q) X.xe s
theorem SlR.or{r r':V->Option Int->Option Int->Hp->VK->Prop}(h:SlR X r)(h':SlR X r'):SlR X (fun x lo hi H Q=>r x lo hi H Q\/r' x lo hi H Q):=by
 intro pins s σ H x v vl vu lo hi sl Q I rx hs pl pu q
 rcases q with q|q
 ·exact h pins s σ H x v vl vu lo hi sl Q I rx hs pl pu q
 ·exact h' pins s σ H x v vl vu lo hi sl Q I rx hs pl pu q
def zu3(K:tz0):R2:=fun x y H Q=>∃a b ns ms,x= .ref a/\y= .ref b/\SqT K H a (ns.map V.int)/\SqT K H b (ms.map V.int)/\Q (.bl (HT.lexLt ns ms)) H
theorem zk5(hu:X.A.units<cLine):OpR X (compareOp .Lt) (zu3 X.K):=by
 intro pins s σ H x y v u Q I rx ry h
 obtain⟨a,b,ns,ms,rfl,rfl,ha,hb,q⟩:=h
 cases rx
 cases ry
 obtain⟨its,r1,p1,_⟩:=I.tuple ha
 obtain⟨its2,r2,p2,_⟩:=I.tuple hb
 have i1:IntsAre its.toArray.toList ns:=qB r1
 have i2:IntsAre its2.toArray.toList ms:=qB r2
 exact HT.lt_tupInts p1 p2 i1 i2 hu ⟨.bl (HT.lexLt ns ms),H,I,rfl,q⟩
def zr3(K:tz0):R2:=fun x y H Q=>∃a b xs ys,x= .ref a/\y= .ref b/\SqT K H a xs/\SqT K H b ys/\xs≠[]/\xs.length+ys.length<=sizeLine/\
 (ys=[]->Q (.ref a) H)/\(ys≠[]->∀p,H p=none->Q (.ref p) (upd H p (.tup (xs++ys))))
theorem bH.nil_iff{xs:List V}{us:List Value}(r:bH xs us):us=[]↔xs=[]:=by
 cases r with
 |nil=>simp
 |cons _ _=>simp
theorem zf6:OpR X (binaryOp .Add) (zr3 X.K):=by
 intro pins s σ H x y v u Q I rx ry h
 obtain⟨a,b,xs,ys,rfl,rfl,ha,hb,hx,hz,q1,q2⟩:=h
 cases rx
 cases ry
 obtain⟨its,r1,p1,_⟩:=I.tuple ha
 obtain⟨its2,r2,p2,_⟩:=I.tuple hb
 refine HT.cat_tup p1 p2 (fun z=>hx (r1.nil_iff.mp z)) (fun z=>⟨.ref a,H,I,rfl,q1 (r2.nil_iff.mp z)⟩) (fun z=> ?_) (by rw [<-r1.length,<-r2.length];exact hz)
 refine⟨.ref s.heap.objs.size,_,I.laid (t':=s.toks) (o:= .tup (xs++ys)) (fun b ob q=>Heap.get?_push_of_some _ q) (Nat.le_refl _) ?_,rfl,q2 (fun w=>z (r2.nil_iff.mpr w)) _ (I.hok.fresh (Nat.le_refl _))⟩
 exact⟨by rw [List.length_append];exact hz,_,r1.append r2,IsTup.new _ _⟩
end
def ixN(n:Nat)(i:Int):Option Nat:=if 0<=i then(if i<n then some i.toNat else none) else if-(n:Int)<=i then some (i+n).toNat else none
def atI{α:Type}(xs:List α)(i:Int):Option α:=(ixN xs.length i).bind fun j=>xs[j]?
theorem pA{n:Nat}{i:Int}{j:Nat}(h:ixN n i=some j):seqIndex? i n=some j/\j<n/\ -(n:Int)<=i/\i<n:=by
 unfold ixN at h
 by_cases h0:0<=i
 ·rw [if_pos h0] at h
  by_cases h1:i<n
  ·rw [if_pos h1] at h
   have e:i.toNat=j:=Option.some.inj h
   exact⟨by rw [seqIndex_of h0 h1,e],by omega,by omega,h1⟩
  ·rw [if_neg h1] at h;cases h
 ·rw [if_neg h0] at h
  by_cases h1: -(n:Int)<=i
  ·rw [if_pos h1] at h
   have e:(i+n).toNat=j:=Option.some.inj h
   exact⟨by rw [seqIndex_neg (by omega) h1,e],by omega,h1,by omega⟩
  ·rw [if_neg h1] at h;cases h
theorem qW{α:Type}{xs:List α}{i:Int}{v:α}(h:atI xs i=some v):∃j,seqIndex? i xs.length=some j/\xs[j]? =some v/\j<xs.length/\ -(xs.length:Int)<=i/\i<xs.length:=by
 unfold atI at h
 cases e:ixN xs.length i with
 |none=>rw [e] at h;cases h
 |some j=>
  rw [e] at h
  obtain⟨h1,h2,h3,h4⟩:=pA e
  exact⟨j,h1,h,h2,h3,h4⟩
theorem vP{α:Type}{xs:List α}{j:Nat}{v:α}(h:xs[j]? =some v):atI xs (j:Int)=some v:=by
 have hj:j<xs.length:=(List.getElem?_eq_some_iff.mp h).1
 have e:ixN xs.length (j:Int)=some j:=by
  unfold ixN
  rw [if_pos (by omega),if_pos (by omega)];simp
 unfold atI;rw [e];exact h
theorem fJ{α:Type}(xs:List α)(v:α):atI (xs++[v]) (-1)=some v:=by
 have hl:(xs++[v]).length=xs.length+1:=by simp
 have e:ixN (xs++[v]).length (-1)=some xs.length:=by
  unfold ixN
  rw [hl,if_neg (by decide),if_pos (by omega)]
  congr 1
  omega
 unfold atI
 rw [e]
 show(xs++[v])[xs.length]? =some v
 simp
def kP(b:Expr):Prop:=∀o i,subscripted b false o i=operate [o,i] (getItem o i)
def IxR(X:Cx)(r:R2):Prop:=
 ∀(value slice:Expr) (pins:tzB) (s:Shared) (σ:St) (H:Hp) (x y:V) (v u:Value) (Q:VK),Inv X pins σ H s->cC x v->cC y u->r x y H Q->
  subscripted slice false v u=operate [v,u] (getItem v u)->wpAny (model X.prog X.w) X.A (subscriptTail value slice v u) (EP X pins σ Q) X.xe s
def MtR(X:Cx)(id:String)(r:V->List V->Hp->VK->Prop):Prop:=
 ∀(pins:tzB) (s:Shared) (σ:St) (H:Hp) (x:V) (xs:List V) (v:Value) (us:List Value) (Q:VK),Inv X pins σ H s->cC x v->bH xs us->r x xs H Q->
  wpAny (model X.prog X.w) X.A (call (.builtin id) (v::us)) (EP X pins σ Q) X.xe s
section
variable{X:Cx}{a b:Expr}{ta tb:TE}{pos:Pos}
theorem IxR.or{r r':R2}(h:IxR X r)(h':IxR X r'):IxR X (fun x y H Q=>r x y H Q\/r' x y H Q):=by
 intro value slice pins s σ H x y v u Q I rx ry q hs
 rcases q with q|q
 ·exact h value slice pins s σ H x y v u Q I rx ry q hs
 ·exact h' value slice pins s σ H x y v u Q I rx ry q hs
theorem MtR.or{id:String}{r r':V->List V->Hp->VK->Prop}(h:MtR X id r)(h':MtR X id r'):MtR X id (fun x xs H Q=>r x xs H Q\/r' x xs H Q):=by
 intro pins s σ H x xs v us Q I rx rs q
 rcases q with q|q
 ·exact h pins s σ H x xs v us Q I rx rs q
 ·exact h' pins s σ H x xs v us Q I rx rs q
theorem sP{r:R2}(hr:IxR X r)(ha:PE X a ta)(hb:PE X b tb)(hs:kP b):PE X (.Subscript a b pos) (tOp r ta tb):=by
 intro pins s σ H Q I h
 exact Subscript_ (zT ha hb I h fun v u s2 x y H2 I2 rx ry q=>hr a b pins s2 σ H2 x y v u Q I2 rx ry q (hs _ _))
def zn6(K:tz0):R2:=fun x y H Q=>∃p xs i v,x= .ref p/\y= .int i/\SqL K H p xs/\atI xs i=some v/\Q v H
def zn7(K:tz0):R2:=fun x y H Q=>∃p xs i v,x= .ref p/\y= .int i/\SqT K H p xs/\atI xs i=some v/\Q v H
def zn8:R2:=fun x y H Q=>∃z i c,x= .str z/\y= .int i/\z.length<=sizeLine/\atI z.cps.toList i=some c/\Q (.str ⟨#[c]⟩) H
theorem qX:IxR X (zn6 X.K):=by
 intro value slice pins s σ H x y v u Q I rx ry h hs
 obtain⟨p,xs,i,z,rfl,rfl,hq,he,q⟩:=h
 cases rx
 obtain⟨t,rfl⟩:=ry
 obtain⟨its,r,pl,hz⟩:=I.list hq
 obtain⟨j,h1,h2,h3,h4,h5⟩:=qW he
 obtain⟨w,ew,rw'⟩:=r.get h2
 have hl:=r.length
 have hn:=lL
 have fin:EP X pins σ Q w s:=⟨z,H,I,rw',q⟩
 by_cases h0:0<=i
 ·have hj:i.toNat=j:=by
   rw [seqIndex_of h0 h5] at h1
   exact Option.some.inj h1
  exact item_listR pl.isList h0 (by omega) (by rw [hj];simpa using ew) fin hs
 ·have hj:(i+(its.toArray.size:Int)).toNat=j:=by
   rw [seqIndex_neg (by omega) h4] at h1
   rw [List.size_toArray,<-hl]
   exact Option.some.inj h1
  exact subscriptTail_builtinR (x:=w) pl.isList.typeIs slot_list_getitem.lookup
   (wpAny_getItem_list_neg (Q:=fun r s'=>r=w/\EP X pins σ Q r s') pl.isList (by omega) (by rw [List.size_toArray]<;>omega) (by omega) (by rw [hj];simpa using ew) ⟨rfl,fin⟩) hs
theorem zk6:IxR X (zn7 X.K):=by
 intro value slice pins s σ H x y v u Q I rx ry h hs
 obtain⟨p,xs,i,z,rfl,rfl,hq,he,q⟩:=h
 cases rx
 obtain⟨t,rfl⟩:=ry
 obtain⟨its,r,pl,hz⟩:=I.tuple hq
 obtain⟨j,h1,h2,h3,h4,h5⟩:=qW he
 obtain⟨w,ew,rw'⟩:=r.get h2
 have hl:=r.length
 have hn:=lL
 have fin:EP X pins σ Q w s:=⟨z,H,I,rw',q⟩
 exact subscriptTail_builtinR (x:=w) pl.typeIs slot_tuple_getitem.lookup
  (getItem_tuple (j:=j) (Q:=fun r s'=>r=w/\EP X pins σ Q r s') pl (by omega) (by omega) (by rw [List.size_toArray,<-hl];exact h1) (by simpa using ew) ⟨rfl,fin⟩) hs
theorem zk7:IxR X zn8:=by
 intro value slice pins s σ H x y v u Q I rx ry h hs
 obtain⟨z,i,c,rfl,rfl,hz,he,q⟩:=h
 obtain⟨t,rfl⟩:=rx
 obtain⟨t',rfl⟩:=ry
 obtain⟨j,h1,h2,h3,h4,h5⟩:=qW he
 have hl:z.cps.toList.length=z.length:=by simp [Str.length]
 rw [hl] at h1 h4 h5
 have hn:=lL
 exact tail_any (typeIs_str s z t) slot_str_getitem.lookup (getItem_str (c:=c) (by
  have e1:decide (i< -(2^63:Int))=false:=decide_eq_false (by omega)
  have e2:decide (i>=2^63)=false:=decide_eq_false (by omega)
  rw [e1,e2,Bool.or_false]) (by rw [h1];simpa using h2) ⟨.str ⟨#[c]⟩,H,I.tok _,⟨_,rfl⟩,q⟩) hs
def rIx(K:tz0):R2:=fun x y H Q=>zn6 K x y H Q\/zn7 K x y H Q\/zn8 x y H Q
theorem xY:IxR X (rIx X.K):=qX.or (zk6.or zk7)
theorem wI(its:List Value)(n j:Nat)(u:Value):Obj.mapSeq (·.setIfInBounds j u) {cls:= .type "list",data:= .seq its.toArray n}={cls:= .type "list",data:= .seq (its.set j u).toArray n}:=by
 simp [Obj.mapSeq]
theorem Inv.lst{pins:tzB}{σ:St}{H:Hp}{s:Shared}{p:Addr}{xs:List V}(I:Inv X pins σ H s)(h:H p=some (.lst xs)):
  ∃(its:List Value) (n:Nat),bH xs its/\s.heap.get? p=some {cls:= .type "list",data:= .seq its.toArray n}/\xs.length<=sizeLine:=by
 obtain⟨z,its,n,r,e⟩:=I.hok p _ h
 exact⟨its,n,r,e,z⟩
theorem Inv.lstUpd{pins:tzB}{σ:St}{H:Hp}{s:Shared}{p:Addr}{xs ys:List V}{its its':List Value}{n n':Nat}{f:Obj->Obj}(I:Inv X pins σ H s)(h:H p=some (.lst xs))
  (ho:s.heap.get? p=some {cls:= .type "list",data:= .seq its.toArray n}) (hf:f {cls:= .type "list",data:= .seq its.toArray n}={cls:= .type "list",data:= .seq its'.toArray n'}) (r:bH ys its') (hz:ys.length<=sizeLine) (t:Nat):
  Inv X pins σ (upd H p (.lst ys)) {s with heap:=s.heap.update p f,toks:=t}:=by
 have e:(s.heap.update p f).get? p=some {cls:= .type "list",data:= .seq its'.toArray n'}:=by
  rw [Heap.get?_update_self f ho (by rw [hf]<;>rfl),hf]
 refine I.write (x:=p) (e:=p) (by rw [h];trivial) (.inl rfl) (fun b u hb q=>(Heap.get?_update_other _ _ (Ne.symm hb)).trans q) ⟨_,e⟩ ?_
 exact⟨hz,its',n',r,e⟩
def zr4:V->V->V->Hp->(Hp->Prop)->Prop:=fun o i v H Q=>∃p xs k j,o= .ref p/\i= .int k/\H p=some (.lst xs)/\ixN xs.length k=some j/\Q (upd H p (.lst (xs.set j v)))
theorem za0:zn2 X zr4:=by
 intro pins s σ H o i v ov iv u Q I ro ri rv h
 obtain⟨p,xs,k,j,rfl,rfl,hp,hj,q⟩:=h
 cases ro
 obtain⟨t,rfl⟩:=ri
 obtain⟨its,n,r,ho,hz⟩:=I.lst hp
 obtain⟨h1,h2,h3,h4⟩:=pA hj
 have hl:=r.length
 have hn:=lL
 have I':Inv X pins σ (upd H p (.lst (xs.set j v))) {s with heap:=s.heap.update p (Obj.mapSeq (·.setIfInBounds j u))}:=
  I.lstUpd hp ho (wI its n j u) (r.set rv j) (by rw [List.length_set];exact hz) s.toks
 by_cases h0:0<=k
 ·have hk:k.toNat=j:=by
   rw [seqIndex_of h0 h4] at h1
   exact Option.some.inj h1
  exact PySem.W.ki_setAt ho h0 (by omega) (by rw [List.size_toArray,<-hl];exact h4) (by rw [hk];exact⟨_,I',q⟩)
 ·have hk:(k+(its.toArray.size:Int)).toNat=j:=by
   rw [seqIndex_neg (by omega) h3] at h1
   rw [List.size_toArray,<-hl]
   exact Option.some.inj h1
  exact PySem.W.ki_setBack ho (by omega) (by rw [List.size_toArray,<-hl];exact h3) (by omega) (by rw [hk];exact⟨_,I',q⟩)
def iS:V->Bool
 | .non=>true
 | .bl _=>true
 | .int _=>true
 | .str _=>true
 |_=>false
def eqV:V->V->Bool
 | .non,.non=>true
 | .bl a,.bl b=>a==b
 | .bl a,.int b=>(if a then 1 else 0)==b
 | .int a,.bl b=>a==(if b then 1 else 0)
 | .int a,.int b=>a==b
 | .str a,.str b=>a==b
 |_,_=>false
theorem zk8{A:Around}{s:Shared}{y x:V}{u v:Value}(ry:cC y u)(rx:cC x v)(fy:iS y=true)(fx:iS x=true):SeqAt.EqAt A s u v (eqV y x):=by
 cases y with
 |non=>
  cases ry
  cases x with
  |non=>cases rx;exact SeqAt.EqAt.same _
  |bl b=>cases rx;exact SeqAt.EqAt.none_bool b
  |int b=>obtain⟨t,rfl⟩:=rx;exact SeqAt.EqAt.none_int b t
  |str b=>obtain⟨t,rfl⟩:=rx;exact SeqAt.EqAt.none_str b t
  |_=>exact absurd (show false=true from fx) Bool.false_ne_true
 |bl a=>
  cases ry
  cases x with
  |non=>cases rx;exact SeqAt.EqAt.bool_none a
  |bl b=>cases rx;exact SeqAt.EqAt.bool_bool a b
  |int b=>obtain⟨t,rfl⟩:=rx;exact SeqAt.EqAt.bool_int a b t
  |str b=>obtain⟨t,rfl⟩:=rx;exact SeqAt.EqAt.bool_str a b t
  |_=>exact absurd (show false=true from fx) Bool.false_ne_true
 |int a=>
  obtain⟨t',rfl⟩:=ry
  cases x with
  |non=>cases rx;exact SeqAt.EqAt.int_none a t'
  |bl b=>cases rx;exact SeqAt.EqAt.int_bool a t' b
  |int b=>obtain⟨t,rfl⟩:=rx;exact SeqAt.EqAt.int_int a t' b t
  |str b=>obtain⟨t,rfl⟩:=rx;exact SeqAt.EqAt.int_str a t' b t
  |_=>exact absurd (show false=true from fx) Bool.false_ne_true
 |str a=>
  obtain⟨t',rfl⟩:=ry
  cases x with
  |non=>cases rx;exact SeqAt.EqAt.str_none a t'
  |bl b=>cases rx;exact SeqAt.EqAt.str_bool a t' b
  |int b=>obtain⟨t,rfl⟩:=rx;exact SeqAt.EqAt.str_int a t' b t
  |str b=>obtain⟨t,rfl⟩:=rx;exact SeqAt.EqAt.str_str a t' b t
  |_=>exact absurd (show false=true from fx) Bool.false_ne_true
 |_=>exact absurd (show false=true from fy) Bool.false_ne_true
def eqU(x:V)(u:Value):Bool:=match u with
 | .none=>eqV .non x
 | .bool b=>eqV (.bl b) x
 | .int i _=>eqV (.int i) x
 | .str z _=>eqV (.str z) x
 |_=>false
theorem xZ{x y:V}{u:Value}(r:cC y u)(f:iS y=true):eqU x u=eqV y x:=by
 cases y with
 |non=>cases r;rfl
 |bl b=>cases r;rfl
 |int i=>obtain⟨t,rfl⟩:=r;rfl
 |str z=>obtain⟨t,rfl⟩:=r;rfl
 |_=>exact absurd (show false=true from f) Bool.false_ne_true
theorem mJ{x:V}:∀{xs:List V} {us:List Value},bH xs us->xs.all iS=true->us.any (eqU x)=xs.any fun y=>eqV y x
 |_,_,.nil,_=>rfl
 |y::xs,u::us,.cons r t,f=>by
  rw [List.all_cons,Bool.and_eq_true] at f
  rw [List.any_cons,List.any_cons,xZ r f.1,mJ t f.2]
theorem lN{A:Around}{s:Shared}{x:V}{v:Value}(rx:cC x v)(fx:iS x=true):∀{xs:List V} {us:List Value},bH xs us->xs.all iS=true->∀u∈us,SeqAt.EqAt A s u v (eqU x u)
 |_,_,.nil,_=>fun u hu=>by cases hu
 |y::xs,u::us,.cons r t,f=>fun u' hu=>by
  rw [List.all_cons,Bool.and_eq_true] at f
  rcases List.mem_cons.mp hu with rfl|hu
  ·rw [xZ r f.1];exact zk8 r rx f.1 fx
  ·exact lN rx fx t f.2 u' hu
def inV(x:V)(xs:List V):Bool:=xs.any fun y=>eqV y x
def rIn(K:tz0)(neg:Bool):R2:=fun x y H Q=>∃p xs,y= .ref p/\(SqL K H p xs\/SqT K H p xs)/\iS x=true/\xs.all iS=true/\Q (.bl (if neg then !inV x xs else inV x xs)) H
theorem yA:OpR X (compareOp .In) (rIn X.K false):=by
 intro pins s σ H x y v u Q I rx ry h
 obtain⟨p,xs,rfl,hq,fx,fs,q⟩:=h
 cases ry
 rcases hq with hq|hq
 ·obtain⟨its,r,pl,hz⟩:=I.list hq
  refine SeqAt.in_listAt (eqU x) pl.isList (fun w hw=>lN rx fx r fs w (by simpa using hw)) ⟨.bl _,H,I,rfl,?_⟩
  rw [show its.toArray.any (eqU x)=its.any (eqU x) by simp,mJ r fs]
  exact q
 ·obtain⟨its,r,pl,hz⟩:=I.tuple hq
  refine SeqAt.in_tupleAt (eqU x) pl (fun w hw=>lN rx fx r fs w (by simpa using hw)) ⟨.bl _,H,I,rfl,?_⟩
  rw [show its.toArray.any (eqU x)=its.any (eqU x) by simp,mJ r fs]
  exact q
theorem tD:OpR X (compareOp .NotIn) (rIn X.K true):=by
 intro pins s σ H x y v u Q I rx ry h
 obtain⟨p,xs,rfl,hq,fx,fs,q⟩:=h
 cases ry
 rcases hq with hq|hq
 ·obtain⟨its,r,pl,hz⟩:=I.list hq
  refine SeqAt.notIn_listAt (eqU x) pl.isList (fun w hw=>lN rx fx r fs w (by simpa using hw)) ⟨.bl _,H,I,rfl,?_⟩
  rw [show its.toArray.any (eqU x)=its.any (eqU x) by simp,mJ r fs]
  exact q
 ·obtain⟨its,r,pl,hz⟩:=I.tuple hq
  refine SeqAt.notIn_tupleAt (eqU x) pl (fun w hw=>lN rx fx r fs w (by simpa using hw)) ⟨.bl _,H,I,rfl,?_⟩
  rw [show its.toArray.any (eqU x)=its.any (eqU x) by simp,mJ r fs]
  exact q
theorem gX:cM X (.builtin "len") (fun xs H Q=>∃p ys,xs=[.ref p]/\(SqL X.K H p ys\/SqT X.K H p ys)/\Q (.int ys.length) H):=by
 intro pins s σ H xs us Q I r h
 obtain⟨p,ys,rfl,hq,q⟩:=h
 obtain⟨u,rfl,rx⟩:=mX r
 cases rx
 have hn:=lL
 rcases hq with hq|hq
 ·obtain⟨its,r',pl,hz⟩:=I.list hq
  have hlen:=r'.length
  exact Calls.call_len_list pl.isList (by simp only [List.size_toArray]<;>omega) ⟨.int ys.length,H,I.tok _,⟨s.toks+1,by rw [List.size_toArray,hlen]⟩,q⟩
 ·obtain⟨its,r',pl,hz⟩:=I.tuple hq
  have hlen:=r'.length
  exact len_tuple pl (by simp only [List.size_toArray]<;>omega) ⟨.int ys.length,H,I.tok _,⟨s.toks+1,by rw [List.size_toArray,hlen]⟩,q⟩
theorem tF:cM X (.builtin "len") (fun xs H Q=>∃z,xs=[.str z]/\z.length<=sizeLine/\Q (.int z.length) H):=by
 intro pins s σ H xs us Q I r h
 obtain⟨z,rfl,hz,q⟩:=h
 obtain⟨u,rfl,t,rfl⟩:=mX r
 have hn:=lL
 exact len_str (by omega) ⟨.int z.length,H,I.tok _,⟨_,rfl⟩,q⟩
theorem cM.or{f:Value}{r r':List V->Hp->VK->Prop}(h:cM X f r)(h':cM X f r'):cM X f (fun xs H Q=>r xs H Q\/r' xs H Q):=by
 intro pins s σ H xs us Q I rs q
 rcases q with q|q
 ·exact h pins s σ H xs us Q I rs q
 ·exact h' pins s σ H xs us Q I rs q
theorem nX:cM X (.type "list") (fun xs H Q=>∃p ys,xs=[.ref p]/\(SqL X.K H p ys\/SqT X.K H p ys)/\∀l,H l=none->Q (.ref l) (upd H l (.lst ys))):=by
 intro pins s σ H xs us Q I r h
 obtain⟨p,ys,rfl,hq,q⟩:=h
 obtain⟨u,rfl,rx⟩:=mX r
 cases rx
 have fin:∀(its:List Value),bH ys its->ys.length<=sizeLine->∀(h':Heap) (c':Nat),(∀b o',s.heap.get? b=some o'->h'.get? b=some o')->
   h'.get? s.heap.objs.size=some {cls:= .type "list",dict:=none,data:= .seq its.toArray c',slots:= #[]}->EP X pins σ Q (.ref s.heap.objs.size) {s with heap:=h'}:=fun its r' hz h' c' kp e=>
  ⟨.ref s.heap.objs.size,_,I.laid (t':=s.toks) kp (Nat.le_refl _) (show dW X.prog X.w _ h' _ (.lst ys) from⟨hz,its,c',r',e⟩),rfl,q _ (I.hok.fresh (Nat.le_refl _))⟩
 rcases hq with hq|hq
 ·obtain⟨its,r',pl,hz⟩:=I.list hq
  have hlen:=r'.length
  obtain⟨o,ho,hc,n,hd⟩:=pl.isList
  exact call_list_seq p (.inl rfl) ho hc hd (fun h' c' kp e=>fin its r' hz h' c' kp e) (by simp only [List.size_toArray]<;>omega)
 ·obtain⟨its,r',pl,hz⟩:=I.tuple hq
  have hlen:=r'.length
  obtain⟨o,ho,hc,n,hd⟩:=pl
  exact call_list_seq p (.inr rfl) ho hc hd (fun h' c' kp e=>fin its r' hz h' c' kp e) (by simp only [List.size_toArray]<;>omega)
theorem nR:cM X (.type "tuple") (fun xs H Q=>∃p ys,xs=[.ref p]/\((SqL X.K H p ys/\∀l,H l=none->Q (.ref l) (upd H l (.tup ys)))\/(SqT X.K H p ys/\Q (.ref p) H))):=by
 intro pins s σ H xs us Q I r h
 obtain⟨p,ys,rfl,h⟩:=h
 obtain⟨u,rfl,rx⟩:=mX r
 cases rx
 rcases h with ⟨hq,q⟩|⟨hq,q⟩
 ·obtain⟨its,r',pl,hz⟩:=I.list hq
  have hlen:=r'.length
  refine call_tuple_list pl.isList (fun h' kp=> ?_) (by simp only [List.size_toArray]<;>omega)
  have I1:Inv X pins σ H {s with heap:=h'}:=I.kept (t':=s.toks) kp
  have I2:Inv X pins σ (upd H h'.objs.size (.tup ys)) {s with heap:=h'.push {cls:= .type "tuple",data:= .seq its.toArray}}:=
   I1.laid (t':=s.toks) (fun b o e=>Heap.get?_push_of_some _ e) (Nat.le_refl _) (show dW X.prog X.w _ _ _ (.tup ys) from⟨hz,its,r',IsTup.new _ _⟩)
  exact⟨.ref h'.objs.size,_,I2,rfl,q _ (I1.hok.fresh (Nat.le_refl _))⟩
 ·obtain⟨its,r',pl,hz⟩:=I.tuple hq
  exact call_tuple_same pl ⟨.ref p,H,I,rfl,q⟩
def tyV(K:tz0)(T:String)(x:V)(H:Hp):Prop:=match x with
 | .str _=>T="str"
 | .int _=>T="int"
 | .ref p=>(T="list"/\∃xs,SqL K H p xs)\/(T="tuple"/\∃o,K.lookup p=some o/\o.cls= .type "tuple"/\o.dict=none)\/
   (T="dict"/\((∃kvs,H p=some (.dK kvs))\/∃kvs,H p=some (.dT kvs)))\/(T="set"/\∃S n,H p=some (.set S n))
 |_=>False
theorem yB{pins:tzB}{σ:St}{H:Hp}{s:Shared}{T:String}{x:V}{v:Value}(I:Inv X pins σ H s)(r:cC x v)(ty:tyV X.K T x H):
  s.TypeIs v T/\∀a,v= .ref a->∃ob,s.heap.get? a=some ob/\ob.dict=none:=by
 cases x with
 |str z=>
  obtain⟨t,rfl⟩:=r
  cases(show T="str" from ty)
  exact⟨typeIs_str s z t,fun _ e=>nomatch e⟩
 |int i=>
  obtain⟨t,rfl⟩:=r
  cases(show T="int" from ty)
  exact⟨typeIs_int s i t,fun _ e=>nomatch e⟩
 | ref p=>
  cases r
  rcases ty with ⟨rfl,xs,hq⟩|⟨rfl,o,hk,hc,hd⟩|⟨rfl,hk⟩|⟨rfl,S,n,hk⟩
  ·obtain⟨its,_,pl,_⟩:=I.list hq
   refine⟨pl.isList.typeIs,fun a e=> ?_⟩
   cases e
   obtain⟨o,n,e,c,hd,_⟩:=pl
   exact⟨o,e,hd⟩
  ·refine⟨⟨o,I.kIn p o hk,hc⟩,fun a e=> ?_⟩
   cases e
   exact⟨o,I.kIn _ o hk,hd⟩
  ·have z:∃o,s.heap.get? p=some o/\o.ExactDict:=by
    rcases hk with ⟨kvs,hk⟩|⟨kvs,hk⟩
    ·obtain⟨_,_,_,_,o,_,_,e,ex,_⟩:=I.hok p _ hk
     exact⟨o,e,ex⟩
    ·obtain⟨_,_,_,_,o,_,_,e,ex,_⟩:=I.hok p _ hk
     exact⟨o,e,ex⟩
   obtain⟨o,e,ex⟩:=z
   refine⟨⟨o,e,ex.1⟩,fun a e2=> ?_⟩
   cases e2
   exact⟨o,e,ex.2.1⟩
  ·obtain⟨o,_,_,_,e,ex,_⟩:=I.hok p _ hk
   refine⟨⟨o,e,ex.1⟩,fun a e2=> ?_⟩
   cases e2
   exact⟨o,e,ex.2.1⟩
 |_=>exact False.elim ty
def zu4(K:tz0)(T:String)(r:V->List V->Hp->VK->Prop)(to:TE):TE:=fun σ H Q=>to σ H fun x H1=>tyV K T x H1/\r x [] H1 Q
def tBM(K:tz0)(T:String)(r:V->List V->Hp->VK->Prop)(to:TE)(t:TA):TE:=fun σ H Q=>to σ H fun x H1=>tyV K T x H1/\t σ H1 fun xs H2=>r x xs H2 Q
variable{o e:Expr}{es:List Expr}{to:TE}{t:TA}{name:Str}{apos cpos:Pos}{T id:String}{r:V->List V->Hp->VK->Prop}
theorem zk9(pa:PlainAttrs T)(slot:Slot T name id)(hty:typeOf (.builtin id)=pure (.type "method_descriptor"))(hm:MtR X id r)(ho:PE X o to)
  (hbase:attributeBase o name X.env (eval o X.env)=eval o X.env:=by rfl) (hline:(apos.endLine==cpos.line)=true:=by rfl):PE X (.Call (.Attribute o name apos) [] [] cpos) (zu4 X.K T r to):=by
 intro pins s σ H Q I h
 refine wpAny_Call_method0_late hbase hline (thn (ho pins s σ H _ I h) fun v s1 ⟨x,H1,I1,r1,ty,q1⟩=> ?_)
 obtain⟨h1,h2⟩:=yB I1 r1 ty
 exact⟨T,id,pa,slot,hty,h1,h2,Calls.callWith_builtin rfl (PySem.evalArgs_none (hm pins s1 σ H1 x [] v [] Q I1 r1 .nil q1))⟩
theorem wJ(pa:PlainAttrs T)(slot:Slot T name id)(hty:typeOf (.builtin id)=pure (.type "method_descriptor"))(hm:MtR X id r)(ho:PE X o to)(ha:PA X (e::es) t)
  (hbase:attributeBase o name X.env (eval o X.env)=eval o X.env:=by rfl)
  (hfew:((backTo cpos (starEach (e::es) X.env)).all (fun x=> !x.1)&&(backToKw cpos (keywordEach [] X.env)).all (fun x=>x.1.isSome)
   &&decide ((e::es).length+([]:List Keyword).length+(if ([]:List Keyword).isEmpty then 0 else 1)<30))=true:=by rfl)
  (hline:(apos.endLine==cpos.line)=true:=by rfl) (hs:starEach (e::es) X.env=(false,eval e X.env)::starEach es X.env:=by rfl) (hplain:(backTo cpos (starEach es X.env)).any (·.1)=false:=by rfl):
  PE X (.Call (.Attribute o name apos) (e::es) [] cpos) (tBM X.K T r to t):=by
 intro pins s σ H Q I h
 refine wpAny_Call_method_late hbase hfew hline rfl (thn (ho pins s σ H _ I h) fun v s1 ⟨x,H1,I1,r1,ty,q1⟩=> ?_)
 obtain⟨h1,h2⟩:=yB I1 r1 ty
 refine⟨T,id,pa,slot,hty,h1,h2,?_⟩
 have hA:=ha cpos pins s1 σ H1 _ I1 q1
 rw [hs] at hA|-
 refine Calls.callWith_builtin (by show(false||(backTo cpos (starEach es X.env)).any (·.1))=false;rw [hplain]<;>rfl) (Calls.evalArgs_plain ?_)
 exact thn hA fun us s2 ⟨vs,H2,I2,r2,q2⟩=>hm pins s2 σ H2 x vs v us Q I2 r1 r2 q2
end
def MtM(X:Cx)(id:String)(r:V->List V->Hp->VK->Prop):Prop:=
 ∀(pins:tzB) (s:Shared) (σ:St) (H:Hp) (x:V) (xs:List V) (v:Value) (us:List Value) (Q:VK),Inv X pins σ H s->cC x v->bH xs us->r x xs H Q->
  wpAny (model X.prog X.w) X.A (call (.builtin id) (v::us)) (EP X pins σ Q) X.xe s
theorem bH.one:∀{x:V} {us:List Value},bH [x] us->∃u,us=[u]/\cC x u
 |_,_,.cons r .nil=>⟨_,rfl,r⟩
theorem bH.zero:∀{us:List Value},bH [] us->us=[]
 |_,.nil=>rfl
theorem bH.dropLast{xs:List V}{us:List Value}(h:bH xs us):bH xs.dropLast us.dropLast:=by
 induction h with
 |nil=>exact .nil
 |cons r t ih=>
  cases t with
  |nil=>exact .nil
  |cons q t'=>exact .cons r ih
theorem bH.eraseIdx:∀{xs:List V} {us:List Value} (i:Nat),bH xs us->bH (xs.eraseIdx i) (us.eraseIdx i)
 |_,_,_,.nil=> .nil
 |_,_,0,.cons _ t=>t
 |_,_,i+1,.cons r t=> .cons r (bH.eraseIdx i t)
theorem bH.rep{xs:List V}{us:List Value}(h:bH xs us):∀k:Nat,bH (List.replicate k xs).flatten (List.replicate k us).flatten
 |0=> .nil
 |k+1=>by
  rw [List.replicate_succ,List.replicate_succ,List.flatten_cons,List.flatten_cons]
  exact bH.append h (bH.rep h k)
theorem wK{α:Type}(l:List α):l.eraseIdx (l.length-1)=l.dropLast:=by
 induction l with
 |nil=>rfl
 | cons a r ih=>
  cases r with
  |nil=>rfl
  | cons b r=>
   have e:(a::b::r).length-1=((b::r).length-1)+1:=by
    have h1:(a::b::r).length=r.length+2:=rfl
    have h2:(b::r).length=r.length+1:=rfl
    omega
   rw [e,List.eraseIdx_cons_succ,ih]
   all_goals rfl
theorem rS(its:List Value):∀(k:Nat) (acc:List Value),
  List.foldl (fun x1 x2=>x1++x2) acc.toArray (List.replicate k its.toArray)=(acc++(List.replicate k its).flatten).toArray
 |0,acc=>by simp
 | k+1,acc=>by
  have e:acc.toArray++its.toArray=(acc++its).toArray:=by simp
  have e2:(acc++its)++(List.replicate k its).flatten=acc++(List.replicate (k+1) its).flatten:=by
   rw [List.replicate_succ,List.flatten_cons,List.append_assoc]
  rw [<-e2,<-rS its k (acc++its),<-e,List.replicate_succ,List.foldl_cons]
section
variable{X:Cx}{pins:tzB}{σ:St}{H:Hp}{s:Shared}{l b:Addr}{xs ys zs:List V}
theorem Inv.lset{its its':List Value}{n:Nat}{f:Array Value->Array Value}{t':Nat}(I:Inv X pins σ H s)(hH:H l=some (.lst xs))
  (e:s.heap.get? l=some {cls:= .type "list",data:= .seq its.toArray n}) (hf:f its.toArray=its'.toArray) (hv:bH ys its') (hz:ys.length<=sizeLine):
  Inv X pins σ (upd H l (.lst ys)) {s with heap:=s.heap.update l (Obj.mapSeq f),toks:=t'}:=by
 have q:=PySem.IsL.update e f
 rw [hf] at q
 refine I.write (x:=l) (e:=l) (by rw [hH];exact trivial) (.inl rfl) (fun b' u hb hu=>(Heap.get?_update_other s.heap (Obj.mapSeq f) (Ne.symm hb)).trans hu) ⟨_,q⟩ ?_
 exact⟨hz,its',_,hv,q⟩
theorem Inv.lnew{its:List Value}{t':Nat}(I:Inv X pins σ H s)(hv:bH ys its)(hz:ys.length<=sizeLine):
  Inv X pins σ (upd H s.heap.objs.size (.lst ys)) {s with heap:=s.heap.push {cls:= .type "list",data:= .seq its.toArray},toks:=t'}:=
 I.laid (fun _ _ q=>Heap.get?_push_of_some _ q) (Nat.le_refl _) ⟨hz,its,0,hv,Heap.get?_push_size _ rfl⟩
theorem Inv.fresh(I:Inv X pins σ H s):H s.heap.objs.size=none:=I.hok.fresh (Nat.le_refl _)
theorem Inv.lstM(I:Inv X pins σ H s)(hH:H l=some (.lst xs)):xs.length<=sizeLine/\∃(its:List Value) (n:Nat),bH xs its/\xs.length=its.length/\s.heap.get? l=some {cls:= .type "list",data:= .seq its.toArray n}:=by
 obtain⟨z,its,n,r,e⟩:=I.hok l _ hH
 exact⟨z,its,n,r,r.length,e⟩
theorem tG{n:Nat}(h:n<=sizeLine):Builtin.List.listTooLong n=false:=by
 unfold Builtin.List.listTooLong
 exact decide_eq_false (by omega)
end
section
variable{X:Cx}
def zi3:V->List V->Hp->VK->Prop:=fun x vs H Q=>∃l xs y,x= .ref l/\vs=[y]/\H l=some (.lst xs)/\xs.length<sizeLine/\Q .non (upd H l (.lst (xs++[y])))
theorem rT:MtM X "list.append" zi3:=by
 intro pins s σ H x vs v us Q I rx rv h
 obtain⟨l,xs,y,rfl,rfl,hH,hz,q⟩:=h
 cases rx
 obtain⟨u,rfl,ru⟩:=rv.one
 obtain⟨z,its,n,r,hl,e⟩:=I.lstM hH
 refine call_meets F.slot_list_append ⟨_,e,rfl⟩ F.entry_list_append (F.args_list_append_2 _ _) (PySem.list_append l its.toArray n u (by rw [List.size_toArray];omega)) ⟨e,?_⟩
 refine⟨.non,_,I.lset (its':=its++[u]) hH e (by simp) (r.append (.cons ru .nil)) ?_,rfl,q⟩
 rw [List.length_append,List.length_singleton]
 omega
def zi4:V->List V->Hp->VK->Prop:=fun x vs H Q=>∃l b xs zs,x= .ref l/\vs=[.ref b]/\H l=some (.lst xs)/\H b=some (.lst zs)/\xs.length+zs.length<=sizeLine/\Q .non (upd H l (.lst (xs++zs)))
theorem yC:MtM X "list.extend" zi4:=by
 intro pins s σ H x vs v us Q I rx rv h
 obtain⟨l,b,xs,zs,rfl,rfl,hH,hB,hz,q⟩:=h
 cases rx
 obtain⟨u,rfl,ru⟩:=rv.one
 cases ru
 obtain⟨z,its,n,r,hl,e⟩:=I.lstM hH
 obtain⟨z2,its2,n2,r2,hl2,e2⟩:=I.lstM hB
 have hsz:its.toArray.size+its2.toArray.size<=sizeLine:=by rw [List.size_toArray,List.size_toArray];omega
 have hlong:¬(!its.toArray.isEmpty&&Builtin.List.listTooLong (its.toArray.size+its2.toArray.size))=true:=by
  rw [tG hsz,Bool.and_false]
  exact Bool.false_ne_true
 refine call_meets F.slot_list_extend ⟨_,e,rfl⟩ F.entry_list_extend (F.args_list_extend_2 _ _)
  (AutoSeq1.list_extend_list_list_0 l its.toArray n b its2.toArray n2 hlong (by rw [List.size_toArray];omega) (by omega)) ⟨e,e2,?_⟩
 refine⟨.non,_,I.lset (its':=its++its2) hH e (by simp) (r.append r2) ?_,rfl,q⟩
 rw [List.length_append]
 omega
def zu5:V->List V->Hp->VK->Prop:=fun x vs H Q=>∃l xs y,x= .ref l/\vs=[]/\H l=some (.lst xs)/\xs[xs.length-1]? =some y/\Q y (upd H l (.lst xs.dropLast))
theorem zl0:MtM X "list.pop" zu5:=by
 intro pins s σ H x vs v us Q I rx rv h
 obtain⟨l,xs,y,rfl,rfl,hH,hy,q⟩:=h
 cases rx
 have hus:=rv.zero
 subst hus
 obtain⟨z,its,n,r,hl,e⟩:=I.lstM hH
 obtain⟨u,hu,ru⟩:=r.get hy
 have hy':its.toArray[its.toArray.size-1]? =some u:=by
  show its.toArray[its.length-1]? =some u
  rw [<-Array.getElem?_toList,<-hl]
  exact hu
 refine call_meets F.slot_list_pop ⟨_,e,rfl⟩ F.entry_list_pop (F.args_list_pop_1 _) (MeetsSeq.list_pop_last l its.toArray n u hy' (by rw [List.size_toArray];omega)) ⟨e,?_⟩
 refine⟨y,_,I.lset (its':=its.dropLast) hH e ?_ r.dropLast ?_,ru,q⟩
 ·show its.toArray.eraseIdxIfInBounds (its.toArray.size-1)=its.dropLast.toArray
  rw [List.size_toArray,List.eraseIdxIfInBounds_toArray,wK]
 ·rw [List.length_dropLast]
  omega
theorem zf7{α:Type}(xs:List α)(k:Nat):(List.replicate k xs).flatten.length=k*xs.length:=by
 induction k with
 |zero=>simp
 |succ k ih=>rw [List.replicate_succ,List.flatten_cons,List.length_append,ih,Nat.succ_mul,Nat.add_comm]
end
end L2
namespace Att
open PySem PySem.W PySem.Calls PyProof.Rows
theorem qC{P:Params}{h:Heap}:∀(ns:List Int) (vs:List Value),WellAll P h vs (ns.map WData.int)->IntsAre vs ns:=by
 intro ns
 induction ns with
 |nil=>
  intro vs w
  rw [List.map_nil] at w
  cases w
  exact .nil
 | cons n ns ih=>
  intro vs w
  rw [List.map_cons] at w
  cases w with
  |cons a b=>
   cases a
   exact .cons _ _ (ih _ b)
theorem yD{l:OpenLaw}{n:Nat}(hn:l.most=some n){P:Params}{h:Heap}{args:List WData}{vals:List Value}
  (hpre:l.row.toRowW.claim.pre args=true) (hwl:WellAll P h vals args):
  ∃a vs ns,vals=[Value.ref a]/\args=[WData.list (ns.map WData.int)]/\h.get? a=some {cls:= .type "list",data:= .seq vs.toArray}/\IntsAre vs ns/\ns.length<=n:=by
 have hsh:WShape.hasAll [] args [.list .int]=true:=(pre_splitW hpre).1
 have hc:l.pre.holds [] {args:=args}=true:=(pre_splitW hpre).2
 obtain⟨d,r,rfl,h1,h2⟩:=hasAllW_cons hsh
 obtain rfl:=hasAllW_nil h2
 obtain⟨xs,rfl,h3⟩:=hasW_list h1
 obtain⟨ns,rfl⟩:=items_int h3
 have hlen:ns.length<=n:=by
  unfold OpenLaw.pre at hc
  have h4:(WTm.not (.lt (.lit (.int (n:Int))) (.len (.arg 0)))).holds [] {args:=[.list (ns.map .int)]}=true:=by
   have h4:=(holds_andW hc).1
   rw [hn] at h4
   exact h4
  have h5:=condW_of h4 (w_not (w_lt w_lit (w_len_list (w_arg rfl))))
  rw [List.length_map] at h5
  refine Nat.le_of_not_lt fun q=> ?_
  have q':(n:Int)<((ns.length:Nat):Int):=by omega
  first
   |(rw [decide_eq_true q'] at h5;exact absurd h5 (by decide))
   |(simp at h5;omega)
 cases hwl with
 |cons w1 w2=>
  cases w2
  cases w1 with
  |list ho hall=>exact⟨_,_,ns,rfl,rfl,ho,qC ns _ hall,hlen⟩
theorem yE(l:OpenLaw)(args:List WData):l.row.toRowW.claim.post args (.bool true) args=true:=
 postW_of (r:=l.row.toRowW) (X:=(true==true))
  (show WShape.has [] (.bool true) .bool=true by first|rfl|decide|simp [WShape.has,WShape.arms,WShape.armsAll])
  (show(WTm.eq .res (.lit (.bool true))).value [] {args:=args,res:=some (.bool true),after:=args}=some (.bool (true==true)) from w_eq_bool (w_res rfl) w_lit) rfl
theorem attach_call{l:OpenLaw}{n:Nat}{q:Program}{loose:List Str}{XP:(tzA)->Heap->Prop}{YP:World->Heap->Prop}{d:DefRec}
  (hn:l.most=some n) (hdf:d.params.defaults=[])
  (call:∀(w:World) (s₀ s₁:Shared) (mg mb:tzA) (fa:Addr) (o:Obj) (pm cd doc:Value) (a:Addr) (vs:List Value) (ns:List Int),
   Ground q loose [] XP w s₀ mg mb s₁.heap->YP w s₁.heap->
   s₁.heap.get? fa=some o->o.data= .func (docDef d.name d.params d.body d.scope pm cd doc)->s₁.heap.CodeRec cd d.name->mg d.name=some (.ref fa)->
   s₁.heap.get? a=some {cls:= .type "list",data:= .seq vs.toArray}->IntsAre vs ns->ns.length<=n->s₁.gens= #[]->
   codeAny (model l.prog w) callerA (.call (.ref fa) ⟨[.ref a],[]⟩) (fun r s'=>r= .ok (.ret (.bool true))/\OldK s₁.heap s'.heap/\s'.os=s₁.os/\AllBare s'.gens) s₁):
  WalkO q loose XP YP l.row.toRowW d [] (fun f vs=>PySem.call f vs):=by
 intro w s₀ s₁ mg mb G Y fa o pm cd doc dV kV ho hd hcd hD hmg hg args vals as hpre hlay hrd hwl hlo
 obtain rfl:dV= .none:=Dflts.none hD hdf
 obtain rfl:kV= .none:=Dflts.noKw hD
 obtain⟨a,vs,ns,rfl,rfl,hobj,hints,hlen⟩:=yD hn hpre hwl
 refine enter_call (codeAny_mono (call w s₀ s₁ mg mb fa o pm cd doc a vs ns G Y ho (fd_plain hd) hcd hmg hobj hints hlen hg) fun r s' hq=> ?_)
 obtain⟨rfl,h2,h3,h4⟩:=hq
 exact⟨.inl ⟨.bool true,.bool true,[],rfl,fun _=>rfl,.bool true,yE l _,fun _=>⟨List.Pairwise.nil,fun _ hm=>(nomatch hm)⟩⟩,h2,h3,h4⟩
end Att
namespace L2
open PySem PySem.Spec PyProof.Rows
theorem rV:∀{vs:List Value} {ns:List Int},IntsAre vs ns->bH (ns.map V.int) vs
 |_,_,.nil=> .nil
 |_,_,.cons n t h=> .cons ⟨t,rfl⟩ (rV h)
def zc6(H:Hp):Prop:=∀b,H b=none\/∃o xs,H b=some (.frz o (.lst xs))
theorem za1{P:Program}{w:World}{K:tz0}{mg mb:tzA}{CX:CXT}{k:Nat}{fa a:Addr}{fd:FuncData}{x:Str}{sp:Sp}{s₁:Shared}{vs:List Value}{ns:List Int}
  (KX:K.In s₁.heap) (hns:s₁.heap.Ns mainGlobals mg) (hb:s₁.heap.Ns builtinsNs mb) (hbb:∀x:Str,x≠"__name__"->mb x=bootBuiltins x) (hlim:s₁.heap.NoLimit) (hg:s₁.gens= #[])
  (ha:s₁.heap.get? a=some {cls:= .type "list",data:= .seq vs.toArray}) (hi:IntsAre vs ns) (hl:ns.length<=sizeLine) (hr:Room k callerA)
  (F:∀base:Heap,K.In base->base.Ns mainGlobals mg->FnOk P w K mg base CX k fa fd [x] sp) (hbind:∀(s:Shared) (u:Value),BindsTo s fd ⟨[u],[]⟩ [(x,u)])
  (hsp:∀H:Hp,zc6 H->SqL K H a (ns.map V.int)->sp [.ref a] H (fun v _=>v= .bl true) fun _ _ _=>False)
  (hCX:∀H e s',CX [] H s₁ (fun _ _ _=>False) e s'->False):
  codeAny (model P w) callerA (.call (.ref fa) ⟨[.ref a],[]⟩) (fun r s'=>r= .ok (.ret (.bool true))/\OldK s₁.heap s'.heap/\s'.os=s₁.os/\AllBare s'.gens) s₁:=by
 have rv:=rV hi
 have lenV:=hi.length
 have core:∀H:Hp,zc6 H->SqL K H a (ns.map V.int)->HOk P w H s₁.heap->(∀b,H b≠none->b=a)->(H a≠none->K.lookup a=none)->
   codeAny (model P w) callerA (.call (.ref fa) ⟨[.ref a],[]⟩) (fun r s'=>r= .ok (.ret (.bool true))/\OldK s₁.heap s'.heap/\s'.os=s₁.os/\AllBare s'.gens) s₁:=by
  intro H hO hS hok hA hK
  have base_of:∀{b:Addr} {o:Obj},s₁.heap.get? b=some o->H b=none->(nK s₁.heap H).get? b=some o:=fun e n=>zR e n
  have noA:∀{b:Addr} {o:Obj} {es:Array DictEntry} {ep:Nat},s₁.heap.get? b=some o->o.data= .dict es ep->H b=none:=fun {b o es ep} e d=>by
   cases q:H b with
   |none=>rfl
   |some u=>
    have e':b=a:=hA b (by rw [q];simp)
    subst e'
    rw [ha] at e;cases e
    have d':Data.seq vs.toArray _=Data.dict es ep:=d
    cases d'
  have nsK:∀{b:Addr} {m:tzA},s₁.heap.Ns b m->(nK s₁.heap H).Ns b m:=fun {b m} ⟨o,es,ep,e,d,r⟩=>⟨o,es,ep,base_of e (noA e d),d,r⟩
  have hKb:K.In (nK s₁.heap H):=fun b o e=>base_of (KX b o e) (by
   cases q:H b with
   |none=>rfl
   |some u=>
    have e':b=a:=hA b (by rw [q];simp)
    subst e'
    rw [hK (by rw [q];simp)] at e;cases e)
  have hM:Mod K mg (nK s₁.heap H):=⟨hKb,nsK hns,⟨mb,nsK hb,hbb⟩,let ⟨mc,h1,h2⟩:=hlim;⟨mc,nsK h1,h2⟩⟩
  have e0:Env0 P w K mg (nK s₁.heap H) callerA [] s₁ H:=⟨rfl,hM,fun b o e=>ze7 e,Nat.le_of_eq (xJ _ _),trivial,fun b hb=>absurd (show b∈([]:List Addr) from hb) (by simp),hok,.of_eq hg⟩
  refine codeAny_mono ((F _ hKb (nsK hns)).run callerA [] s₁ H ⟨[.ref a],[]⟩ [.ref a] [.ref a] _ _ hr e0 (hbind s₁ (.ref a)) (.cons rfl .nil) (hsp H hO hS)) fun r s' h=> ?_
  cases r with
  |error e=>exact(hCX H e s' h).elim
  | ok fl=>
   cases fl with
   |next=>exact False.elim h
   |brk=>exact False.elim h
   |cont=>exact False.elim h
   | ret u=>
    obtain⟨v,H',os,bare,un,hok',r',q⟩:=h
    have q':v= .bl true:=q
    subst q'
    obtain rfl:u=Value.bool true:=r'
    refine⟨rfl,OldK.of_keep fun b o e=> ?_,os,bare⟩
    cases q:H b with
    |none=>exact un.keep b o e q (by intro z;exact absurd (show b∈([]:List Addr) from z) (by simp)) (by simp)
    | some u=>
     rcases hO b with z|⟨ob,xs,z⟩
     ·rw [q] at z;cases z
     ·have z2:=un.frzs b ob _ z
      obtain⟨e1,_⟩:=hok b _ z
      obtain⟨e2,_⟩:=hok' b _ z2
      rw [e] at e1;cases e1
      exact e2
 cases hk:K.lookup a with
 |some o=>
  have e:=KX a o hk
  rw [ha] at e
  cases e
  refine core (fun _=>none) (fun _=> .inl rfl) (.inr ⟨_,vs.toArray,_,hk,rfl,rfl,rfl,by rw [List.size_toArray,lenV];exact hl,by simpa using rv⟩) (fun b u z=>by have z':(none:Option HO)=some u:=z;cases z') (fun b z=>absurd rfl z) fun z=>absurd rfl z
 | none=>
  refine core (fun b=>if b=a then some (.frz {cls:= .type "list",data:= .seq vs.toArray} (.lst (ns.map V.int))) else none) (fun b=> ?_) (.inl (.inr ⟨{cls:= .type "list",data:= .seq vs.toArray},if_pos rfl⟩)) (fun b u z=> ?_) (fun b z=> ?_) fun _=>hk
  ·by_cases hb:b=a
   ·exact .inr ⟨_,_,if_pos hb⟩
   ·exact .inl (if_neg hb)
  ·by_cases hb:b=a
   ·have z':=(if_pos hb).symm.trans z
    cases z'
    subst hb
    exact⟨ha,by rw [List.length_map];exact hl,vs,_,rv,ha⟩
   ·have z':=(if_neg hb).symm.trans z
    cases z'
  ·by_cases hb:b=a
   ·exact hb
   ·exact absurd (if_neg hb) z
theorem zf8{l:PySem.W.OpenLaw}{n k:Nat}{q:Program}{loose:List Str}{XP:(tzA)->Heap->Prop}{YP:World->Heap->Prop}{d:DefRec}{K:Params->tz0}{CX:World->CXT}{sp:World->Sp}{x:Str}
  (hn:l.most=some n) (hn2:n<=sizeLine) (hdf:d.params.defaults=[]) (hr:Room k callerA)
  (hY:∀(w:World) (h:Heap),YP w h->(K w.params).In h)
  (F:∀(w:World) (mg:tzA) (fa:Addr) (h:Heap),(K w.params).In h->h.Ns mainGlobals mg->mg d.name=some (.ref fa)->
   ∃fd:FuncData,(∀(s:Shared) (u:Value),BindsTo s fd ⟨[u],[]⟩ [(x,u)])/\
    ∀base:Heap,(K w.params).In base->base.Ns mainGlobals mg->FnOk l.prog w (K w.params) mg base (CX w) k fa fd [x] (sp w))
  (hsp:∀(w:World) (H:Hp) (a:Addr) (ns:List Int),ns.length<=n->zc6 H->SqL (K w.params) H a (ns.map V.int)->sp w [.ref a] H (fun v _=>v= .bl true) fun _ _ _=>False)
  (hCX:∀(w:World) (H:Hp) (s:Shared) (e:Value) (s':Shared),CX w [] H s (fun _ _ _=>False) e s'->False):
  PySem.W.WalkO q loose XP YP l.row.toRowW d [] (fun f vs=>PySem.call f vs):=by
 refine Att.attach_call hn hdf fun w s₀ s₁ mg mb fa o pm cd doc a vs ns G Y ho hd hcd hmg hobj hints hlen hg=> ?_
 have KX:=hY w _ Y
 obtain⟨fd,hb,hF⟩:=F w mg fa _ KX G.T.g hmg
 exact za1 KX G.T.g G.T.b G.T.builtins G.T.nolimit hg hobj hints (Nat.le_trans hlen hn2) hr hF hb (fun H hO hS=>hsp w H a ns hlen hO hS) fun H e s'=>hCX w H s₁ e s'
def cL(s:Stmt):Arguments:=match s with
 | .FunctionDef _ a _ _ _ _ _ _ _ _=>a
 |_=>{posonlyargs:=[],args:=[],vararg:=none,kwonlyargs:=[],kw_defaults:=[],kwarg:=none,defaults:=[]}
def cD(s:Stmt):List Stmt:=match s with
 | .FunctionDef _ _ b _ _ _ _ _ _ _=>b
 |_=>[]
def aV(s:Stmt):Scope:=match s with
 | .FunctionDef _ _ _ _ _ _ sc _ _ _=>sc
 |_=>{kind:= .function,names:=[],isGenerator:=false,isCoroutine:=false}
abbrev CX0:CXT:=fun _ _ _ _ _ _=>False
abbrev E0:XK:=fun _ _ _=>False
theorem zp3{X:Cx}:uV CX0 X E0:=fun _ _ _ _ _ _ _ h=>h.elim
structure Fun(K:tz0)(x qual:Str)(st:Stmt)(f:Addr)(fd:FuncData):Prop where
 ex:∃(oc:Value) (od:Option Addr) (kV doc pm:Value) (an:Option Addr) (cdv ct:Value) (osl:Array (Option Value)),
  fd=PySem.W.fnOf x qual (cL st) (cD st) (aV st) .none kV doc pm an cdv ct/\K.lookup f=some ⟨oc,od,.func fd,osl⟩/\PySem.W.codeIn K cdv qual=true
 kp:PySem.W.keepIn K (.ref f)=true
section
variable{P:Program}{w:World}{K:tz0}{mg:tzA}{base:Heap}
theorem Fun.ok{x qual:Str}{st:Stmt}{f:Addr}{fd:FuncData}{N ps:List Str}{k:Nat}{sp:Sp}(F:Fun K x qual st f fd)(S:FnScope N ps (aV st))(len:∀vs H Q E,sp vs H Q E->vs.length=ps.length)
  (hbody:∀(cdv:Value) (A:Around) (outer:List Env) (s:Shared) (H:Hp) (vs:List V) (Q:VK) (E:XK),Room k (A.deeper (envOfC qual (aV st) s.heap.objs.size f cdv))->sp vs H Q E->
   ∃t,PSs (oK CX0 P w K mg base N qual (aV st) f cdv A outer s H E).nox (cD st) t/\t {nx:=fun _ H'=>Q .non H',rt:=Q} (start N vs) H):FnOk P w K mg base CX0 (k+1) f fd ps sp:=by
 obtain⟨oc,od,kV,doc,pm,an,cdv,ct,osl,rfl,lk,hcd⟩:=F.ex
 refine zp2 lk hcd S len fun A outer s H vs Q E hr hsp=> ?_
 obtain⟨t,h,q⟩:=hbody cdv A outer s H vs Q E hr hsp
 exact⟨t,h.nox,q⟩
theorem Fun.binds{x qual:Str}{st:Stmt}{f:Addr}{fd:FuncData}{ps:List Str}(F:Fun K x qual st f fd)
  (h:∀(kV doc pm:Value) (an:Option Addr) (cdv ct:Value) (us:List Value),us.length=ps.length->bindArgs (PySem.W.fnOf x qual (cL st) (cD st) (aV st) .none kV doc pm an cdv ct) ⟨us,[]⟩=pure (ps.zip us)):mB K fd ps []:=by
 obtain⟨oc,od,kV,doc,pm,an,cdv,ct,osl,rfl,lk,hcd⟩:=F.ex
 exact .all (h kV doc pm an cdv ct)
theorem yF{x qual:Str}{st:Stmt}{f:Addr}{oc:Value}{od an:Option Addr}{osl:Array (Option Value)}{kV doc pm cdv ct:Value}(l:K.lookup f=some ⟨oc,od,.func (PySem.W.fnOf x qual (cL st) (cD st) (aV st) .none kV doc pm an cdv ct),osl⟩)
  (c:PySem.W.codeIn K cdv qual=true) (k:PySem.W.keepIn K (.ref f)=true):Fun K x qual st f (PySem.W.fnOf x qual (cL st) (cD st) (aV st) .none kV doc pm an cdv ct):=⟨⟨oc,od,kV,doc,pm,an,cdv,ct,osl,rfl,l,c⟩,k⟩
end
theorem rW{n:Nat}(h:n<=1000):n<sizeLine:=Nat.lt_of_le_of_lt h (by decide)
section
variable{X:Cx}
theorem pv(i:Nat){x:Str}{pos:Pos}(hN:X.N[i]? =some x:=by rfl)(hv:Vis X.env.scope x:=by first|exact Or.inl rfl|exact Or.inr (Or.inl rfl)|exact Or.inr (Or.inr rfl))(hd:(x==("__debug__":Str))=false:=by decide)
  (hcd:(x==("__classdict__":Str))=false:=by decide):PE X (.Name x pos) (zc2 i):=lK hN hv hd hcd
end
theorem zs1{c A B:Prop}[Decidable c](h1:c->A)(h2:¬c->B):if c then A else B:=by
 by_cases h:c
 ·rw [if_pos h]
  exact h1 h
 ·rw [if_neg h]
  exact h2 h
def jA(H H':Hp):Prop:=∀b o,H b=some o->H' b=some o
theorem jA.refl(H:Hp):jA H H:=fun _ _ h=>h
theorem jA.trans{H H1 H2:Hp}(a:jA H H1)(b:jA H1 H2):jA H H2:=fun c o h=>b c o (a c o h)
theorem jA.free{H H':Hp}(e:jA H H'){l:Addr}(h:H' l=Option.none):H l=Option.none:=by
 cases q:H l with
 |none=>rfl
 |some o=>
  rw [e l o q] at h
  cases h
theorem jA.seq{K:tz0}{H H':Hp}{a:Addr}{xs:List V}(e:jA H H')(h:SqL K H a xs):SqL K H' a xs:=by
 rcases h with (h|⟨o,h⟩)|h
 ·exact .inl (.inl (e _ _ h))
 ·exact .inl (.inr ⟨o,e _ _ h⟩)
 ·exact .inr h
section
variable{κ:Type}[DecidableEq κ]
def kY(kvs:List (κ×V))(k:κ):Option V:=(kvs.find? fun kv=>decide (kv.1=k)).map (·.2)
def oM(kvs:List (κ×V))(k:κ)(v:V):List (κ×V):=
 if (kvs.any fun kv=>decide (kv.1=k))=true then kvs.map (fun kv=>if kv.1=k then(kv.1,v) else kv) else kvs++[(k,v)]
def ze2(kvs:List (κ×V))(k:κ):List (κ×V):=kvs.filter fun kv=>decide (kv.1≠k)
theorem pM{p:κ×V}{r:List (κ×V)}{k:κ}(e:p.1=k):kY (p::r) k=some p.2:=by simp [kY,List.find?_cons,e]
theorem pN{p:κ×V}{r:List (κ×V)}{k:κ}(e:¬p.1=k):kY (p::r) k=kY r k:=by simp [kY,List.find?_cons,e]
theorem tH(k:κ):∀kvs:List (κ×V),(kvs.any fun kv=>decide (kv.1=k))=(kY kvs k).isSome
 |[]=>rfl
 |p::r=>by
  rw [List.any_cons]
  by_cases e:p.1=k
  ·simp only [pM e,decide_eq_true e,Bool.true_or,Option.isSome_some]
  ·rw [pN e,decide_eq_false e,Bool.false_or];exact tH k r
theorem lQ.isSome_eq{o:Option V}{u:Option Value}(r:lQ o u):o.isSome=u.isSome:=by
 cases o with
 |none=>cases u with
  |none=>rfl
  |some _=>exact(show False from r).elim
 |some _=>cases u with
  |none=>exact(show False from r).elim
  |some _=>rfl
theorem lQ.getD{o:Option V}{u:Option Value}{d:V}{d':Value}(r:lQ o u)(rd:cC d d'):cC (o.getD d) (u.getD d'):=by
 cases o with
 |none=>cases u with
  |none=>exact rd
  |some _=>exact(show False from r).elim
 |some _=>cases u with
  |none=>exact(show False from r).elim
  |some _=>exact r
theorem KV.val{kvs:List (κ×V)}{vs:List (κ×Value)}(r:KV kvs vs)(k:κ):lQ (kY kvs k) (valueAt vs k):=by
 unfold KV at r
 induction r with
 |nil=>exact True.intro
 | @cons p q ps qs h t ih=>
  obtain⟨h1,h2⟩:=h
  by_cases e:p.1=k
  ·have e':q.1=k:=h1.symm.trans e
   have b:valueAt (q::qs) k=some q.2:=by simp [valueAt,List.find?_cons,e']
   rw [pM e,b];exact h2
  ·have e':¬q.1=k:=fun z=>e (h1.trans z)
   have b:valueAt (q::qs) k=valueAt qs k:=by simp [valueAt,List.find?_cons,e']
   rw [pN e,b];exact ih
theorem KV.any{kvs:List (κ×V)}{vs:List (κ×Value)}(r:KV kvs vs)(k:κ):(kvs.any fun kv=>decide (kv.1=k))=vs.any fun kv=>decide (kv.1=k):=by
 unfold KV at r
 induction r with
 |nil=>rfl
 |cons h t ih=>rw [List.any_cons,List.any_cons,ih,h.1]
theorem KV.repl{kvs:List (κ×V)}{vs:List (κ×Value)}(r:KV kvs vs)(k:κ){y:V}{u:Value}(ry:cC y u):
  KV (kvs.map fun kv=>if kv.1=k then(kv.1,y) else kv) (vs.map fun kv=>if kv.1=k then(kv.1,u) else kv):=by
 unfold KV at r|-
 induction r with
 |nil=>exact .nil
 | @cons p q ps qs h t ih=>
  rw [List.map_cons,List.map_cons]
  refine .cons ?_ ih
  obtain⟨h1,h2⟩:=h
  by_cases e:p.1=k
  ·rw [if_pos e,if_pos (h1.symm.trans e)];exact⟨h1,ry⟩
  ·rw [if_neg e,if_neg (fun z=>e (h1.trans z))];exact⟨h1,h2⟩
theorem KV.put{kvs:List (κ×V)}{vs:List (κ×Value)}(r:KV kvs vs)(k:κ){y:V}{u:Value}(ry:cC y u):KV (oM kvs k y) (stored vs k u):=by
 unfold oM stored
 rw [r.any k]
 by_cases e:(vs.any fun kv=>decide (kv.1=k))=true
 ·rw [if_pos e,if_pos e];exact r.repl k ry
 ·rw [if_neg e,if_neg e];exact Paired.snoc r ⟨rfl,ry⟩
theorem KV.drop{kvs:List (κ×V)}{vs:List (κ×Value)}(r:KV kvs vs)(k:κ):KV (ze2 kvs k) (without vs k):=by
 unfold KV at r|-
 unfold ze2 without
 induction r with
 |nil=>exact .nil
 | @cons p q ps qs h t ih=>
  obtain⟨h1,h2⟩:=h
  rw [List.filter_cons,List.filter_cons]
  by_cases e:p.1=k
  ·have a:¬decide (p.1≠k)=true:=by simp [e]
   have b:¬decide (q.1≠k)=true:=by simp [h1.symm.trans e]
   rw [if_neg a,if_neg b];exact ih
  ·have e':¬q.1=k:=fun z=>e (h1.trans z)
   have a:decide (p.1≠k)=true:=by simp [e]
   have b:decide (q.1≠k)=true:=by simp [e']
   rw [if_pos a,if_pos b];exact .cons ⟨h1,h2⟩ ih
theorem KV.length{kvs:List (κ×V)}{vs:List (κ×Value)}(r:KV kvs vs):kvs.length=vs.length:=Paired.length r
end
abbrev KT(H:Hp):List (List Key×V)->List (List Key×Addr×Value)->Prop:=Paired fun p q=>p.1=q.1/\H q.2.1=some (.tup (p.1.map kV))/\cC p.2 q.2.2
theorem KT.val{H:Hp}{kvs:List (List Key×V)}{xs:List (List Key×Addr×Value)}(r:KT H kvs xs)(k:List Key):lQ (kY kvs k) ((atKey xs k).map (·.2)):=by
 induction r with
 |nil=>exact True.intro
 | @cons p q ps qs h t ih=>
  obtain⟨h1,_,h2⟩:=h
  by_cases e:p.1=k
  ·have e':q.1=k:=h1.symm.trans e
   have b:atKey (q::qs) k=some q.2:=by simp [atKey,List.find?_cons,e']
   rw [pM e,b];exact h2
  ·have e':¬q.1=k:=fun z=>e (h1.trans z)
   have b:atKey (q::qs) k=atKey qs k:=by simp [atKey,List.find?_cons,e']
   rw [pN e,b];exact ih
theorem KT.repl{H:Hp}{kvs:List (List Key×V)}{xs:List (List Key×Addr×Value)}(r:KT H kvs xs)(k:List Key){y:V}{u:Value}(ry:cC y u):
  KT H (kvs.map fun kv=>if kv.1=k then(kv.1,y) else kv) (xs.map (putAt k u)):=by
 induction r with
 |nil=>exact .nil
 | @cons p q ps qs h t ih=>
  rw [List.map_cons,List.map_cons]
  refine .cons ?_ ih
  obtain⟨h1,h2,h3⟩:=h
  unfold putAt
  by_cases e:p.1=k
  ·rw [if_pos e,if_pos (h1.symm.trans e)];exact⟨h1,h2,ry⟩
  ·rw [if_neg e,if_neg (fun z=>e (h1.trans z))];exact⟨h1,h2,h3⟩
theorem KT.put{H:Hp}{kvs:List (List Key×V)}{xs:List (List Key×Addr×Value)}(r:KT H kvs xs)(k:List Key){b:Addr}{y:V}{u:Value}(hb:H b=some (.tup (k.map kV)))(ry:cC y u):
  KT H (oM kvs k y) (storedH xs k b u):=by
 have e:(kvs.any fun kv=>decide (kv.1=k))=(atKey xs k).isSome:=by
  rw [tH,(r.val k).isSome_eq,Option.isSome_map]
 unfold oM storedH
 rw [e]
 by_cases q:(atKey xs k).isSome=true
 ·rw [if_pos q,if_pos q];exact r.repl k ry
 ·rw [if_neg q,if_neg q];exact Paired.snoc r ⟨rfl,hb,ry⟩
theorem KT.keeps{H H':Hp}{kvs:List (List Key×V)}{xs:List (List Key×Addr×Value)}(r:KT H kvs xs)(ht:∀b ys,H b=some (.tup ys)->H' b=some (.tup ys)):KT H' kvs xs:=
 Paired.mapP r fun _ _ z=>⟨z.1,ht _ _ z.2.1,z.2.2⟩
def xD(H:Hp)(a:Addr)(y:V)(r:Option V):Prop:=
 (∃kvs k,Rd H a (.dK kvs)/\y=kV k/\r=kY kvs k)\/∃kvs k b,Rd H a (.dT kvs)/\y= .ref b/\H b=some (.tup (k.map kV))/\r=kY kvs k
def xE(H:Hp)(a:Addr)(y v:V)(H':Hp):Prop:=
 (∃kvs k,H a=some (.dK kvs)/\y=kV k/\kvs.length<sizeLine/\H'=upd H a (.dK (oM kvs k v)))\/
 ∃kvs k b,H a=some (.dT kvs)/\y= .ref b/\H b=some (.tup (k.map kV))/\kvs.length<sizeLine/\H'=upd H a (.dT (oM kvs k v))
theorem xD.k{H:Hp}{a:Addr}{kvs:List (Key×V)}{k:Key}(e:H a=some (.dK kvs)):xD H a (kV k) (kY kvs k):= .inl ⟨kvs,k,.inl e,rfl,rfl⟩
theorem xD.t{H:Hp}{a b:Addr}{kvs:List (List Key×V)}{k:List Key}(e:H a=some (.dT kvs))(eb:H b=some (.tup (k.map kV))):xD H a (.ref b) (kY kvs k):= .inr ⟨kvs,k,b,.inl e,rfl,eb,rfl⟩
theorem xE.k{H:Hp}{a:Addr}{kvs:List (Key×V)}{k:Key}{v:V}(e:H a=some (.dK kvs))(hl:kvs.length<sizeLine):xE H a (kV k) v (upd H a (.dK (oM kvs k v))):= .inl ⟨kvs,k,e,rfl,hl,rfl⟩
theorem xE.t{H:Hp}{a b:Addr}{kvs:List (List Key×V)}{k:List Key}{v:V}(e:H a=some (.dT kvs))(eb:H b=some (.tup (k.map kV)))(hl:kvs.length<sizeLine):
  xE H a (.ref b) v (upd H a (.dT (oM kvs k v))):= .inr ⟨kvs,k,b,e,rfl,eb,hl,rfl⟩
structure M1(X:Cx)(o:Expr)(m:Str)(apos:Pos)(e:Expr)(cpos:Pos):Prop where
 base:attributeBase o m X.env (eval o X.env)=eval o X.env
 few:((backTo cpos (starEach [e] X.env)).all (fun x=> !x.1)&&(backToKw cpos (keywordEach [] X.env)).all (fun x=>x.1.isSome)
  &&decide (([e]:List Expr).length+([]:List Keyword).length+(if ([]:List Keyword).isEmpty then 0 else 1)<30))=true
 line:(apos.endLine==cpos.line)=true
 trees:backTo cpos (starEach [e] X.env)=[(false,eval e X.env)]
structure M2(X:Cx)(o:Expr)(m:Str)(apos:Pos)(e f:Expr)(cpos:Pos):Prop where
 base:attributeBase o m X.env (eval o X.env)=eval o X.env
 few:((backTo cpos (starEach [e,f] X.env)).all (fun x=> !x.1)&&(backToKw cpos (keywordEach [] X.env)).all (fun x=>x.1.isSome)
  &&decide (([e,f]:List Expr).length+([]:List Keyword).length+(if ([]:List Keyword).isEmpty then 0 else 1)<30))=true
 line:(apos.endLine==cpos.line)=true
 trees:backTo cpos (starEach [e,f] X.env)=[(false,eval e X.env),(false,eval f X.env)]
structure Dn(K:tz0)(mg:tzA)(x:Str)(st:Stmt)(ps:List Str)(f:Addr)(fd:FuncData):Prop where
 F:Fun K x x st f fd
 b:mB K fd ps []
 m:mg x=some (.ref f)
section
variable{X:Cx}{x:Str}{st:Stmt}{ps:List Str}{f:Addr}{fd:FuncData}{k:Nat}{sp:Sp}{p pos:Pos}{e:Expr}{es:List Expr}{t:TA}
theorem zd4(D:Dn X.K X.mg x st ps f fd)(G:FnOk X.prog X.w X.K X.mg X.base CX0 k f fd ps sp)(hr:Room k X.A)(hg:Gl X x)(ha:PA X (e::es) t)
  (hdb:(x==("__debug__":Str))=false:=by decide) (he:starEach (e::es) X.env=(false,eval e X.env)::starEach es X.env:=by rfl) (hpl:(backTo pos (starEach es X.env)).any (·.1)=false:=by rfl):
  PE X (.Call (.Name x p) (e::es) [] pos) (ze1 sp [] E0 t):=zf5 G hr hg D.m D.F.kp D.b .nil zp3 ha hdb he hpl
end
theorem jA.seqT{K:tz0}{H H':Hp}{a:Addr}{xs:List V}(e:jA H H')(h:SqT K H a xs):SqT K H' a xs:=by
 rcases h with (h|⟨o,h⟩)|h
 ·exact .inl (.inl (e _ _ h))
 ·exact .inl (.inr ⟨o,e _ _ h⟩)
 ·exact .inr h
theorem za2{H:Hp}{p:Addr}(h:H p=none)(o:HO):jA H (upd H p o):=fun b u q=>by rw [bR (jH q h)];exact q
theorem wL{n:Nat}(h:n<=1000):n<=sizeLine:=Nat.le_of_lt (rW h)
def mS(H:Hp):V->Option String
 | .non=>some "NoneType"
 | .bl _=>some "bool"
 | .int _=>some "int"
 | .str _=>some "str"
 | .ref a=>match H a with
  |some (.lst _)=>some "list"
  |some (.frz _ (.lst _))=>some "list"
  |some (.tup _)=>some "tuple"
  |some (.dK _)=>some "dict"
  |_=>none
 |_=>none
def lH(t c:String):Bool:=decide (t=c)||(decide (t="bool")&&decide (c="int"))
def xF:List String:=["NoneType","bool","int","str","list","tuple","dict"]
theorem tI(K:tz0):∀t∈xF,∀c∈["bool","int","str","list","tuple","dict"],PySem.W.kitOne K (.type t) (.type c)=some (lH t c):=by
 intro t ht c hc
 simp only [xF,List.mem_cons,List.not_mem_nil,or_false] at ht hc
 rcases ht with rfl|rfl|rfl|rfl|rfl|rfl|rfl<;>rcases hc with rfl|rfl|rfl|rfl|rfl|rfl<;>rfl
theorem yG{K:tz0}{H:Hp}{x:V}{t:String}(h:mS H x=some t):TyOf K H x (.type t)/\t∈xF:=by
 cases x with
 |non=>cases h;exact⟨.non,by decide⟩
 |bl b=>cases h;exact⟨.bl b,by decide⟩
 |int i=>cases h;exact⟨.int i,by decide⟩
 |str x=>cases h;exact⟨.str x,by decide⟩
 | ref a=>
  have h':(match H a with
   |some (.lst _)=>some "list"
   |some (.frz _ (.lst _))=>some "list"
   |some (.tup _)=>some "tuple"
   |some (.dK _)=>some "dict"
   |_=>none)=some t:=h
  cases e:H a with
  |none=>rw [e] at h';cases h'
  | some o=>
   rw [e] at h'
   cases o with
   |lst xs=>cases h';exact⟨.lst e,by decide⟩
   |tup xs=>cases h';exact⟨.tup e,by decide⟩
   |dK kvs=>cases h';exact⟨.dK e,by decide⟩
   |frz ob u=>
    cases u with
    |lst xs=>cases h';exact⟨.frz e,by decide⟩
    |_=>cases h'
   |_=>cases h'
 |_=>cases h
section
variable{X:Cx}
theorem za3:cM X (.builtin "isinstance") (fun xs H Q=>∃x c t,xs=[x,.ty c]/\mS H x=some t/\c∈["bool","int","str","list","tuple","dict"]/\Q (.bl (lH t c)) H):=by
 intro pins s σ H xs us Q I r h
 obtain⟨x,c,t,rfl,ht,hc,q⟩:=h
 obtain⟨u,v,rfl,rx,rc⟩:=sO r
 cases(show v=Value.type c from rc)
 obtain⟨ty,hk⟩:=yG (K:=X.K) ht
 exact xW I rx ty (tI X.K t hk c hc) fun tk=>⟨.bl (lH t c),H,I.tok tk,rfl,q⟩
def sLt(i j:Str):Bool:=decide (i.cps.toList<j.cps.toList)
theorem yH:OpR X (compareOp .LtE) (fun x y H Q=>∃i j,x= .str i/\y= .str j/\Q (.bl (!sLt j i)) H):=by
 intro pins s σ H x y v u Q I rx ry h
 obtain⟨i,j,rfl,rfl,q⟩:=h
 obtain⟨t,rfl⟩:=rx
 obtain⟨t',rfl⟩:=ry
 exact PySem.P.le_str (cJ I q rfl)
theorem rX:∀{bs:List Bool} {us:List Value},bH (bs.map V.bl) us->LSm.BoolsAre us bs
 |[],_,.nil=> .nil
 |b::bs,_,.cons r t=>by
  cases(show _=Value.bool b from r)
  exact .cons b (rX t)
theorem tJ:∀{ns:List Int} {us:List Value},bH (ns.map V.int) us->IntsAre us ns
 |[],_,.nil=> .nil
 |n::ns,_,.cons r t=>by
  obtain⟨k,rfl⟩:=r
  exact .cons n k (tJ t)
theorem yI(hc:X.calm=true):cM X (.builtin "all") (fun xs H Q=>∃(a:Addr) (bs:List Bool),xs=[.ref a]/\SqL X.K H a (bs.map V.bl)/\Q (.bl (bs.all id)) H):=by
 intro pins s σ H xs us Q I r h
 obtain⟨a,bs,rfl,hq,q⟩:=h
 obtain⟨u,rfl,rx⟩:=mX r
 cases(show u=Value.ref a from rx)
 obtain⟨its,rv,p,hz⟩:=I.list hq
 have hl:=p.isList
 have hb:=rX rv
 have hlt:a<s.heap.objs.size:=by obtain⟨_,e,_⟩:=hl;exact Heap.lt_size e
 refine call_all_walk (wpAny_pyIter_list hl ?_)
 refine⟨s.heap.objs.size,[s.heap.objs.size,a],[s.heap.objs.size],its.toArray.size,_,_,fun i=>(bs[i]?).getD true,rfl,Walks.list (A:=X.A.in1) (I.ok.hd hc) _ a (Nat.ne_of_lt hlt) its.toArray,
  ⟨⟨_,Heap.get?_push_size _ rfl,rfl,rfl⟩,hl.push _⟩,fun i v s' Q' E' hP hQ=> ?_,fun h' tk hk=> ?_⟩
 ·obtain⟨b,e,rfl⟩:=hb.get i v (by simpa using hP)
  simp only [e,Option.getD_some] at hQ
  exact wpAny_truthy_bool hQ
 ·have e:((List.range its.toArray.size).all fun i=>(bs[i]?).getD true)=bs.all id:=by
   rw [List.size_toArray,hb.length];exact LSm.range_all bs
  rw [e]
  exact⟨.bl (bs.all id),H,I.kept (LSm.kept_iter hk),rfl,q⟩
theorem yJ(hc:X.calm=true):cM X (.builtin "sum") (fun xs H Q=>∃(a:Addr) (ns:List Int),xs=[.ref a]/\SqL X.K H a (ns.map V.int)/\Q (.int ns.sum) H):=by
 intro pins s σ H xs us Q I r h
 obtain⟨a,ns,rfl,hq,q⟩:=h
 obtain⟨u,rfl,rx⟩:=mX r
 cases(show u=Value.ref a from rx)
 obtain⟨its,rv,p,hz⟩:=I.list hq
 have hi:=tJ rv
 obtain⟨xs,hx⟩:=hi.allInts.items
 have hl':s.heap.IsList a (intItems xs):=hx▸p.isList
 refine sum_intListG (I.ok.hd hc) hl' fun h' tk t' hk=> ?_
 have e1:ns=xs.toList.map (·.1):=by
  rw [<-nums_intItems,<-hx]
  exact(show numsOf its.toArray.toList=ns from hi.numsOf).symm
 have e2:preSum (numAt xs) xs.size=ns.sum:=by
  rw [preSum_eq,List.take_of_length_le (by simp),e1]
 rw [e2]
 exact⟨.int ns.sum,H,I.kept hk,⟨_,rfl⟩,q⟩
end
theorem mY{env:Env}:∀(names:List (Str×NameKind)) (cs:List (Str×Addr)),
  (∀y∈names,y.2= .free->∃c,env.cells.lookup y.1=some c)->(∀x c,cs.lookup x=some c->env.cells.lookup x=some c)->
  ∃ cl,(forIn names cs fun(y:Str×NameKind) (r:List (Str×Addr))=>
    (if (y.2== .free)=true then(do let a<-cellOf env y.1;pure (ForInStep.yield ((y.1,a)::r))) else pure (ForInStep.yield r):Sem (ForInStep (List (Str×Addr)))))=pure cl/\
   (∀x c,cl.lookup x=some c->env.cells.lookup x=some c)/\(∀x c,cs.lookup x=some c->∃c',cl.lookup x=some c')/\(∀y∈names,y.2= .free->∃c,cl.lookup y.1=some c)
 |[],cs,_,hc=>⟨cs,rfl,hc,fun x c h=>⟨c,h⟩,fun y hy=>absurd hy (List.not_mem_nil)⟩
 | (n,k)::r,cs,hn,hc=>by
  have hr:∀y∈r,y.2= .free->∃c,env.cells.lookup y.1=some c:=fun y hy=>hn y (List.mem_cons_of_mem _ hy)
  by_cases hk:k= .free
  ·subst hk
   obtain⟨c,e⟩:=hn (n,.free) List.mem_cons_self rfl
   have hc':∀x c',((n,c)::cs).lookup x=some c'->env.cells.lookup x=some c':=fun x c' h=>by
    rw [List.lookup_cons] at h
    cases hx:x==n with
    |true=>
     rw [hx] at h
     have e1:x=n:=by simpa using hx
     have e2:c=c':=Option.some.inj h
     rw [e1,<-e2];exact e
    |false=>rw [hx] at h;exact hc x c' h
   obtain⟨cl,h1,h2,h3,h4⟩:=mY (env:=env) r ((n,c)::cs) hr hc'
   refine⟨cl,?_,h2,fun x c' h=> ?_,fun y hy hf=> ?_⟩
   ·rw [List.forIn_cons]
    have e0:cellOf env n=pure c:=by unfold cellOf;rw [e]
    simp only [e0]
    exact h1
   ·cases hx:x==n with
    |true=>
     have e1:x=n:=by simpa using hx
     exact h3 x c (by rw [List.lookup_cons,hx])
    |false=>exact h3 x c' (by rw [List.lookup_cons,hx];exact h)
   ·rcases List.mem_cons.mp hy with e1|hy
    ·rw [e1];exact h3 n c (by rw [List.lookup_cons];simp)
    ·exact h4 y hy hf
  ·obtain⟨cl,h1,h2,h3,h4⟩:=mY (env:=env) r cs hr hc
   refine⟨cl,?_,h2,h3,fun y hy hf=> ?_⟩
   ·rw [List.forIn_cons]
    have e0:(k==NameKind.free)=false:=by simpa using hk
    simp only [e0]
    exact h1
   ·rcases List.mem_cons.mp hy with e1|hy
    ·rw [e1] at hf;exact absurd hf hk
    ·exact h4 y hy hf
theorem wM{env:Env}{scope:Scope}(h:∀y∈scope.names,y.2= .free->∃c,env.cells.lookup y.1=some c):
  ∃cl,closureFor scope env=pure cl/\(∀x c,cl.lookup x=some c->env.cells.lookup x=some c)/\(∀y∈scope.names,y.2= .free->∃c,cl.lookup y.1=some c):=by
 obtain⟨cl,h1,h2,_,h4⟩:=mY (env:=env) scope.names [] h (fun x c e=>by simp at e)
 refine⟨cl,?_,h2,h4⟩
 have e:((forIn scope.names [] fun(y:Str×NameKind) (r:List (Str×Addr))=>
    (if (y.2== .free)=true then(do let a<-cellOf env y.1;pure (ForInStep.yield ((y.1,a)::r))) else pure (ForInStep.yield r):Sem (ForInStep (List (Str×Addr)))))>>=fun s=>pure s)=pure cl:=by rw [h1];rfl
 exact e
structure CScope(sc:Scope)(NX N:List Str)(pick:List (Option Nat))(scope:Scope):Prop where
 kind:scope.kind= .function
 nocell:∀y∈scope.names,y.2≠ .cell
 names:∀y∈scope.names,y.2= .local->scope.names.lookup y.1=some .local
 frees:∀y∈scope.names,y.2= .free->sc.names.lookup y.1=some .cell\/sc.names.lookup y.1=some .free
 pk:∀p∈N.zip pick,∀j∈p.2,NX[j]? =some p.1/\scope.names.lookup p.1=some .free
 nd:N.Nodup
 len:pick.length=N.length
def kZ(pick:List (Option Nat))(σ:St):St:=pick.map fun o=>o.bind fun j=>(σ[j]?).join
def cxB(X:Cx)(N:List Str)(scope:Scope)(cl:List (Str×Addr))(fp:List Addr)(s:Shared)(H:Hp):Cx where
 prog:=X.prog
 w:=X.w
 K:=X.K
 mg:=X.mg
 base:=X.base
 A:=X.A
 N:=N
 s₀:=s
 H₀:=H
 env:=compEnvC scope cl s.heap.objs.size X.env
 outer:=X.stack
 stack:=X.stack
 ex:=fp
 fn:=fun _=>false
 calm:=X.calm
 pn:=[]
 xe:=fun _ _=>False
def PTs(X:Cx)(ifs:List Expr)(t:TT):Prop:=
 ∀(pins:tzB) (s:Shared) (σ:St) (H:Hp) (Q:Bool->Hp->Prop),Inv X pins σ H s->t σ H Q->
  wpAny (model X.prog X.w) X.A (forIn ifs true fun c r=>if r=true then do let ok<-isTrue c X.env (eval c X.env);pure (ForInStep.yield ok) else pure (ForInStep.yield r)) (TP X pins σ Q) X.xe s
def zu6:TT:=fun _ H Q=>Q true H
theorem zl1{X:Cx}:PTs X [] zu6:=fun pins s σ H Q I h=>wpAny_tests_nil ⟨H,I,h⟩
section
variable{prog:Program}{w:World}{A:Around}{R:Result->Shared->Prop}{s:Shared}
theorem yK{elt target iter:Expr}{ifs:List Expr}{scope:Scope}{pos:Pos}{it acc:Value}{env:Env}(I:Nat->Shared->Prop)
  (turn:∀n s,I n s->wpAny (model prog w) A (pyNext it) (fun r s1=>match r with
   |none=>R (.ok .next) s1
   | some v=>wpAny (model prog w) A (letOwnedTupleGo target it v) (fun _ s1=>wpAny (model prog w) A (assign target env v) (fun _ s2=>
     wpAny (model prog w) A (forIn ifs true fun c r=>if r=true then do let ok<-isTrue c env (eval c env);pure (ForInStep.yield ok) else pure (ForInStep.yield r)) (fun ok s3=>
      if ok=true then wpAny (model prog w) A (eval elt env) (fun x s4=>
       wpAny (model prog w) A (call (.builtin "list.append") [acc,x]) (fun _ s5=>∃m,m<n/\I m s5) (fun _ _=>False) s4) (fun _ _=>False) s3
      else ∃m,m<n/\I m s3) (fun _ _=>False) s2) (fun _ _=>False) s1) (fun _ _=>False) s1) (fun _ _=>False) s)
  (n:Nat) (h:I n s):codeAny (model prog w) A (.compLoop (.ListComp elt [⟨target,iter,ifs,0⟩] scope pos) 0 it acc env) R s:=by
 refine codeAny_loop rfl I (fun n s hI=> ?_) n h
 show wpAny _ A ((compTurn (.ListComp elt [⟨target,iter,ifs,0⟩] scope pos) 0 it acc env).onRaise (fun x=>do noteFrame x env;theTreesLotGoes x)) _ _ s
 refine wpAny_noted ?_
 rw [compTurn_list]
 refine wpAny_bind (wpAny_standAt (wpAny_bind (wpAny_mono (turn n s hI) (fun r s1 h1=> ?_) fun _ _ z=>z.elim)))
 cases r with
 |none=>exact wpAny_pure h1
 | some v=>
  refine wpAny_bind (wpAny_mono h1 (fun _ s1 h1=>wpAny_bind (wpAny_mono h1 (fun _ s2 h2=>wpAny_bind (wpAny_mono h2 (fun ok s3 h3=> ?_) fun _ _ z=>z.elim)) fun _ _ z=>z.elim)) fun _ _ z=>z.elim)
  cases ok with
  |false=>exact wpAny_pure ⟨rfl,h3⟩
  |true=>
   exact wpAny_bind (wpAny_bind (wpAny_mono h3 (fun x s4 h4=>wpAny_bind (wpAny_mono h4 (fun _ s5 h5=>wpAny_pure (wpAny_pure ⟨rfl,h5⟩)) fun _ _ z=>z.elim)) fun _ _ z=>z.elim))
end
def zn9(pick:List (Option Nat))(wi:TI)(g:TG)(tt:TT)(te:TE)(σ:St)(H:Hp)(Q:Addr->Hp->Prop):Prop:=wi σ H fun J H1=>∀D,H1 D=none->
 ∃ W:Nat->Nat->St->Hp->Prop,(∃m,W 0 m (kZ pick σ) (upd H1 D (.lst [])))/\∀i m σ' H',W i m σ' H'->
  (J.stop i H'/\Q D H')\/(J.go i H'/\∀x H2,J.yld i H' x H2->g x σ' H2 fun σ3 H3=>tt σ3 H3 fun b H4=>
   if b=true then te σ3 H4 fun y H5=>∃ys,H5 D=some (.lst ys)/\ys.length<sizeLine/\∃m',m'<m/\W (i+1) m' σ3 (upd H5 D (.lst (ys++[y]))) else ∃m',m'<m/\W (i+1) m' σ3 H4)
def zr5(pick:List (Option Nat))(wi:TI)(g:TG)(tt:TT)(te:TE):TE:=fun σ H Q=>zn9 pick wi g tt te σ H fun D H'=>Q (.ref D) H'
section
variable{X:Cx}{sc:Scope}{NX N:List Str}{pick:List (Option Nat)}{elt tg iter:Expr}{ifs:List Expr}{scope:Scope}{pos:Pos}{wi:TI}{g:TG}{tt:TT}{te:TE}
theorem gB{env:Env}:∀{names:List (Str×NameKind)} {x:Str} {k:NameKind},(∀y∈names,y.2≠ .cell)->
  (names.map fun(n,k)=>if (k==NameKind.free&&env.scope.kind== .function&&env.kindOf n==some .cell) then(n,NameKind.cell) else(n,k)).lookup x=some k->(k= .cell\/k= .free)->(x,NameKind.free)∈names
 |[],_,_,_,h,_=>by simp at h
 | (n,k0)::r,x,k,hn,h,hk=>by
  have hr:∀y∈r,y.2≠ .cell:=fun y hy=>hn y (List.mem_cons_of_mem _ hy)
  have h':List.lookup x ((if (k0==NameKind.free&&env.scope.kind== .function&&env.kindOf n==some .cell)=true then(n,NameKind.cell) else(n,k0))::(r.map fun(n,k)=>if (k==NameKind.free&&env.scope.kind== .function&&env.kindOf n==some .cell) then(n,NameKind.cell) else(n,k)))=some k:=h
  by_cases hc:(k0==NameKind.free&&env.scope.kind== .function&&env.kindOf n==some .cell)=true
  ·rw [if_pos hc,List.lookup_cons] at h'
   cases hx:x==n with
   | true=>
    have e1:x=n:=by simpa using hx
    have e2:k0= .free:=by
     simp only [Bool.and_eq_true,beq_iff_eq] at hc
     exact hc.1.1
    rw [e1,e2];exact List.mem_cons_self
   |false=>rw [hx] at h';exact List.mem_cons_of_mem _ (gB hr h' hk)
  ·rw [if_neg hc,List.lookup_cons] at h'
   cases hx:x==n with
   | true=>
    rw [hx] at h'
    have e1:x=n:=by simpa using hx
    have e2:k0=k:=Option.some.inj h'
    have e3:k0= .free:=by
     rcases hk with z|z
     ·exact absurd (e2.trans z) (hn (n,k0) List.mem_cons_self)
     ·exact e2.trans z
    rw [e1,e3];exact List.mem_cons_self
   |false=>rw [hx] at h';exact List.mem_cons_of_mem _ (gB hr h' hk)
theorem lW{env:Env}:∀{names:List (Str×NameKind)} {x:Str},names.lookup x=some .free->
  (names.map fun(n,k)=>if (k==NameKind.free&&env.scope.kind== .function&&env.kindOf n==some .cell) then(n,NameKind.cell) else(n,k)).lookup x=some .cell\/
  (names.map fun(n,k)=>if (k==NameKind.free&&env.scope.kind== .function&&env.kindOf n==some .cell) then(n,NameKind.cell) else(n,k)).lookup x=some .free
 |[],_,h=>by simp at h
 | (n,k0)::r,x,h=>by
  have ih:= @lW env r x
  show List.lookup x ((if (k0==NameKind.free&&env.scope.kind== .function&&env.kindOf n==some .cell)=true then(n,NameKind.cell) else(n,k0))::_)=_\/List.lookup x ((if (k0==NameKind.free&&env.scope.kind== .function&&env.kindOf n==some .cell)=true then(n,NameKind.cell) else(n,k0))::_)=_
  rw [List.lookup_cons] at h
  cases hx:x==n with
  |true=>
   rw [hx] at h
   have e:k0= .free:=Option.some.inj h
   subst e
   by_cases hc:(NameKind.free==NameKind.free&&env.scope.kind== .function&&env.kindOf n==some .cell)=true
   ·rw [if_pos hc];left;rw [List.lookup_cons,hx]
   ·rw [if_neg hc];right;rw [List.lookup_cons,hx]
  | false=>
   rw [hx] at h
   rcases ih h with z|z
   ·left
    by_cases hc:(k0==NameKind.free&&env.scope.kind== .function&&env.kindOf n==some .cell)=true
    ·rw [if_pos hc,List.lookup_cons,hx];exact z
    ·rw [if_neg hc,List.lookup_cons,hx];exact z
   ·right
    by_cases hc:(k0==NameKind.free&&env.scope.kind== .function&&env.kindOf n==some .cell)=true
    ·rw [if_pos hc,List.lookup_cons,hx];exact z
    ·rw [if_neg hc,List.lookup_cons,hx];exact z
theorem yL{pins:tzB}{σ:St}{H:Hp}{s:Shared}{cl:List (Str×Addr)}{fp:List Addr}{h':Heap}{tk:Nat}(S:CScope sc NX N pick scope)(hsc:X.env.scope=sc)(hNX:X.N=NX)
  (I:Inv X pins σ H s) (hf:∀b∈fp,lR X pins H b) (ho:∀b∈fp,∃o,s.heap.get? b=some o)
  (c1:∀x c,cl.lookup x=some c->X.env.cells.lookup x=some c) (c2:∀y∈scope.names,y.2= .free->∃c,cl.lookup y.1=some c)
  (hns:h'.Ns s.heap.objs.size fun _=>none) (hk:∀b o,s.heap.get? b=some o->h'.get? b=some o):
  Inv (cxB X N scope cl fp s H) [] (kZ pick σ) H {s with heap:=h',toks:=tk}:=by
 have lt:∀b∈fp,b<s.heap.objs.size:=fun b hb=>by obtain⟨o,e⟩:=ho b hb;exact Heap.lt_size e
 refine⟨⟨I.ok.mod,S.kind,I.ok.glob,I.ok.blt,Nat.le_refl _,fun x y c h1 h2=>I.ok.inj x y c (c1 x c h1) (c1 y c h2),fun x hx=> ?_,fun x c z=>absurd z (by simp [cxB]),I.ok.hd,I.ok.frames,.inl rfl,
  fun b hb=>⟨Nat.ne_of_lt (lt b hb),fun x c e=>(hf b hb).2.2.2.2.1 x c (c1 x c e)⟩,I.bs,Nat.le_trans I.ok.bsz I.sz,fun b o e hb=> ?_,fun b hb z=> ?_,I.stack,I.stkFree⟩,
  rfl,I.bare,Un.kept hk,⟨_,hns,fun i x v h1 h2 h3=> ?_⟩,fun x c e=> ?_,I.hok.fresh (Nat.le_refl _),fun x c e=>I.freeC x c (c1 x c e),fun p hp=>absurd (show p∈([]:tzB) from hp) (by simp),I.hok.kept hk,?_⟩
 ·have hx':(relabel scope X.env).names.lookup x=some .cell\/(relabel scope X.env).names.lookup x=some .free:=hx
  have hm:(x,NameKind.free)∈scope.names:=by
   rcases hx' with z|z
   ·exact gB S.nocell z (.inl rfl)
   ·exact gB S.nocell z (.inr rfl)
  exact c2 _ hm rfl
 ·rcases(hf b hb).2.2.2.1 with z|z
  ·exact I.ok.noex b o e z
  ·exact absurd (Nat.lt_of_lt_of_le (Heap.lt_size e) (Nat.le_trans I.ok.bsz z)) (Nat.lt_irrefl _)
 ·rcases List.mem_cons.mp (I.stkSub b z) with z|z
  ·exact(hf b hb).2.1 z
  ·exact(hf b hb).2.2.1 z
 ·
  have hN':N[i]? =some x:=h1
  have h2':(kZ pick σ)[i]? =some (some v):=h2
  unfold kZ at h2'
  rw [List.getElem?_map] at h2'
  cases ep:pick[i]? with
  |none=>rw [ep] at h2';cases h2'
  | some o=>
   rw [ep] at h2'
   cases o with
   |none=>cases h2'
   | some j=>
    have h4:(σ[j]?).join=some v:=Option.some.inj h2'
    have h5:σ[j]? =some (some v):=by
     cases e:σ[j]? with
     |none=>rw [e] at h4;cases h4
     |some q=>rw [e] at h4;exact congrArg some h4
    have hz:(x,some j)∈N.zip pick:=by
     refine List.mem_of_getElem? (i:=i) ?_
     rw [List.getElem?_zip_eq_some];exact⟨hN',ep⟩
    obtain⟨h6,h7⟩:=S.pk _ hz j rfl
    have hfr:(x,NameKind.free)∈scope.names:=PySem.mem_of_lookup h7
    have hcf:=S.frees _ hfr rfl
    have hcf':X.env.kindOf x=some .cell\/X.env.kindOf x=some .free:=by
     show X.env.scope.names.lookup x=_\/X.env.scope.names.lookup x=_
     rw [hsc];exact hcf
    obtain⟨m,hn,hl⟩:=I.loc
    obtain⟨u,ru,lk⟩:=hl j x v (by rw [hNX];exact h6) h5 (.inr hcf')
    refine⟨u,ru,.inr ⟨lW h7,?_⟩⟩
    obtain⟨c,ec⟩:=c2 _ hfr rfl
    refine⟨c,ec,?_⟩
    rcases lk with ⟨k1,_⟩|⟨_,c',ec',hcell⟩
    ·rcases hcf' with z|z
     ·rw [k1] at z;cases z
     ·rw [k1] at z;cases z
    ·have e':=c1 x c ec
     rw [ec'] at e'
     cases e'
     obtain⟨o,e1,e2⟩:=hcell
     exact⟨o,hk _ _ e1,e2⟩
 ·obtain⟨v,o,e1,e2⟩:=I.cell x c (c1 x c e)
  exact⟨v,o,hk _ _ e1,e2⟩
 ·show(kZ pick σ).length=N.length
  unfold kZ
  rw [List.length_map];exact S.len
theorem wN{pins:tzB}{σ σ':St}{H H':Hp}{s s':Shared}{cl:List (Str×Addr)}{fp:List Addr}(I:Inv X pins σ H s)(hf:∀b∈fp,lR X pins H b)
  (J:Inv (cxB X N scope cl fp s H) [] σ' H' s'):Inv X pins σ H' s':=
 I.call' (ch:=fp) J.os J.base J.hok J.bare fun b hb=>⟨(hf b hb).2.2.2.1,(hf b hb).2.1,(hf b hb).2.2.2.2.1,(hf b hb).2.2.2.2.2⟩
theorem wO{pins:tzB}{σ:St}{H2:Hp}{s2:Shared}{cl:List (Str×Addr)}{J:It}{fp:List Addr}{it:Addr}{tn:Nat->Heap->Prop}{RR:Value->Addr->Result->Shared->Prop}{E:Value->Shared->Prop}{Q:Addr->Hp->Prop}
  (S:CScope sc NX N pick scope) (hsc:X.env.scope=sc) (hNX:X.N=NX) (hc:X.calm=true)
  (hg:∀cl fp s H,PG (cxB X N scope cl fp s H) tg g) (ht:∀cl fp s H,PTs (cxB X N scope cl fp s H) ifs tt) (he:∀cl fp s H,PE (cxB X N scope cl fp s H) elt te)
  (I2:Inv X pins σ H2 s2) (T:Turn X.prog X.w X.K tg J fp it tn) (st2:tn 0 s2.heap) (f2:∀b∈fp,lR X pins H2 b)
  (c1:∀x c,cl.lookup x=some c->X.env.cells.lookup x=some c) (c2:∀y∈scope.names,y.2= .free->∃c,cl.lookup y.1=some c)
  (q:∀D,H2 D=none->∃W:Nat->Nat->St->Hp->Prop,(∃m,W 0 m (kZ pick σ) (upd H2 D (.lst [])))/\∀i m σ' H',W i m σ' H'->
   (J.stop i H'/\Q D H')\/(J.go i H'/\∀x H2,J.yld i H' x H2->g x σ' H2 fun σ3 H3=>tt σ3 H3 fun b H4=>
    if b=true then te σ3 H4 fun y H5=>∃ys,H5 D=some (.lst ys)/\ys.length<sizeLine/\∃m',m'<m/\W (i+1) m' σ3 (upd H5 D (.lst (ys++[y]))) else ∃m',m'<m/\W (i+1) m' σ3 H4))
  (fin:∀D C H' s',Inv X pins σ H' s'->H' C=none->X.s₀.heap.objs.size<=C->C≠X.env.locals->(∀x c,X.env.cells.lookup x=some c->c≠C)->(∀p∈X.pn++pins,p.1≠C)->(∃m,s'.heap.Ns C m)->Q D H'->RR (.ref D) C (.ok .next) s'):
  wpAny (model X.prog X.w) X.A (newList []) (fun acc s3=>wpAny (model X.prog X.w) X.A (newFunctionEnv scope X.env.globals cl [] X.env.qual none .none (some X.env)) (fun cenv s4=>
   codeAny (model X.prog X.w) X.A (.compStart (.ListComp elt [⟨tg,iter,ifs,0⟩] scope pos) 0 (.ref it) acc {cenv with scope:=relabel scope X.env}) (RR acc cenv.locals) s4) E s3) E s2:=by
 have hD:H2 s2.heap.objs.size=none:=I2.hok.fresh (Nat.le_refl _)
 obtain⟨W,⟨m0,w0⟩,turn⟩:=q _ hD
 refine wpAny_newObj_type (wpAny_newFunctionEnv S.nocell (by intro y hy;simp at hy) (fun h1 hns hsb=> ?_) S.kind)
 have I3:Inv X pins σ (upd H2 s2.heap.objs.size (.lst [])) {s2 with heap:=s2.heap.push {cls:= .type "list",dict:=none,data:= .seq ([]:List Value).toArray}}:=
  I2.lnew (t':=s2.toks) (its:=[]) (ys:=[]) .nil (Nat.zero_le _)
 have ne:∀b∈fp,b≠s2.heap.objs.size:=fun b hb z=>by
  obtain⟨o,e,_⟩:=T.obj _ _ st2 b hb
  exact absurd (Heap.lt_size e) (by rw [z];exact Nat.lt_irrefl _)
 have f3:∀b∈fp,lR X pins (upd H2 s2.heap.objs.size (.lst [])) b:=fun b hb=>⟨by rw [bR (ne b hb)];exact(f2 b hb).1,(f2 b hb).2⟩
 have ho3:∀b∈fp,∀o,s2.heap.get? b=some o->(s2.heap.push {cls:= .type "list",dict:=none,data:= .seq ([]:List Value).toArray}).get? b=some o:=fun b _ o e=>Heap.get?_push_of_some _ e
 have st3:=T.keep _ _ _ st2 ho3
 generalize hH3:s2.heap.push {cls:= .type "list",dict:=none,data:= .seq ([]:List Value).toArray}=H3 at hns hsb I3 ho3 st3|-
 dsimp only at hns hsb|-
 have hk:∀b o,H3.get? b=some o->h1.get? b=some o:=fun b o e=>hsb.extBut b o (Nat.ne_of_lt (Heap.lt_size e)) (Heap.get?_push_of_some _ e)
 have B0:Inv (cxB X N scope cl fp {s2 with heap:=H3} (upd H2 s2.heap.objs.size (.lst []))) [] (kZ pick σ) (upd H2 s2.heap.objs.size (.lst [])) {s2 with heap:=h1,toks:=s2.toks+([]:List (Str×Value)).length}:=
  yL (s:={s2 with heap:=H3}) S hsc hNX I3 f3 (fun b hb=>by obtain⟨o,e,_⟩:=T.obj _ _ st3 b hb;exact⟨o,e⟩) c1 c2 hns hk
 have st4:tn 0 h1:=T.keep _ _ _ st3 fun b _ o e=>hk b o e
 have fpY:∀{H':Hp},(∀b∈fp,H' b=none)->∀b∈fp,lR (cxB X N scope cl fp {s2 with heap:=H3} (upd H2 s2.heap.objs.size (.lst []))) [] H' b:=fun hn b hb=>
  ⟨hn b hb,(B0.ok.exf b hb).1,B0.ok.exfs b hb,.inl hb,(B0.ok.exf b hb).2,fun p hp=>absurd (show p∈([]:tzB) from hp) (by simp)⟩
 have loop:∀s4:Shared,s4={s2 with heap:=h1,toks:=s2.toks+([]:List (Str×Value)).length}->
   codeAny (model X.prog X.w) X.A (.compLoop (.ListComp elt [⟨tg,iter,ifs,0⟩] scope pos) 0 (.ref it) (.ref s2.heap.objs.size) (compEnvC scope cl H3.objs.size X.env)) (RR (.ref s2.heap.objs.size) H3.objs.size) s4:=by
  rintro s4 rfl
  refine yK (fun n s'=>∃i σ' H',Inv (cxB X N scope cl fp {s2 with heap:=H3} (upd H2 s2.heap.objs.size (.lst []))) [] σ' H' s'/\tn i s'.heap/\(∀b∈fp,H' b=none)/\W i n σ' H') ?_ m0
   ⟨0,_,_,B0,st4,fun b hb=>(f3 b hb).1,w0⟩
  rintro n s5 ⟨i,σ5,H5,I5,st5,fr5,w5⟩
  rcases turn i n σ5 H5 w5 with ⟨stop,qn⟩|⟨go,step⟩
  ·refine thn (T.done (cxB X N scope cl fp {s2 with heap:=H3} (upd H2 s2.heap.objs.size (.lst []))) rfl rfl rfl hc i [] s5 σ5 H5 _ I5 (fpY fr5) st5 stop) fun r s6 ⟨hr,I6⟩=> ?_
   subst hr
   obtain⟨m,hm,_⟩:=I6.loc
   have sz:X.s₀.heap.objs.size<=H3.objs.size:=I3.sz
   refine fin _ _ H5 s6 (wN I3 f3 I6) I6.free sz (Nat.ne_of_gt I3.lt) (fun x c e z=> ?_) (fun p hp z=> ?_) ⟨m,hm⟩ qn
   ·obtain⟨v,z2⟩:=I3.cell x c e
    exact absurd z2.lt (by rw [z];exact Nat.lt_irrefl _)
   ·exact absurd (Heap.lt_size (I3.pin p hp).1) (by rw [z];exact Nat.lt_irrefl _)
  ·refine thn (T.item (cxB X N scope cl fp {s2 with heap:=H3} (upd H2 s2.heap.objs.size (.lst []))) rfl rfl rfl hc i [] s5 σ5 H5 _ I5 (fpY fr5) st5 go) fun r s6 ⟨u,hr,h6⟩=> ?_
   subst hr
   refine thn h6 fun _ s7 ⟨x,H7,I7,r7,y7,st7,fr7⟩=> ?_
   have I7':=I7.pinned (fpY fr7) (T.obj _ _ st7)
   have back:∀{σ8:St} {H8:Hp} {s8:Shared},Inv (cxB X N scope cl fp {s2 with heap:=H3} (upd H2 s2.heap.objs.size (.lst []))) ([]++mR fp s7.heap) σ8 H8 s8->
     tn (i+1) s8.heap/\∀b∈fp,H8 b=none:=fun {σ8 H8 s8} I8=>by
    refine⟨T.keep _ _ _ st7 fun b hb o e=>(I8.pin (b,o) (List.mem_append_right _ (List.mem_append_right _ (lD hb e)))).1,fun b hb=> ?_⟩
    obtain⟨o,e,d⟩:=T.obj _ _ st7 b hb
    exact(I8.pin (b,o) (List.mem_append_right _ (List.mem_append_right _ (lD hb e)))).2.1
   refine thn (hg _ _ _ _ _ s7 σ5 H7 x u _ I7' r7 (step x H7 y7)) fun _ s8 ⟨σ8,H8,I8,q8⟩=> ?_
   refine thn (ht _ _ _ _ _ s8 σ8 H8 _ I8 q8) fun ok s9 ⟨H9,I9,q9⟩=> ?_
   cases ok with
   |false=>
    rw [if_neg (by decide)] at q9|-
    obtain⟨m',hm,w9⟩:=q9
    obtain⟨b1,b2⟩:=back I9
    exact⟨m',hm,i+1,σ8,H9,I9.unpinned,b1,b2,w9⟩
   | true=>
    rw [if_pos rfl] at q9|-
    refine thn (he _ _ _ _ _ s9 σ8 H9 _ I9 q9) fun v s10 ⟨y,H10,I10,ry,ys,hys,hlen,m',hm,w10⟩=> ?_
    have ap:=rT (X:=cxB X N scope cl fp {s2 with heap:=H3} (upd H2 s2.heap.objs.size (.lst []))) ([]++mR fp s7.heap) s10 σ8 H10 (.ref s2.heap.objs.size) [y] (.ref s2.heap.objs.size) [v]
     (fun z H'=>z= .non/\H'=upd H10 s2.heap.objs.size (.lst (ys++[y]))) I10 rfl (.cons ry .nil) ⟨_,ys,y,rfl,rfl,hys,hlen,rfl,rfl⟩
    refine thn ap fun z s11 ⟨z',H11,I11,_,_,e11⟩=> ?_
    subst e11
    obtain⟨b1,b2⟩:=back I11
    exact⟨m',hm,i+1,σ8,_,I11.unpinned,b1,b2,w10⟩
 exact codeAny_compStart_list (loop _ rfl) (T.self _ _ _ _ _ st4 (loop _ rfl))
theorem zf9(S:CScope sc NX N pick scope)(hsc:X.env.scope=sc)(hNX:X.N=NX)(hc:X.calm=true)(hi:PI X tg iter wi)
  (hg:∀cl fp s H,PG (cxB X N scope cl fp s H) tg g) (ht:∀cl fp s H,PTs (cxB X N scope cl fp s H) ifs tt) (he:∀cl fp s H,PE (cxB X N scope cl fp s H) elt te)
  (hs:∀x,foldedSetIterable iter X.env x=pure x:=by intro _;rfl):PE X (.ListComp elt [⟨tg,iter,ifs,0⟩] scope pos) (zr5 pick wi g tt te):=by
 intro pins s σ H Q I h
 rw [eval_ListComp]
 have hfr:∀y∈scope.names,y.2= .free->∃c,X.env.cells.lookup y.1=some c:=fun y hy hf=>I.ok.has y.1 (by
  show X.env.scope.names.lookup y.1=_\/X.env.scope.names.lookup y.1=_
  rw [hsc];exact S.frees y hy hf)
 obtain⟨cl,hcl,c1,c2⟩:=wM hfr
 refine wpAny_comprehension_free (use:=none) rfl hs hcl S.kind S.names (thn (hi pins s σ H _ I h) fun v s1 h1=>thn h1 fun itv s2 h2=> ?_)
 obtain⟨it,fp,tn,J,H2,e,I2,T,st2,f2,q⟩:=h2
 subst e
 refine wO (RR:=fun acc C=>compPost (model X.prog X.w) X.A X.xe none (EP X pins σ Q) acc C) (Q:=fun D H'=>Q (.ref D) H') S hsc hNX hc hg ht he I2 T st2 f2 c1 c2 q ?_
 intro D C H' s' I' n1 n2 n3 n4 n5 ⟨m,hm⟩ q'
 exact⟨m,hm,fun h' hb=>⟨.ref D,H',I'.turned (t':=s'.toks) (it:=C) (fun b o hbc e=>(hb.2 b hbc).trans e) n1 n3 (.inr n2) n4 n5,rfl,q'⟩⟩
end
def Its(x:Str):It:=⟨fun i _=>i<x.cps.size,fun i H v H'=>H'=H/\∃c,x.cps[i]? =some c/\v= .str ⟨#[c]⟩,fun i _=>x.cps.size<=i⟩
theorem za4{P:Program}{w:World}{K:tz0}{tg:Expr}(x:Str)(t:Tok)(it:Addr):Turn P w K tg (Its x) [it] it (fun i h=>h.IsStrIter it "str_ascii_iterator" x t i) where
 mem:=by simp
 obj:=fun i h st b hb=>by
  have e:b=it:=by simpa using hb
  subst e
  obtain⟨o,e,c,d⟩:=st
  exact⟨o,e,fun v z=>by rw [d] at z;cases z⟩
 keep:=fun i h h' st k=>by
  obtain⟨o,e,c,d⟩:=st
  exact⟨o,k it (by simp) o e,c,d⟩
 item:=by
  intro X hP hw hK hc i pins s σ H E I hf st hg
  subst hP hw hK
  have hx:x.cps[i]? =some x.cps[i]:=Array.getElem?_eq_getElem hg
  obtain⟨f0,f1,f2,f3,f4,f5⟩:=hf it (by simp)
  refine wpAny_pyNext_ascii_item st hx fun h' st' sb=> ?_
  have I1:Inv X pins σ H {s with heap:=h',toks:=s.toks+1}:=I.turned (t':=s.toks+1) (fun b o hb e=>(sb.2 b hb).trans e) f0 f1 f3 f4 f5
  obtain⟨o,e,c,d⟩:=id st'
  exact⟨_,rfl,sN (s:={s with heap:=h',toks:=s.toks+1}) e c d (by decide) ⟨.str ⟨#[x.cps[i]]⟩,H,I1,⟨_,rfl⟩,⟨rfl,_,hx,rfl⟩,st',fun b hb=>(hf b hb).1⟩⟩
 done:=by
  intro X hP hw hK hc i pins s σ H E I hf st hg
  subst hP hw hK
  obtain⟨f0,f1,f2,f3,f4,f5⟩:=hf it (by simp)
  exact wpAny_pyNext_ascii_end (I.ok.hd hc) st (Array.getElem?_eq_none hg) fun h' eb=>⟨rfl,I.turned (t':=s.toks) (fun b o hb e=>eb b o hb e) f0 f1 f3 f4 f5⟩
 self:=fun _ _ _ _ _ st h=>wpAny_pyIter_striter_ascii st h
def zu7(tl:TE):TI:=fun σ H R=>tl σ H fun x H1=>∃z,x= .str z/\z.cps.all (·<128)=true/\R (Its z) H1
section
variable{X:Cx}{tg:Expr}
theorem zl2{l:Expr}{tl:TE}(hl:PE X l tl):PI X tg l (zu7 tl):=by
 intro pins s σ H R I h
 refine thn (hl pins s σ H _ I h) fun v s1 ⟨x,H1,I1,r1,q1⟩=> ?_
 obtain⟨z,e,ha,q⟩:=q1
 subst e
 obtain⟨t,rfl⟩:=r1
 refine wpAny_pyIter_ascii ha ?_
 refine⟨s1.heap.objs.size,[s1.heap.objs.size],_,_,H1,rfl,I1.kept (t':=s1.toks) fun b o e=>Heap.get?_push_of_some _ e,za4 z t _,⟨_,Heap.get?_push_size _ rfl,rfl,rfl⟩,fun b hb=> ?_,q⟩
 have e:b=s1.heap.objs.size:=by simpa using hb
 subst e
 exact I1.fpOk (Nat.le_refl _) (I1.hok.fresh (Nat.le_refl _))
theorem zg0:MtR X "str.find" (fun x xs H Q=>∃z y,x= .str z/\xs=[.str y]/\Q (.int (Txt.find z y)) H):=by
 intro pins s σ H x xs v us Q I rx r h
 obtain⟨z,y,rfl,rfl,q⟩:=h
 obtain⟨t,rfl⟩:=rx
 obtain⟨u,rfl,t',rfl⟩:=mX r
 exact SC.find ⟨.int _,H,I.tok _,⟨_,rfl⟩,q⟩
end
mutual
inductive Dp(K:tz0)(H:Hp):V->PyData->Prop
 |non:Dp K H .non .none
 |bl (b:Bool):Dp K H (.bl b) (.bool b)
 |int (i:Int):Dp K H (.int i) (.int i)
 |str (x:Str):Dp K H (.str x) (.str x)
 |lst {a:Addr} {xs:List V} {ds:List PyData}:SqL K H a xs->DpAll K H xs ds->Dp K H (.ref a) (.list ds)
 |tup {a:Addr} {xs:List V} {ds:List PyData}:SqT K H a xs->DpAll K H xs ds->Dp K H (.ref a) (.tuple ds)
inductive DpAll(K:tz0)(H:Hp):List V->List PyData->Prop
 |nil:DpAll K H [] []
 |cons {v:V} {vs:List V} {d:PyData} {ds:List PyData}:Dp K H v d->DpAll K H vs ds->DpAll K H (v::vs) (d::ds)
end
section
variable{X:Cx}{pins:tzB}{σ:St}{H:Hp}{s:Shared}
mutual
theorem Dp.reads(I:Inv X pins σ H s):∀{v:V} {d:PyData} {u:Value},Dp X.K H v d->cC v u->∃as,Reads s.heap u d as
 |_,_,u,.non,r=>by cases(show u=Value.none from r);exact⟨_,.none⟩
 |_,_,u,.bl b,r=>by cases(show u=Value.bool b from r);exact⟨_,.bool b⟩
 |_,_,u,.int i,r=>by obtain⟨t,rfl⟩:=r;exact⟨_,.int i t⟩
 |_,_,u,.str x,r=>by obtain⟨t,rfl⟩:=r;exact⟨_,.str x t⟩
 |_,_,u,.lst (a:=a) h hs,r=>by
  cases(show u=Value.ref a from r)
  obtain⟨its,rv,p,hz⟩:=I.list h
  obtain⟨as,ra⟩:=DpAll.reads I hs rv
  obtain⟨o,e,c,n,d⟩:=p.isList
  exact⟨_,.list e c d (by simpa using ra)⟩
 |_,_,u,.tup (a:=a) h hs,r=>by
  cases(show u=Value.ref a from r)
  obtain⟨its,rv,p,hz⟩:=I.tuple h
  obtain⟨as,ra⟩:=DpAll.reads I hs rv
  obtain⟨o,e,c,n,d⟩:=p
  exact⟨_,.tuple e c d (by simpa using ra)⟩
theorem DpAll.reads(I:Inv X pins σ H s):∀{vs:List V} {ds:List PyData} {us:List Value},DpAll X.K H vs ds->bH vs us->∃as,ReadsAll s.heap us ds as
 |_,_,_,.nil,.nil=>⟨_,.nil⟩
 |_,_,_,.cons h hs,.cons r rs=>by
  obtain⟨as,ra⟩:=Dp.reads I h r
  obtain⟨bs,rb⟩:=DpAll.reads I hs rs
  exact⟨_,.cons ra rb⟩
end
end
section
variable{X:Cx}
def zo0(K:tz0)(neg:Bool):R2:=fun x y H Q=>∃d e,Dp K H x d/\Dp K H y e/\d.canLay0=true/\e.canLay0=true/\d.depth<=60/\Q (.bl (if neg then !PyData.eqv d e else PyData.eqv d e)) H
theorem zl3(hu:X.A.units+64<cLine):OpR X (compareOp .Eq) (zo0 X.K false):=by
 intro pins s σ H x y v u Q I rx ry h
 obtain⟨d,e,hx,hy,cx,cy,dz,q⟩:=h
 obtain⟨as,ra⟩:=hx.reads I rx
 obtain⟨bs,rb⟩:=hy.reads I ry
 exact SeqAt.compareEq_reads ra rb cx cy (by have:=Nat.min_le_left d.depth e.depth;omega) ⟨.bl _,H,I,rfl,q⟩
theorem zl4(hu:X.A.units+64<cLine):OpR X (compareOp .NotEq) (zo0 X.K true):=by
 intro pins s σ H x y v u Q I rx ry h
 obtain⟨d,e,hx,hy,cx,cy,dz,q⟩:=h
 obtain⟨as,ra⟩:=hx.reads I rx
 obtain⟨bs,rb⟩:=hy.reads I ry
 exact SeqAt.compareNe_reads ra rb cx cy (by have:=Nat.min_le_left d.depth e.depth;omega) ⟨.bl _,H,I,rfl,q⟩
end
mutual
theorem Dp.same{K:tz0}{H H':Hp}(e:jA H H'):∀{v:V} {d:PyData},Dp K H v d->Dp K H' v d
 |_,_,.non=> .non
 |_,_,.bl b=> .bl b
 |_,_,.int i=> .int i
 |_,_,.str x=> .str x
 |_,_,.lst h hs=> .lst (e.seq h) (DpAll.same e hs)
 |_,_,.tup h hs=> .tup (jA.seqT e h) (DpAll.same e hs)
theorem DpAll.same{K:tz0}{H H':Hp}(e:jA H H'):∀{vs:List V} {ds:List PyData},DpAll K H vs ds->DpAll K H' vs ds
 |_,_,.nil=> .nil
 |_,_,.cons h hs=> .cons (Dp.same e h) (DpAll.same e hs)
end
inductive AreC:List Expr->List V->Prop
 |nil:AreC [] []
 |int {i:Int} {j:Nat} {pos:Pos} {es:List Expr} {vs:List V}:AreC es vs->AreC (.Constant (.int i) j pos::es) (.int i::vs)
 |str {x:Str} {j:Nat} {pos:Pos} {es:List Expr} {vs:List V}:AreC es vs->AreC (.Constant (.str x) j pos::es) (.str x::vs)
 |bl {b:Bool} {j:Nat} {pos:Pos} {es:List Expr} {vs:List V}:AreC es vs->AreC (.Constant (.bool b) j pos::es) (.bl b::vs)
 |non {j:Nat} {pos:Pos} {es:List Expr} {vs:List V}:AreC es vs->AreC (.Constant .none j pos::es) (.non::vs)
def qO(vs:List V):TA:=fun _ H Q=>Q vs H
theorem yM{X:Cx}{es:List Expr}{vs:List V}(h:AreC es vs):PA X es (qO vs):=by
 induction h with
 |nil=>exact kD
 |int _ ih=>exact fun pos pins s σ H Q I q=>fF (t:=qO _) fU ih rfl pos pins s σ H Q I q
 |str _ ih=>exact fun pos pins s σ H Q I q=>fF (t:=qO _) xM ih rfl pos pins s σ H Q I q
 |bl _ ih=>exact fun pos pins s σ H Q I q=>fF (t:=qO _) zd1 ih rfl pos pins s σ H Q I q
 |non _ ih=>exact fun pos pins s σ H Q I q=>fF (t:=qO _) xL ih rfl pos pins s σ H Q I q
set_option genInjectivity true in
inductive D where
 |non|bl (b:Bool)|int (i:Int)|str (x:Str)|ty (n:String)
 |tup (xs:List D)|con (xs:List D)|lst (o:Bool) (xs:List D)|dic (o:Bool) (ks:List Key) (vs:List D)|obj (o:Bool) (C:Str) (ns:List Str) (vs:List D)
mutual
def D.imm:D->Bool
 | .tup xs=>D.imms xs
 | .con xs=>D.imms xs
 | .lst o xs=> !o&&D.imms xs
 | .dic o _ vs=> !o&&D.imms vs
 | .obj o _ _ vs=> !o&&D.imms vs
 |_=>true
def D.imms:List D->Bool
 |[]=>true
 |d::ds=>d.imm&&D.imms ds
end
def kd:HO->Bool
 | .lst _=>true
 | .tup _=>true
 | .dK _=>true
 | .ins _ _ _=>true
 | .frz _ _=>true
 |_=>false
def tf:HO->Bool
 | .tup _=>true
 | .frz _ _=>true
 |_=>false
theorem kL{o:HO}(h:tf o=true):kd o=true:=by cases o<;>first|rfl|cases h
def SqF(K:tz0)(H:Hp)(a:Addr)(xs:List V):Prop:=(∃o,H a=some (.frz o (.lst xs)))\/
 ∃(o:Obj) (its:Array Value) (n:Nat),K.lookup a=some o/\o.cls= .type "list"/\o.dict=none/\o.data= .seq its n/\its.size<=sizeLine/\bH xs its.toList
mutual
inductive Rep(K:tz0)(κ:tz9)(H:Hp):V->D->List Addr->Prop
 |non:Rep K κ H .non .non []
 |bl (b:Bool):Rep K κ H (.bl b) (.bl b) []
 |int (i:Int):Rep K κ H (.int i) (.int i) []
 |str (x:Str):Rep K κ H (.str x) (.str x) []
 |ty (n:String):Rep K κ H (.ty n) (.ty n) []
 |tup {a:Addr} {vs:List V} {ds:List D}:SqT K H a vs->Reps K κ H vs ds []->Rep K κ H (.ref a) (.tup ds) []
 |con {a:Addr} {vs:List V} {ds:List D}:SqF K H a vs->Reps K κ H vs ds []->Rep K κ H (.ref a) (.con ds) []
 |lst {a:Addr} {vs:List V} {ds:List D} {fp:List Addr}:H a=some (.lst vs)->Reps K κ H vs ds fp->Rep K κ H (.ref a) (.lst true ds) (a::fp)
 |lstF {a:Addr} {o:Obj} {vs:List V} {ds:List D}:H a=some (.frz o (.lst vs))->Reps K κ H vs ds []->Rep K κ H (.ref a) (.lst false ds) []
 |dic {a:Addr} {kvs:List (Key×V)} {ks:List Key} {ds:List D} {fp:List Addr}:H a=some (.dK kvs)->kvs.map (·.1)=ks->Reps K κ H (kvs.map (·.2)) ds fp->Rep K κ H (.ref a) (.dic true ks ds) (a::fp)
 |dicF {a:Addr} {o:Obj} {kvs:List (Key×V)} {ks:List Key} {ds:List D}:H a=some (.frz o (.dK kvs))->kvs.map (·.1)=ks->Reps K κ H (kvs.map (·.2)) ds []->Rep K κ H (.ref a) (.dic false ks ds) []
 |obj {a dx:Addr} {C:Str} {fs:List (Str×V)} {ns:List Str} {ds:List D} {fp:List Addr}:H a=some (.ins (κ C) dx fs)->fs.map (·.1)=ns->Reps K κ H (fs.map (·.2)) ds fp->Rep K κ H (.ref a) (.obj true C ns ds) (a::fp)
 |objF {a dx:Addr} {o:Obj} {C:Str} {fs:List (Str×V)} {ns:List Str} {ds:List D}:H a=some (.frz o (.ins (κ C) dx fs))->fs.map (·.1)=ns->Reps K κ H (fs.map (·.2)) ds []->Rep K κ H (.ref a) (.obj false C ns ds) []
inductive Reps(K:tz0)(κ:tz9)(H:Hp):List V->List D->List Addr->Prop
 |nil:Reps K κ H [] [] []
 |cons {v:V} {vs:List V} {d:D} {ds:List D} {f g:List Addr}:Rep K κ H v d f->Reps K κ H vs ds g->Reps K κ H (v::vs) (d::ds) (f++g)
end
section
variable{K:tz0}{κ:tz9}{H H':Hp}
theorem SqT.tf(t:∀a o,H a=some o->tf o=true->H' a=some o){a:Addr}{xs:List V}(h:SqT K H a xs):SqT K H' a xs:=by
 rcases h with (h|⟨o,h⟩)|h
 ·exact .inl (.inl (t _ _ h rfl))
 ·exact .inl (.inr ⟨o,t _ _ h rfl⟩)
 ·exact .inr h
theorem SqF.tf(t:∀a o,H a=some o->tf o=true->H' a=some o){a:Addr}{xs:List V}(h:SqF K H a xs):SqF K H' a xs:=h.elim (fun⟨o,h⟩=> .inl ⟨o,t _ _ h rfl⟩) .inr
theorem SqF.l{a:Addr}{xs:List V}(h:SqF K H a xs):SqL K H a xs:=h.elim (fun⟨o,h⟩=> .inl (.inr ⟨o,h⟩)) .inr
theorem fM{P:Addr->Prop}:∀a∈([]:List Addr),P a:=fun _ h=>nomatch h
theorem Reps.move(t:∀a o,H a=some o->tf o=true->H' a=some o){vs:List V}{ds:List D}{fp:List Addr}(h:Reps K κ H vs ds fp):(∀a∈fp,H' a=H a)->Reps K κ H' vs ds fp:=
 Reps.rec (motive_1:=fun v d fp _=>(∀a∈fp,H' a=H a)->Rep K κ H' v d fp) (motive_2:=fun vs ds fp _=>(∀a∈fp,H' a=H a)->Reps K κ H' vs ds fp)
  (fun _=> .non) (fun b _=> .bl b) (fun b _=> .int b) (fun b _=> .str b) (fun b _=> .ty b) (fun h _ ih _=> .tup (h.tf t) (ih fM)) (fun h _ ih _=> .con (h.tf t) (ih fM))
  (fun h _ ih k=> .lst ((k _ List.mem_cons_self).trans h) (ih fun a ha=>k a (List.mem_cons_of_mem _ ha))) (fun h _ ih _=> .lstF (t _ _ h rfl) (ih fM))
  (fun h e _ ih k=> .dic ((k _ List.mem_cons_self).trans h) e (ih fun a ha=>k a (List.mem_cons_of_mem _ ha))) (fun h e _ ih _=> .dicF (t _ _ h rfl) e (ih fM))
  (fun h e _ ih k=> .obj ((k _ List.mem_cons_self).trans h) e (ih fun a ha=>k a (List.mem_cons_of_mem _ ha))) (fun h e _ ih _=> .objF (t _ _ h rfl) e (ih fM))
  (fun _=> .nil) (fun _ _ i1 i2 k=> .cons (i1 fun a ha=>k a (List.mem_append_left _ ha)) (i2 fun a ha=>k a (List.mem_append_right _ ha))) h
theorem Reps.nil_fp{vs:List V}{fp:List Addr}(h:Reps K κ H vs [] fp):vs=[]/\fp=[]:=by cases h;exact⟨rfl,rfl⟩
theorem Reps.one_inv{vs:List V}{d:D}{fp:List Addr}(r:Reps K κ H vs [d] fp):∃v,vs=[v]/\Rep K κ H v d fp:=by
 cases r with
 |cons h hs=>
  obtain⟨rfl,rfl⟩:=hs.nil_fp
  exact⟨_,rfl,by rw [List.append_nil];exact h⟩
theorem Reps.one{v:V}{d:D}{f:List Addr}(h:Rep K κ H v d f):Reps K κ H [v] [d] f:=by have:=Reps.cons h (Reps.nil (K:=K) (κ:=κ) (H:=H));rwa [List.append_nil] at this
theorem Rep.move(t:∀a o,H a=some o->tf o=true->H' a=some o){v:V}{d:D}{fp:List Addr}(h:Rep K κ H v d fp)(k:∀a∈fp,H' a=H a):Rep K κ H' v d fp:=by
 obtain⟨u,e,r⟩:=((Reps.one h).move t k).one_inv
 cases e;exact r
theorem Reps.own{vs:List V}{ds:List D}{fp:List Addr}(h:Reps K κ H vs ds fp):∀a∈fp,∃o,H a=some o/\kd o=true/\tf o=false:=
 Reps.rec (motive_1:=fun _ _ fp _=>∀a∈fp,∃o,H a=some o/\kd o=true/\tf o=false) (motive_2:=fun _ _ fp _=>∀a∈fp,∃o,H a=some o/\kd o=true/\tf o=false)
  fM (fun _=>fM) (fun _=>fM) (fun _=>fM) (fun _=>fM) (fun _ _ _=>fM) (fun _ _ _=>fM)
  (fun h _ ih a ha=>(List.mem_cons.mp ha).elim (fun e=>e▸⟨_,h,rfl,rfl⟩) (ih a)) (fun _ _ _=>fM)
  (fun h _ _ ih a ha=>(List.mem_cons.mp ha).elim (fun e=>e▸⟨_,h,rfl,rfl⟩) (ih a)) (fun _ _ _ _=>fM)
  (fun h _ _ ih a ha=>(List.mem_cons.mp ha).elim (fun e=>e▸⟨_,h,rfl,rfl⟩) (ih a)) (fun _ _ _ _=>fM)
  fM (fun _ _ i1 i2 a ha=>(List.mem_append.mp ha).elim (i1 a) (i2 a)) h
theorem Rep.own{v:V}{d:D}{fp:List Addr}(h:Rep K κ H v d fp):∀a∈fp,∃o,H a=some o/\kd o=true/\tf o=false:=(Reps.one h).own
theorem Rep.imm{v:V}{d:D}{fp:List Addr}(h:Rep K κ H v d fp)(e:d.imm=true):fp=[]:=by
 cases h<;>first|rfl|exact nomatch e
theorem Reps.imm:∀{vs:List V} {ds:List D} {fp:List Addr},Reps K κ H vs ds fp->D.imms ds=true->fp=[]
 |_,_,_,.nil,_=>rfl
 |_,_,_,.cons h hs,e=>by
  rw [D.imms,Bool.and_eq_true] at e
  rw [h.imm e.1,Reps.imm hs e.2];rfl
theorem Reps.length:∀{vs:List V} {ds:List D} {fp:List Addr},Reps K κ H vs ds fp->vs.length=ds.length
 |_,_,_,.nil=>rfl
 |_,_,_,.cons _ hs=>by rw [List.length_cons,List.length_cons,Reps.length hs]
theorem Reps.get:∀{vs:List V} {ds:List D} {fp:List Addr} {i:Nat} {d:D},Reps K κ H vs ds fp->ds[i]? =some d->∃v f,vs[i]? =some v/\Rep K κ H v d f/\∀a∈f,a∈fp
 |_,_,_,_,_,.nil,e=>by simp at e
 |_,_,_,0,_,.cons h _,e=>by simp at e;subst e;exact⟨_,_,rfl,h,fun a ha=>List.mem_append_left _ ha⟩
 |_,_,_,i+1,_,.cons _ hs,e=>by
  obtain⟨v,f,h1,h2,h3⟩:=Reps.get (i:=i) hs (by simpa using e)
  exact⟨v,f,by simpa using h1,h2,fun a ha=>List.mem_append_right _ (h3 a ha)⟩
theorem Reps.append:∀{vs:List V} {ds:List D} {f:List Addr} {us:List V} {es:List D} {g:List Addr},Reps K κ H vs ds f->Reps K κ H us es g->Reps K κ H (vs++us) (ds++es) (f++g)
 |_,_,_,_,_,_,.nil,r=>r
 |_,_,_,_,_,_,.cons h hs,r=>by rw [List.append_assoc];exact .cons h (Reps.append hs r)
theorem Reps.split:∀{vs:List V} {d:D} {ds:List D} {fp:List Addr},Reps K κ H vs (d::ds) fp->∃v us f g,vs=v::us/\Rep K κ H v d f/\Reps K κ H us ds g/\fp=f++g
 |_,_,_,_,.cons h hs=>⟨_,_,_,_,rfl,h,hs,rfl⟩
theorem Reps.nilp:∀{vs:List V} {ds:List D},Reps K κ H vs ds []->Paired (fun v d=>Rep K κ H v d []) vs ds:=by
 intro vs ds h
 generalize e:([]:List Addr)=fp at h
 induction h using Reps.rec (motive_1:=fun _ _ _ _=>True) with
 |nil=>exact .nil
 |cons h hs _ ih=>
  obtain⟨e1,e2⟩:=List.append_eq_nil_iff.mp e.symm
  subst e1;subst e2
  exact .cons h (ih rfl)
 |_=>trivial
theorem Reps.ofp:∀{vs:List V} {ds:List D},Paired (fun v d=>Rep K κ H v d []) vs ds->Reps K κ H vs ds []
 |_,_,.nil=> .nil
 |_,_,.cons h hs=> .cons (f:=[]) (g:=[]) h (Reps.ofp hs)
end
theorem Paired.app{α β:Type}{R:α->β->Prop}:∀{l₁:List α} {l₂:List β} {m₁:List α} {m₂:List β},Paired R l₁ l₂->Paired R m₁ m₂->Paired R (l₁++m₁) (l₂++m₂)
 |_,_,_,_,.nil,r=>r
 |_,_,_,_,.cons h t,r=> .cons h (Paired.app t r)
theorem Paired.repl{α β:Type}{R:α->β->Prop}{l₁:List α}{l₂:List β}(r:Paired R l₁ l₂):∀k:Nat,Paired R (List.replicate k l₁).flatten (List.replicate k l₂).flatten
 |0=> .nil
 |k+1=>by rw [List.replicate_succ,List.replicate_succ,List.flatten_cons,List.flatten_cons];exact Paired.app r (Paired.repl r k)
structure SameK(H H':Hp):Prop where
 keep:∀a o,H a=some o->kd o=true->H' a=some o
 grow:∀a,H' a=none->H a=none
theorem SameK.refl(H:Hp):SameK H H:=⟨fun _ _ h _=>h,fun _ h=>h⟩
theorem SameK.trans{H H1 H2:Hp}(a:SameK H H1)(b:SameK H1 H2):SameK H H2:=⟨fun c o h k=>b.keep c o (a.keep c o h k) k,fun c h=>a.grow c (b.grow c h)⟩
theorem SameK.of{H H':Hp}(h:jA H H'):SameK H H':=⟨fun a o e _=>h a o e,fun a e=>h.free e⟩
theorem SameK.new{H:Hp}{p:Addr}(h:H p=none)(o:HO):SameK H (upd H p o):= .of (za2 h o)
section
variable{K:tz0}{κ:tz9}{H H':Hp}
theorem Rep.same(e:SameK H H'){v:V}{d:D}{fp:List Addr}(r:Rep K κ H v d fp):Rep K κ H' v d fp:=
 r.move (fun a o h t=>e.keep a o h (kL t)) fun a ha=>by obtain⟨o,h,k,_⟩:=r.own a ha;rw [h];exact e.keep a o h k
theorem Reps.same(e:SameK H H'){v:List V}{d:List D}{fp:List Addr}(r:Reps K κ H v d fp):Reps K κ H' v d fp:=
 r.move (fun a o h t=>e.keep a o h (kL t)) fun a ha=>by obtain⟨o,h,k,_⟩:=r.own a ha;rw [h];exact e.keep a o h k
end
theorem PE.imp{X:Cx}{e:Expr}{t t':TE}(h:PE X e t)(k:∀σ H Q,t' σ H Q->t σ H Q):PE X e t':=fun pins s σ H Q I q=>h pins s σ H Q I (k σ H Q q)
theorem PT.imp{X:Cx}{e:Expr}{t t':TT}(h:PT X e t)(k:∀σ H Q,t' σ H Q->t σ H Q):PT X e t':=fun pins s σ H Q I q=>h pins s σ H Q I (k σ H Q q)
theorem PW.imp{X:Cx}{e:Expr}{t t':TT}(h:PW X e t)(k:∀σ H Q,t' σ H Q->t σ H Q):PW X e t':=fun wh pins s σ H Q I q=>h wh pins s σ H Q I (k σ H Q q)
theorem PA.imp{X:Cx}{e:List Expr}{t t':TA}(h:PA X e t)(k:∀σ H Q,t' σ H Q->t σ H Q):PA X e t':=fun pos pins s σ H Q I q=>h pos pins s σ H Q I (k σ H Q q)
theorem PS.imp{X:Cx}{st:Stmt}{t t':TS}(h:PS X st t)(k:∀D σ H,t' D σ H->t D σ H):PS X st t':=fun pins s σ H D I q=>h pins s σ H D I (k D σ H q)
theorem PSs.imp{X:Cx}{st:List Stmt}{t t':TS}(h:PSs X st t)(k:∀D σ H,t' D σ H->t D σ H):PSs X st t':=fun pins s σ H D I q=>h pins s σ H D I (k D σ H q)
abbrev PSt:=List (Option D)
abbrev _root_.tz7:=List D->Option (D×List D)
abbrev _root_.tz8:=PSt->Option (D×PSt)
abbrev _root_.tz3:=PSt->Option (List D)
abbrev _root_.tz4:=PSt->Option Bool
abbrev _root_.tz6:=List D->Option D
abbrev _root_.tz2:=PSt->Option D
abbrev _root_.tz5:=PSt->Bool
def WS(K:tz0)(κ:tz9)(H:Hp)(σ:St)(ps:PSt):Prop:=∀(i:Nat) (d:D),ps[i]? =some (some d)->∃v fp,σ[i]? =some (some v)/\Rep K κ H v d fp
theorem WS.same{K:tz0}{κ:tz9}{H H':Hp}{σ:St}{ps:PSt}(w:WS K κ H σ ps)(e:SameK H H'):WS K κ H' σ ps:=fun i d h=>by
 obtain⟨v,fp,h1,h2⟩:=w i d h
 exact⟨v,fp,h1,h2.same e⟩
def jM(K:tz0)(κ:tz9)(H:Hp)(d:D)(Q:VK):Prop:=∀v H' fv,SameK H H'->(∀a∈fv,H a=none)->fv.Nodup->Rep K κ H' v d fv->Q v H'
def uW(K:tz0)(κ:tz9)(H:Hp)(d:D)(Q:VK):Prop:=∀v H' fp,SameK H H'->Rep K κ H' v d fp->Q v H'
def tV(K:tz0)(κ:tz9)(f:tz2):TE:=fun σ H Q=>∃ps d,WS K κ H σ ps/\f ps=some d/\uW K κ H d Q
def tP(K:tz0)(κ:tz9)(f:tz2):TE:=fun σ H Q=>∃ps d,WS K κ H σ ps/\f ps=some d/\jM K κ H d Q
def tQ(K:tz0)(κ:tz9)(f:tz4):TT:=fun σ H Q=>∃ps b,WS K κ H σ ps/\f ps=some b/\∀H',SameK H H'->Q b H'
def tVA(K:tz0)(κ:tz9)(f:tz3):TA:=fun σ H Q=>∃ps ds,WS K κ H σ ps/\f ps=some ds/\∀vs H' fp,SameK H H'->Reps K κ H' vs ds fp->Q vs H'
def tPA(K:tz0)(κ:tz9)(f:tz3):TA:=fun σ H Q=>∃ps ds,WS K κ H σ ps/\f ps=some ds/\∀vs H' fv,SameK H H'->(∀a∈fv,H a=none)->fv.Nodup->Reps K κ H' vs ds fv->Q vs H'
abbrev QV(X:Cx)(κ:tz9)(e:Expr)(f:tz2):Prop:=PE X e (tV X.K κ f)
abbrev QP(X:Cx)(κ:tz9)(e:Expr)(f:tz2):Prop:=PE X e (tP X.K κ f)
abbrev QT(X:Cx)(κ:tz9)(e:Expr)(f:tz4):Prop:=PT X e (tQ X.K κ f)
abbrev QW(X:Cx)(κ:tz9)(e:Expr)(f:tz4):Prop:=PW X e (tQ X.K κ f)
abbrev QVA(X:Cx)(κ:tz9)(es:List Expr)(f:tz3):Prop:=PA X es (tVA X.K κ f)
abbrev QPA(X:Cx)(κ:tz9)(es:List Expr)(f:tz3):Prop:=PA X es (tPA X.K κ f)
theorem jM.see{K:tz0}{κ:tz9}{H:Hp}{d:D}{Q:VK}(h:uW K κ H d Q):jM K κ H d Q:=fun v H' fv s _ _ r=>h v H' fv s r
theorem jM.after{K:tz0}{κ:tz9}{H H1:Hp}{d:D}{Q:VK}(h:jM K κ H d Q)(s:SameK H H1):jM K κ H1 d Q:=
 fun v H' fv s' n nd r=>h v H' fv (s.trans s') (fun a ha=>s.grow a (n a ha)) nd r
theorem jM.now{K:tz0}{κ:tz9}{H:Hp}{d:D}{Q:VK}{v:V}(h:jM K κ H d Q)(r:Rep K κ H v d []):Q v H:=h v H [] (.refl H) (fun _ h=>absurd h (by simp)) List.nodup_nil r
theorem jM.at{K:tz0}{κ:tz9}{H:Hp}{d:D}{Q:VK}{p:Addr}{o:HO}{fv:List Addr}(h:jM K κ H d Q)(hp:H p=none)(hn:∀a∈fv,H a=none)(nd:fv.Nodup)(r:Rep K κ (upd H p o) (.ref p) d fv):Q (.ref p) (upd H p o):=
 h _ _ fv (.new hp o) hn nd r
theorem uW.after{K:tz0}{κ:tz9}{H H1:Hp}{d:D}{Q:VK}(h:uW K κ H d Q)(s:SameK H H1):uW K κ H1 d Q:=fun v H' fp s' r=>h v H' fp (s.trans s') r
section
variable{X:Cx}{κ:tz9}{e a b:Expr}{f fa fb:tz2}
theorem QP.v(h:QP X κ e f):QV X κ e f:=h.imp fun _ _ _ ⟨ps,d,w,e,q⟩=>⟨ps,d,w,e,.see q⟩
def bY(f:tz2):tz2:=fun ps=>(f ps).bind fun d=>if d.imm=true then some d else none
theorem QV.p(h:QV X κ e f):QP X κ e (bY f):=h.imp fun σ H Q hh_=>by
 obtain⟨ps,d,w,e,q⟩:=hh_
 unfold bY at e
 cases e1:f ps with
 |none=>rw [e1] at e;cases e
 | some d1=>
  rw [e1] at e
  by_cases hi:d1.imm=true
  ·have e2:d1=d:=by simpa [hi] using e
   subst e2
   refine⟨ps,d1,w,e1,fun v H' fp s r=> ?_⟩
   have:=r.imm hi;subst this
   exact q v H' [] s (fun _ h=>absurd h (by simp)) List.nodup_nil r
  ·simp [hi] at e
def aD(i:Nat):tz2:=fun ps=>(ps[i]?).join
theorem aE(i:Nat){x:Str}{pos:Pos}(hN:X.N[i]? =some x:=by rfl)(hv:Vis X.env.scope x:=by first|exact Or.inl rfl|exact Or.inr (Or.inl rfl)|exact Or.inr (Or.inr rfl))(hd:(x==("__debug__":Str))=false:=by decide)
  (hcd:(x==("__classdict__":Str))=false:=by decide):QV X κ (.Name x pos) (aD i):=(lK hN hv hd hcd).imp fun σ H Q hh_=>by
 obtain⟨ps,d,w,e,q⟩:=hh_
 have e':ps[i]? =some (some d):=by
  unfold aD at e
  cases q:ps[i]? with
  |none=>rw [q] at e;cases e
  |some o=>rw [q] at e;exact congrArg some e
 obtain⟨v,fp,h1,h2⟩:=w i d e'
 exact⟨v,h1,q v H fp (.refl H) h2⟩
def fC(d:D):tz2:=fun _=>some d
theorem aJ{i j pos}:QP X κ (.Constant (.int i) j pos) (fC (.int i)):=fU.imp fun σ H Q ⟨ps,d,w,e,q⟩=>by cases e;exact q _ H [] (.refl H) (fun _ h=>absurd h (by simp)) List.nodup_nil (.int i)
theorem aO{x j pos}:QP X κ (.Constant (.str x) j pos) (fC (.str x)):=xM.imp fun σ H Q ⟨ps,d,w,e,q⟩=>by cases e;exact q _ H [] (.refl H) (fun _ h=>absurd h (by simp)) List.nodup_nil (.str x)
theorem iP{b j pos}:QP X κ (.Constant (.bool b) j pos) (fC (.bl b)):=zd1.imp fun σ H Q ⟨ps,d,w,e,q⟩=>by cases e;exact q _ H [] (.refl H) (fun _ h=>absurd h (by simp)) List.nodup_nil (.bl b)
theorem gY{j pos}:QP X κ (.Constant .none j pos) (fC .non):=xL.imp fun σ H Q ⟨ps,d,w,e,q⟩=>by cases e;exact q _ H [] (.refl H) (fun _ h=>absurd h (by simp)) List.nodup_nil .non
theorem iL{x:Str}{v:V}{u:Value}{d:D}{pos:Pos}(hg:Gl X x)(hm:X.mg x=some u)(r:cC v u)(hd:∀H,Rep X.K κ H v d [])(hdb:(x==("__debug__":Str))=false:=by decide):QP X κ (.Name x pos) (fC d):=
 (ze8 hg hm r hdb).imp fun σ H Q ⟨ps,d,w,e,q⟩=>by cases e;exact q _ H [] (.refl H) (fun _ h=>absurd h (by simp)) List.nodup_nil (hd H)
theorem gC{x:Str}{n:String}{pos:Pos}(hg:Gl X x)(hm:X.mg x=none)(hv:bootBuiltins x=some (.type n))(hn:x≠"__name__":=by decide)(hd:(x==("__debug__":Str))=false:=by decide):QP X κ (.Name x pos) (fC (.ty n)):=
 (ze9 (v:= .ty n) hg hm hv rfl hn hd).imp fun σ H Q ⟨ps,d,w,e,q⟩=>by cases e;exact q _ H [] (.refl H) (fun _ h=>absurd h (by simp)) List.nodup_nil (.ty n)
def f2(g:D->D->Option D)(fa fb:tz2):tz2:=fun ps=>(fa ps).bind fun x=>(fb ps).bind fun y=>g x y
def POp(K:tz0)(κ:tz9)(g:D->D->Option D):R2:=fun x y H Q=>∃dx dy d fx fy,Rep K κ H x dx fx/\Rep K κ H y dy fy/\g dx dy=some d/\jM K κ H d Q
theorem qY{g:D->D->Option D}{fa fb:tz2}{ps:PSt}{d:D}(h:f2 g fa fb ps=some d):∃x y,fa ps=some x/\fb ps=some y/\g x y=some d:=by
 unfold f2 at h
 cases e1:fa ps with
 |none=>rw [e1] at h;cases h
 |some x=>
  rw [e1] at h
  cases e2:fb ps with
  |none=>rw [e2] at h;cases h
  |some y=>rw [e2] at h;exact⟨x,y,rfl,rfl,h⟩
theorem tK{r:R2}{g:D->D->Option D}{σ:St}{H:Hp}{Q:VK}(hr:∀x y H Q,POp X.K κ g x y H Q->r x y H Q)(h:tP X.K κ (f2 g fa fb) σ H Q):tOp r (tV X.K κ fa) (tV X.K κ fb) σ H Q:=by
 obtain⟨ps,d,w,e,q⟩:=h
 obtain⟨x,y,e1,e2,e3⟩:=qY e
 exact⟨ps,x,w,e1,fun v H1 fp s1 r1=>⟨ps,y,w.same s1,e2,fun u H2 fq s2 r2=>hr _ _ _ _ ⟨x,y,d,fp,fq,r1.same s2,r2,e3,q.after (s1.trans s2)⟩⟩⟩
theorem aY{op:Operator}{g:D->D->Option D}{pos:Pos}(ho:OpR X (binaryOp op) (POp X.K κ g))(ha:QV X κ a fa)(hb:QV X κ b fb):QP X κ (.BinOp a op b pos) (f2 g fa fb):=
 (eT ho ha hb).imp fun _ _ _ h=>tK (fun _ _ _ _ h=>h) h
theorem eE{op:CmpOp}{g:D->D->Option D}{pos:Pos}(ho:OpR X (compareOp op) (POp X.K κ g))(ha:QV X κ a fa)(hb:QV X κ b fb)(hm:behindInMarks op b=false):QP X κ (.Compare a [op] [b] pos) (f2 g fa fb):=
 (zf3 ho ha hb hm).imp fun _ _ _ h=>tK (fun _ _ _ _ h=>h) h
def dB:D->Option Bool
 | .bl b=>some b
 |_=>none
def fB(f:tz2):tz4:=fun ps=>(f ps).bind dB
theorem vQ{f:tz2}{ps:PSt}{b:Bool}(h:fB f ps=some b):f ps=some (.bl b):=by
 unfold fB at h
 cases e:f ps with
 |none=>rw [e] at h;cases h
 |some d=>rw [e] at h;cases d<;>first|(cases h;rfl)|cases h
theorem Rep.is_bl{K:tz0}{H:Hp}{v:V}{b:Bool}{fp:List Addr}(r:Rep K κ H v (.bl b) fp):v= .bl b:=by cases r;rfl
theorem Rep.is_int{K:tz0}{H:Hp}{v:V}{b:Int}{fp:List Addr}(r:Rep K κ H v (.int b) fp):v= .int b:=by cases r;rfl
theorem Rep.is_str{K:tz0}{H:Hp}{v:V}{b:Str}{fp:List Addr}(r:Rep K κ H v (.str b) fp):v= .str b:=by cases r;rfl
theorem bQ{op:CmpOp}{g:D->D->Option D}{pos:Pos}(ho:OpR X (compareOp op) (POp X.K κ g))(ha:QV X κ a fa)(hb:QV X κ b fb)(hm:behindInMarks op b=false):QT X κ (.Compare a [op] [b] pos) (fB (f2 g fa fb)):=
 (vO ho ha hb hm).imp fun σ H Q ⟨ps,c,w,e,q⟩=>tK (Q:=fun x H'=>∃k,x= .bl k/\Q k H') (fun _ _ _ _ h=>h) ⟨ps,_,w,vQ e,fun v H' fv s _ _ r=>⟨c,r.is_bl,q H' s⟩⟩
def f3(g g':D->D->Option D)(fa fb fc:tz2):tz2:=fun ps=>(fa ps).bind fun x=>(fb ps).bind fun y=>(g x y).bind fun k=>match k with
 | .bl true=>(fc ps).bind fun z=>g' y z
 | .bl false=>some (.bl false)
 |_=>none
def jN:D->Option Bool
 | .non=>some false
 | .bl b=>some b
 | .int i=>some (i !=0)
 | .str y=>if y.length<=sizeLine then some ((y.length:Int) !=0) else none
 | .lst _ xs=>some (!xs.isEmpty)
 | .tup xs=>some (!xs.isEmpty)
 | .con xs=>some (!xs.isEmpty)
 |_=>none
theorem kE{K:tz0}{H:Hp}{vs:List V}{ds:List D}{fp:List Addr}(r:Reps K κ H vs ds fp):ds.isEmpty=vs.isEmpty:=by cases r<;>rfl
theorem zg1{K:tz0}{H:Hp}{v:V}{d:D}{fp:List Addr}{b:Bool}(r:Rep K κ H v d fp)(h:jN d=some b):zc5 K v H b:=by
 cases r with
 |non=>cases h;rfl
 |bl b=>cases h;rfl
 |int i=>cases h;rfl
 |str x=>
  rw [jN] at h
  split at h
  ·cases h;exact⟨by assumption,rfl⟩
  ·cases h
 |tup s rs=>cases h;exact .inr (.inl ⟨_,s,by rw [kE rs]⟩)
 |con s rs=>cases h;exact .inl ⟨_,s.l,by rw [kE rs]⟩
 |lst s rs=>cases h;exact .inl ⟨_,.inl (.inl s),by rw [kE rs]⟩
 |lstF s rs=>cases h;exact .inl ⟨_,.inl (.inr ⟨_,s⟩),by rw [kE rs]⟩
 |_=>cases h
def fT(f:tz2):tz4:=fun ps=>(f ps).bind jN
theorem zg2{f:tz2}{ps:PSt}{b:Bool}(h:fT f ps=some b):∃d,f ps=some d/\jN d=some b:=by
 unfold fT at h
 cases e:f ps with
 |none=>rw [e] at h;cases h
 |some d=>rw [e] at h;exact⟨d,rfl,h⟩
theorem fV(ha:QV X κ a fa)(he:∀whole,isTrue a X.env whole=(do let v<-whole;standAt a.pos;holding [v] (truthy v)):=by intro _;rfl):QT X κ a (fT fa):=
 (zX ha he).imp fun σ H Q hh_=>by
  obtain⟨ps,c,w,e,q⟩:=hh_
  obtain⟨d,e1,e2⟩:=zg2 e
  exact⟨ps,d,w,e1,fun v H' fp s r=>⟨c,zg1 r e2,q H' s⟩⟩
def cA(f g:tz4):tz4:=fun ps=>(f ps).bind fun c=>if c=true then g ps else some false
def eC(f g:tz4):tz4:=fun ps=>(f ps).bind fun c=>if c=true then some true else g ps
def cW(f:tz4):tz4:=fun ps=>(f ps).map (!·)
variable{pos:Pos}{bC:List Expr}{ta tb:tz4}
theorem jJ(ha:QT X κ a ta):QW X κ (.BoolOp .And [a] pos) ta:=zf0 ha
theorem kU(ha:QT X κ a ta):QW X κ (.BoolOp .Or [a] pos) ta:=zi9 ha
theorem gZ(ha:QT X κ a ta)(hb:QW X κ (.BoolOp .And (b::bC) pos) tb):QW X κ (.BoolOp .And (a::b::bC) pos) (cA ta tb):=
 (zj0 ha hb).imp fun σ H Q hh_=>by
  obtain⟨ps,c,w,e,q⟩:=hh_
  unfold cA at e
  cases e1:ta ps with
  |none=>rw [e1] at e;cases e
  | some k=>
   rw [e1] at e
   refine⟨ps,k,w,e1,fun H1 s1=> ?_⟩
   cases k with
   |true=>rw [if_pos rfl];exact⟨ps,c,w.same s1,by simpa using e,fun H2 s2=>q H2 (s1.trans s2)⟩
   |false=>
    rw [if_neg Bool.false_ne_true]
    have:c=false:=by simpa using e.symm
    subst this;exact q H1 s1
theorem lE(ha:QT X κ a ta)(hb:QW X κ (.BoolOp .Or (b::bC) pos) tb):QW X κ (.BoolOp .Or (a::b::bC) pos) (eC ta tb):=
 (zo7 ha hb).imp fun σ H Q hh_=>by
  obtain⟨ps,c,w,e,q⟩:=hh_
  unfold eC at e
  cases e1:ta ps with
  |none=>rw [e1] at e;cases e
  | some k=>
   rw [e1] at e
   refine⟨ps,k,w,e1,fun H1 s1=> ?_⟩
   cases k with
   |true=>
    rw [if_pos rfl]
    have:c=true:=by simpa using e.symm
    subst this;exact q H1 s1
   |false=>rw [if_neg Bool.false_ne_true];exact⟨ps,c,w.same s1,by simpa using e,fun H2 s2=>q H2 (s1.trans s2)⟩
theorem jW(h:QW X κ a ta):QT X κ a ta:=PW.pt h
theorem jO(ha:QT X κ a ta):QT X κ (.UnaryOp .Not a pos) (cW ta):=
 (zj1 ha).imp fun σ H Q hh_=>by
  obtain⟨ps,c,w,e,q⟩:=hh_
  unfold cW at e
  cases e1:ta ps with
  |none=>rw [e1] at e;cases e
  |some k=>
   rw [e1] at e
   have:c= !k:=by simpa using e.symm
   subst this
   exact⟨ps,k,w,e1,fun H1 s1=>q H1 s1⟩
def dQ(f g:tz2):tz2:=fun ps=>(f ps).bind fun c=>match c with
 | .bl true=>g ps
 | .bl false=>some (.bl false)
 |_=>none
theorem wP{d:D}{α:Type}{x y:Option α}{z:α}(h:(match d with| .bl true=>x| .bl false=>y|_=>none)=some z):∃b,d= .bl b/\(if b=true then x else y)=some z:=by
 cases d with
 |bl b=>cases b<;>exact⟨_,rfl,h⟩
 |_=>cases h
theorem hC{op}(h:QP X κ a fa):QP X κ (.BoolOp op [a] pos) fa:=zj2 h
theorem eY(ha:QP X κ a fa)(hb:QP X κ (.BoolOp .And (b::bC) pos) fb):QP X κ (.BoolOp .And (a::b::bC) pos) (dQ fa fb):=
 (zj3 ha hb).imp fun σ H Q hh_=>by
  obtain⟨ps,d,w,e,q⟩:=hh_
  unfold dQ at e
  cases e1:fa ps with
  |none=>rw [e1] at e;cases e
  | some k=>
   rw [e1] at e
   obtain⟨c,rfl,e2⟩:=wP (x:=fb ps) (y:=some (.bl false)) e
   refine⟨ps,_,w,e1,fun v H1 fv s1 _ _ r1=>⟨c,r1.is_bl,?_⟩⟩
   cases c with
   |true=>rw [if_pos rfl] at e2|-;exact⟨ps,d,w.same s1,e2,q.after s1⟩
   |false=>
    rw [if_neg Bool.false_ne_true] at e2|-
    cases e2;exact(q.after s1).now (.bl false)
def rK(f:tz2):tz2:=fun ps=>(f ps).bind fun c=>match c with
 | .bl true=>some (.bl false)
 | .bl false=>some (.bl true)
 |_=>none
theorem tL(ha:QP X κ a fa):QP X κ (.UnaryOp .Not a pos) (rK fa):=
 (zj4 ha).imp fun σ H Q hh_=>by
  obtain⟨ps,d,w,e,q⟩:=hh_
  unfold rK at e
  cases e1:fa ps with
  |none=>rw [e1] at e;cases e
  |some k=>
   rw [e1] at e
   obtain⟨c,rfl,e2⟩:=wP (x:=some (D.bl false)) (y:=some (D.bl true)) e
   refine⟨ps,_,w,e1,fun v H1 fv s1 _ _ r1=>⟨c,r1.is_bl,?_⟩⟩
   cases c with
   |true=>rw [if_pos rfl] at e2;cases e2;exact(q.after s1).now (.bl false)
   |false=>rw [if_neg Bool.false_ne_true] at e2;cases e2;exact(q.after s1).now (.bl true)
def eZ(f:tz2):tz2:=fun ps=>(f ps).bind fun c=>match c with
 | .int i=>some (.int (-i))
 |_=>none
theorem lO(ha:QV X κ a fa):QP X κ (.UnaryOp .USub a pos) (eZ fa):=
 (zo8 zj9 ha).imp fun σ H Q hh_=>by
  obtain⟨ps,d,w,e,q⟩:=hh_
  unfold eZ at e
  cases e1:fa ps with
  |none=>rw [e1] at e;cases e
  |some k=>
   rw [e1] at e
   cases k with
   |int i=>cases e;exact⟨ps,_,w,e1,fun v H1 fp s1 r1=>⟨i,r1.is_int,(q.after s1).now (.int _)⟩⟩
   |_=>cases e
end
section
variable{X:Cx}{κ:tz9}
theorem Inv.lstR{pins:tzB}{σ:St}{H:Hp}{s:Shared}{l:Addr}{xs:List V}(I:Inv X pins σ H s)(h:Rd H l (.lst xs)):
  xs.length<=sizeLine/\∃(its:List Value) (n:Nat),bH xs its/\xs.length=its.length/\s.heap.get? l=some {cls:= .type "list",data:= .seq its.toArray n}:=by
 obtain⟨z,its,n,r,e⟩:=h.ok I.hok
 exact⟨z,its,n,r,r.length,e⟩
theorem zg3:OpR X (binaryOp .Add) (fun x y H Q=>∃l b xs zs,x= .ref l/\y= .ref b/\Rd H l (.lst xs)/\Rd H b (.lst zs)/\xs.length+zs.length<=sizeLine/\∀p,H p=none->Q (.ref p) (upd H p (.lst (xs++zs)))):=by
 intro pins s σ H x y v u Q I rx ry h
 obtain⟨l,b,xs,zs,rfl,rfl,hH,hB,hz,q⟩:=h
 cases rx
 cases ry
 obtain⟨z,its,n,r,hl,e⟩:=I.lstR hH
 obtain⟨z2,its2,n2,r2,hl2,e2⟩:=I.lstR hB
 refine PySem.P.add_list e e2 ?_ (by rw [List.size_toArray,List.size_toArray];omega)
 have ea:its.toArray++its2.toArray=(its++its2).toArray:=by simp
 rw [ea]
 exact⟨.ref _,_,I.lnew (t':=s.toks) (r.append r2) (by rw [List.length_append];omega),rfl,q _ I.fresh⟩
theorem zg4:OpR X (binaryOp .Mult) (fun x y H Q=>∃l k xs,x= .ref l/\y= .int k/\Rd H l (.lst xs)/\ -(2^63)<=k/\k<2^63/\xs.length*k.toNat<=sizeLine/\
  ∀p,H p=none->Q (.ref p) (upd H p (.lst (List.replicate k.toNat xs).flatten))):=by
 intro pins s σ H x y v u Q I rx ry h
 obtain⟨l,k,xs,rfl,rfl,hH,h1,h2,hz,q⟩:=h
 cases rx
 obtain⟨t,rfl⟩:=ry
 obtain⟨z,its,n,r,hl,e⟩:=I.lstR hH
 have hlen:its.toArray.size*k.toNat<=sizeLine:=by rw [List.size_toArray,<-hl];exact hz
 have hcap:¬its.toArray.size*k.toNat>(2^63-1)/8:=by
  have:(sizeLine:Nat)<=(2^63-1)/8:=by decide
  omega
 have hfit:¬(!Builtin.List.listFitsIndex k)=true:=by
  rw [fitsIndex_both h1 h2]
  exact Bool.false_ne_true
 have hlong:¬Builtin.List.listTooLong (its.toArray.size*k.toNat)=true:=by
  rw [tG hlen]
  exact Bool.false_ne_true
 have hnew:List.foldl (fun x1 x2=>x1++x2) #[] (List.replicate (if its.toArray.isEmpty=true then 0 else k.toNat) its.toArray)=(List.replicate k.toNat its).flatten.toArray:=by
  have f0:∀m:Nat,List.foldl (fun x1 x2=>x1++x2) #[] (List.replicate m its.toArray)=(List.replicate m its).flatten.toArray:=fun m=>by
   have:=rS its m []
   rw [List.nil_append] at this
   exact this
  rw [f0]
  cases its with
  |nil=>simp
  |cons a r'=>rw [if_neg (by simp)]
 refine wpAny_binaryOp_repeat_ref (T:="list") (U:="int") (by decide) ⟨_,e,rfl⟩ (fun s'=>typeIs_int s' k t) noFill_list_mul F.fills_int_mul F.slot_int_rmul repeat_list F.slot_int_index.lookup
  (call_meets F.slot_int_rmul (typeIs_int s k t) F.entry_int_rmul (F.args_int_rmul_2 _ _) (int___rmul___int_list k t l its.toArray n)
   ⟨e,rfl,⟨_,e,rfl⟩,call_meets F.slot_list_mul ⟨_,e,rfl⟩ F.entry_list_mul (F.args_list_mul_2 _ _) (AutoListH.list___mul___list_int_3 l its.toArray n k t hfit hcap hlong) ⟨e,?_⟩⟩)
 rw [hnew]
 exact⟨.ref _,_,I.lnew (t':=s.toks) (r.rep k.toNat) (by rw [zf7,Nat.mul_comm];exact hz),rfl,q _ I.fresh⟩
theorem za5:OpR X (binaryOp .Add) (fun x y H Q=>∃a b ys,x= .ref a/\y= .ref b/\SqT X.K H a []/\SqT X.K H b ys/\Q (.ref b) H):=by
 intro pins s σ H x y v u Q I rx ry h
 obtain⟨a,b,ys,rfl,rfl,ha,hb,q⟩:=h
 cases rx
 cases ry
 obtain⟨its,r1,p1,_⟩:=I.tuple ha
 obtain⟨its2,r2,p2,_⟩:=I.tuple hb
 cases r1
 obtain⟨⟨cls,dd,data,sl⟩,ho,hc,n,hd⟩:=id p1
 obtain⟨⟨cls2,dd2,data2,sl2⟩,ho2,hc2,n2,hd2⟩:=id p2
 simp only at hc hd hc2 hd2
 subst hc hd hc2 hd2
 exact concat_meets ⟨_,ho,rfl⟩ ⟨_,ho2,rfl⟩ noFill_tuple_add seq_tuple_add PySem.F.slot_tuple_add PySem.F.entry_tuple_add (PySem.F.args_tuple_add_2 _ _)
   (tuple_addW0 a b _ _ n n2 dd dd2 sl sl2 rfl) ⟨ho,ho2,⟨.ref b,H,I,rfl,q⟩⟩
theorem Rep.lst_inv{K:tz0}{H:Hp}{v:V}{o:Bool}{ds:List D}{fp:List Addr}(r:Rep K κ H v (.lst o ds) fp):∃a vs g,v= .ref a/\Rd H a (.lst vs)/\Reps K κ H vs ds g/\g.Sublist fp:=by
 cases r with
 |lst h hs=>exact⟨_,_,_,rfl,.inl h,hs,List.sublist_cons_self _ _⟩
 |lstF h hs=>exact⟨_,_,_,rfl,.inr ⟨_,h⟩,hs,.refl _⟩
theorem Rep.lstT_inv{K:tz0}{H:Hp}{v:V}{ds:List D}{fp:List Addr}(r:Rep K κ H v (.lst true ds) fp):∃a vs g,v= .ref a/\H a=some (.lst vs)/\Reps K κ H vs ds g/\fp=a::g:=by
 cases r with
 |lst h hs=>exact⟨_,_,_,rfl,h,hs,rfl⟩
theorem Rep.objT_inv{K:tz0}{H:Hp}{v:V}{C:Str}{ns:List Str}{ds:List D}{fp:List Addr}(r:Rep K κ H v (.obj true C ns ds) fp):∃a dx fs g,v= .ref a/\H a=some (.ins (κ C) dx fs)/\fs.map (·.1)=ns/\Reps K κ H (fs.map (·.2)) ds g/\fp=a::g:=by
 cases r with
 |obj h e hs=>exact⟨_,_,_,_,rfl,h,e,hs,rfl⟩
theorem Rep.tup_inv{K:tz0}{H:Hp}{v:V}{ds:List D}{fp:List Addr}(r:Rep K κ H v (.tup ds) fp):∃a vs,v= .ref a/\SqT K H a vs/\Reps K κ H vs ds []:=by
 cases r with
 |tup h hs=>exact⟨_,_,rfl,h,hs⟩
theorem Reps.pair{K:tz0}{H:Hp}{vs:List V}{ds:List D}{fp:List Addr}(r:Reps K κ H vs ds fp)(h:D.imms ds=true):Paired (fun v d=>Rep K κ H v d []) vs ds:=by
 have e:=r.imm h
 subst e
 exact r.nilp
theorem Rep.con_inv{K:tz0}{H:Hp}{v:V}{ds:List D}{fp:List Addr}(r:Rep K κ H v (.con ds) fp):∃a vs,v= .ref a/\SqF K H a vs/\Reps K κ H vs ds []:=by
 cases r with
 |con h hs=>exact⟨_,_,rfl,h,hs⟩
theorem pB{K:tz0}{H:Hp}{vs:List V}{ds:List D}{Q:VK}{p:Addr}(hp:H p=none)(r:Paired (fun v d=>Rep K κ H v d []) vs ds)(q:jM K κ H (.lst true ds) Q):Q (.ref p) (upd H p (.lst vs)):=
 q.at hp (fv:=[p]) (fun a ha=>by simp at ha;subst ha;exact hp) (by simp) (.lst dJ ((Reps.ofp r).same (.new hp _)))
theorem qZ{K:tz0}{H:Hp}{vs:List V}{ds:List D}{Q:VK}{p:Addr}(hp:H p=none)(r:Paired (fun v d=>Rep K κ H v d []) vs ds)(q:jM K κ H (.tup ds) Q):Q (.ref p) (upd H p (.tup vs)):=
 q.at hp (fv:=[]) (fun a ha=>by simp at ha) (by simp) (.tup (.inl (.inl dJ)) ((Reps.ofp r).same (.new hp _)))
def bP:D->D->Option D
 | .int i,.int j=>some (.int (i+j))
 | .str x,.str y=>if x.length+y.length<=sizeLine then some (.str (x++y)) else none
 | .lst _ xs,.lst _ ys=>if (D.imms xs&&D.imms ys&&decide (xs.length+ys.length<=sizeLine))=true then some (.lst true (xs++ys)) else none
 | .tup xs,.tup ys=>if xs.length+ys.length<=sizeLine then some (.tup (xs++ys)) else none
 |_,_=>none
theorem bind_some{α β:Type}{o:Option α}{g:α->Option β}{z:β}(h:o.bind g=some z):∃x,o=some x/\g x=some z:=by
 cases o with
 |none=>cases h
 |some x=>exact⟨x,rfl,h⟩
theorem cB{α:Type}{c:Prop}[Decidable c]{x:Option α}{z:α}(h:(if c then x else none)=some z):c/\x=some z:=by
 by_cases k:c
 ·rw [if_pos k] at h;exact⟨k,h⟩
 ·rw [if_neg k] at h;cases h
theorem dI:OpR X (binaryOp .Add) (POp X.K κ bP):=by
 rintro pins s σ H x y v u Q I rx ry ⟨dx,dy,d,fx,fy,r1,r2,e,q⟩
 unfold bP at e
 split at e
 ·rename_i i j
  cases e;exact mI pins s σ H x y v u Q I rx ry ⟨i,j,r1.is_int,r2.is_int,q.now (.int _)⟩
 ·rename_i i j
  obtain⟨hc,e⟩:=cB e
  cases e;exact wG pins s σ H x y v u Q I rx ry ⟨i,j,r1.is_str,r2.is_str,hc,q.now (.str _)⟩
 ·rename_i o xs o' ys
  obtain⟨hc,e⟩:=cB e
  simp only [Bool.and_eq_true,decide_eq_true_eq] at hc
  cases e
  obtain⟨a,vs,g,rfl,h1,s1,_⟩:=r1.lst_inv
  obtain⟨b,us,g',rfl,h2,s2,_⟩:=r2.lst_inv
  exact zg3 pins s σ H _ _ v u Q I rx ry ⟨a,b,vs,us,rfl,rfl,h1,h2,by rw [s1.length,s2.length];exact hc.2,fun p hp=>pB hp (Paired.app (s1.pair hc.1.1) (s2.pair hc.1.2)) q⟩
 ·rename_i xs ys
  obtain⟨hc,e⟩:=cB e
  cases e
  obtain⟨a,vs,rfl,h1,s1⟩:=r1.tup_inv
  obtain⟨b,us,rfl,h2,s2⟩:=r2.tup_inv
  have l1:=s1.length;have l2:=s2.length
  cases vs with
  |nil=>
   cases s1
   exact za5 pins s σ H _ _ v u Q I rx ry ⟨a,b,us,rfl,rfl,h1,h2,q.now (.tup h2 s2)⟩
  |cons w ws=>
   refine zf6 pins s σ H _ _ v u Q I rx ry ⟨a,b,_,us,rfl,rfl,h1,h2,by simp,by omega,fun z=> ?_,fun z p hp=>qZ hp (Paired.app s1.nilp s2.nilp) q⟩
   subst z
   cases s2
   rw [List.append_nil] at q
   exact q.now (.tup h1 s1)
 ·cases e
def dII(C:Int->Int->Bool)(g:Int->Int->D):D->D->Option D
 | .int i,.int j=>if C i j=true then some (g i j) else none
 |_,_=>none
theorem tM{C:Int->Int->Bool}{g:Int->Int->D}{x y d:D}(h:dII C g x y=some d):∃i j,x= .int i/\y= .int j/\C i j=true/\d=g i j:=by
 unfold dII at h
 split at h
 ·obtain⟨hc,h⟩:=cB h
  cases h;exact⟨_,_,rfl,rfl,hc,rfl⟩
 ·cases h
def lA:D->D->Option D
 | .int i,.int j=>some (.int (i-j))
 |_,_=>none
def gK(i j:Int):Bool:=(decide (-(2^64)<i)&&decide (i<2^64))||(decide (-(2^64)<j)&&decide (j<2^64))
def eG:D->D->Option D
 | .int i,.int j=>if gK i j=true then some (.int (i*j)) else none
 | .lst _ xs,.int k=>if (D.imms xs&&decide (-(2^63)<=k)&&decide (k<2^63)&&decide (xs.length*k.toNat<=sizeLine))=true then some (.lst true (List.replicate k.toNat xs).flatten) else none
 | .str x,.int n=>if (decide (x.length<=1)&&decide (-(2^63)<=n)&&decide (n<=16777216))=true then some (.str (Txt.mul x n)) else none
 |_,_=>none
theorem wQ:OpR X (binaryOp .Mult) (fun x y H Q=>∃z n,x= .str z/\y= .int n/\MulOk z n/\Q (.str (Txt.mul z n)) H):=by
 rintro pins s σ H x y v u Q I rx ry ⟨z,n,e1,e2,ok,q⟩
 subst e1 e2
 obtain⟨t,rfl⟩:=rx
 obtain⟨t',rfl⟩:=ry
 exact SB.mul ok fun t' k=>⟨.str _,H,I.tok k,⟨_,rfl⟩,q⟩
theorem lX:OpR X (binaryOp .Mult) (POp X.K κ eG):=by
 rintro pins s σ H x y v u Q I rx ry ⟨dx,dy,d,fx,fy,r1,r2,e,q⟩
 unfold eG at e
 split at e
 ·rename_i i j
  obtain⟨hc,e⟩:=cB e
  cases e
  refine kC pins s σ H x y v u Q I rx ry ⟨i,j,r1.is_int,r2.is_int,?_,q.now (.int _)⟩
  unfold gK at hc
  simp only [Bool.or_eq_true,Bool.and_eq_true,decide_eq_true_eq] at hc
  exact hc
 ·rename_i o xs k
  obtain⟨hc,e⟩:=cB e
  simp only [Bool.and_eq_true,decide_eq_true_eq] at hc
  cases e
  obtain⟨a,vs,g,rfl,h1,s1,_⟩:=r1.lst_inv
  have l1:=s1.length
  exact zg4 pins s σ H _ _ v u Q I rx ry ⟨a,k,vs,rfl,r2.is_int,h1,hc.1.1.2,hc.1.2,by rw [l1];exact hc.2,fun p hp=>pB hp (Paired.repl (s1.pair hc.1.1.1) _) q⟩
 ·rename_i z n
  obtain⟨hc,e⟩:=cB e
  simp only [Bool.and_eq_true,decide_eq_true_eq] at hc
  cases e
  exact wQ pins s σ H _ _ v u Q I rx ry ⟨z,n,r1.is_str,r2.is_int,mulOk_of 1 16777216 hc.1.1 (by omega) hc.1.2 (by decide) (by decide),q.now (.str _)⟩
 ·cases e
def bZ:D->D->Option D:=dII (fun _ j=>decide (0<j)) fun i j=> .int (i % j)
theorem cY:OpR X (binaryOp .Mod) (POp X.K κ bZ):=by
 rintro pins s σ H x y v u Q I rx ry ⟨dx,dy,d,fx,fy,r1,r2,e,q⟩
 obtain⟨i,j,rfl,rfl,hc,rfl⟩:=tM e
 exact pZ pins s σ H x y v u Q I rx ry ⟨i,j,r1.is_int,r2.is_int,of_decide_eq_true hc,q.now (.int _)⟩
def dG:D->D->Option D:=dII (fun _ j=>decide (0<j)&&decide (j<1073741824)) fun i j=> .int (i/j)
theorem eU:OpR X (binaryOp .FloorDiv) (POp X.K κ dG):=by
 rintro pins s σ H x y v u Q I rx ry ⟨dx,dy,d,fx,fy,r1,r2,e,q⟩
 obtain⟨i,j,rfl,rfl,hc,rfl⟩:=tM e
 simp only [Bool.and_eq_true,decide_eq_true_eq] at hc
 exact vK pins s σ H x y v u Q I rx ry ⟨i,j,r1.is_int,r2.is_int,hc,q.now (.int _)⟩
def D.ints:List D->Option (List Int)
 |[]=>some []
 | .int i::ds=>(D.ints ds).map (i::·)
 |_::_=>none
theorem mK{K:tz0}{H:Hp}:∀{vs:List V} {ds:List D} {fp:List Addr} {ns:List Int},Reps K κ H vs ds fp->D.ints ds=some ns->vs=ns.map V.int
 |_,_,_,_,.nil,e=>by cases e;rfl
 | _,d::ds,_,ns,.cons h hs,e=>by
  cases d with
  |int i=>
   rw [D.ints] at e
   cases e1:D.ints ds with
   |none=>rw [e1] at e;cases e
   |some ms=>rw [e1] at e;cases e;rw [h.is_int,mK hs e1];rfl
  |_=>cases e
def dLt:D->D->Option D
 | .int i,.int j=>some (.bl (decide (i<j)))
 | .str i,.str j=>some (.bl (decide (i.cps.toList<j.cps.toList)))
 | .tup xs,.tup ys=>(D.ints xs).bind fun ns=>(D.ints ys).map fun ms=> .bl (HT.lexLt ns ms)
 |_,_=>none
theorem kX(hu:X.A.units<cLine):OpR X (compareOp .Lt) (POp X.K κ dLt):=by
 rintro pins s σ H x y v u Q I rx ry ⟨dx,dy,d,fx,fy,r1,r2,e,q⟩
 unfold dLt at e
 split at e
 ·rename_i i j
  cases e;exact zo9 pins s σ H x y v u Q I rx ry ⟨i,j,r1.is_int,r2.is_int,q.now (.bl _)⟩
 ·rename_i i j
  cases e;exact xT pins s σ H x y v u Q I rx ry ⟨i,j,r1.is_str,r2.is_str,q.now (.bl _)⟩
 ·rename_i xs ys
  obtain⟨ns,e1,e⟩:=bind_some e
  obtain⟨ms,e2,e⟩:=Option.map_eq_some_iff.mp e
  subst e
  obtain⟨a,vs,rfl,h1,s1⟩:=r1.tup_inv
  obtain⟨b,us,rfl,h2,s2⟩:=r2.tup_inv
  rw [mK s1 e1] at h1
  rw [mK s2 e2] at h2
  exact zk5 hu pins s σ H _ _ v u Q I rx ry ⟨a,b,ns,ms,rfl,rfl,h1,h2,q.now (.bl _)⟩
 ·cases e
def dLe:D->D->Option D
 | .int i,.int j=>some (.bl (decide (i<=j)))
 | .str i,.str j=>some (.bl (!sLt j i))
 |_,_=>none
theorem kM:OpR X (compareOp .LtE) (POp X.K κ dLe):=by
 rintro pins s σ H x y v u Q I rx ry ⟨dx,dy,d,fx,fy,r1,r2,e,q⟩
 unfold dLe at e
 split at e
 ·rename_i i j
  cases e;exact zp0 pins s σ H x y v u Q I rx ry ⟨i,j,r1.is_int,r2.is_int,q.now (.bl _)⟩
 ·rename_i i j
  cases e;exact yH pins s σ H x y v u Q I rx ry ⟨i,j,r1.is_str,r2.is_str,q.now (.bl _)⟩
 ·cases e
def dGt:D->D->Option D
 | .int i,.int j=>some (.bl (decide (j<i)))
 |_,_=>none
theorem nY:OpR X (compareOp .Gt) (POp X.K κ dGt):=by
 rintro pins s σ H x y v u Q I rx ry ⟨dx,dy,d,fx,fy,r1,r2,e,q⟩
 unfold dGt at e
 split at e
 ·rename_i i j
  cases e;exact zp1 pins s σ H x y v u Q I rx ry ⟨i,j,r1.is_int,r2.is_int,q.now (.bl _)⟩
 ·cases e
def dGe:D->D->Option D
 | .int i,.int j=>some (.bl (decide (j<=i)))
 |_,_=>none
mutual
def D.data:D->Option PyData
 | .non=>some .none
 | .bl b=>some (.bool b)
 | .int i=>some (.int i)
 | .str x=>some (.str x)
 | .tup xs=>(D.datas xs).map .tuple
 | .lst _ xs=>(D.datas xs).map .list
 |_=>none
def D.datas:List D->Option (List PyData)
 |[]=>some []
 |d::ds=>d.data.bind fun p=>(D.datas ds).map (p::·)
end
theorem Reps.dps{K:tz0}{H:Hp}{vs:List V}{ds:List D}{fp:List Addr}(h:Reps K κ H vs ds fp):∀{p:List PyData},D.datas ds=some p->DpAll K H vs p:=
 Reps.rec (motive_1:=fun v d _ _=>∀{p:PyData},d.data=some p->Dp K H v p) (motive_2:=fun vs ds _ _=>∀{p:List PyData},D.datas ds=some p->DpAll K H vs p)
  (fun e=>by cases e;exact .non) (fun b _ e=>by cases e;exact .bl b) (fun b _ e=>by cases e;exact .int b) (fun b _ e=>by cases e;exact .str b) (fun b _ e=>nomatch e)
  (fun h _ ih _ e=>by obtain⟨ps,e1,e⟩:=Option.map_eq_some_iff.mp e;subst e;exact .tup h (ih e1)) (fun _ _ _ _ e=>nomatch e)
  (fun h _ ih _ e=>by obtain⟨ps,e1,e⟩:=Option.map_eq_some_iff.mp e;subst e;exact .lst (.inl (.inl h)) (ih e1))
  (fun h _ ih _ e=>by obtain⟨ps,e1,e⟩:=Option.map_eq_some_iff.mp e;subst e;exact .lst (.inl (.inr ⟨_,h⟩)) (ih e1))
  (fun _ _ _ _ _ e=>nomatch e) (fun _ _ _ _ _ e=>nomatch e) (fun _ _ _ _ _ e=>nomatch e) (fun _ _ _ _ _ e=>nomatch e)
  (fun e=>by cases e;exact .nil)
  (fun _ _ i1 i2 _ e=>by
   obtain⟨q,e1,e⟩:=bind_some e
   obtain⟨qs,e2,e⟩:=Option.map_eq_some_iff.mp e
   subst e
   exact .cons (i1 e1) (i2 e2)) h
theorem Rep.dp{K:tz0}{H:Hp}{v:V}{d:D}{fp:List Addr}{p:PyData}(h:Rep K κ H v d fp)(e:d.data=some p):Dp K H v p:=by
 have:=(Reps.one h).dps (p:=[p]) (by show(d.data.bind _)=_;rw [e];rfl)
 cases this;assumption
def lS(x y:D):Option Bool:=x.data.bind fun a=>y.data.bind fun b=>if (a.canLay0&&b.canLay0&&decide (a.depth<=60))=true then some (PyData.eqv a b) else none
def eqB(x y:D):Option Bool:=match x,y with
 | .int i,.int j=>some (decide (i=j))
 | .str i,.str j=>some (decide (i=j))
 |x,y=>lS x y
def dEq(x y:D):Option D:=(eqB x y).map .bl
def dNe(x y:D):Option D:=(eqB x y).map fun b=> .bl (!b)
theorem rY{x y:D}{b:Bool}(h:eqB x y=some b):(∃i j,x= .int i/\y= .int j/\b=decide (i=j))\/(∃i j,x= .str i/\y= .str j/\b=decide (i=j))\/
  ∃p q,x.data=some p/\y.data=some q/\p.canLay0=true/\q.canLay0=true/\p.depth<=60/\b=PyData.eqv p q:=by
 have gen:lS x y=some b->∃p q,x.data=some p/\y.data=some q/\p.canLay0=true/\q.canLay0=true/\p.depth<=60/\b=PyData.eqv p q:=fun h=>by
  unfold lS at h
  cases e1:x.data with
  |none=>rw [e1] at h;cases h
  | some p=>
   rw [e1] at h
   cases e2:y.data with
   |none=>rw [e2] at h;cases h
   | some q=>
    rw [e2] at h
    have h':(if (p.canLay0&&q.canLay0&&decide (p.depth<=60))=true then some (PyData.eqv p q) else none)=some b:=h
    split at h'
    ·rename_i hc
     simp only [Bool.and_eq_true,decide_eq_true_eq] at hc
     exact⟨p,q,rfl,rfl,hc.1.1,hc.1.2,hc.2,(Option.some.inj h').symm⟩
    ·cases h'
 unfold eqB at h
 split at h
 ·cases h;exact .inl ⟨_,_,rfl,rfl,rfl⟩
 ·cases h;exact .inr (.inl ⟨_,_,rfl,rfl,rfl⟩)
 ·exact .inr (.inr (gen h))
theorem dL(hu:X.A.units+64<cLine):OpR X (compareOp .Eq) (POp X.K κ dEq):=by
 rintro pins s σ H x y v u Q I rx ry ⟨dx,dy,d,fx,fy,r1,r2,e,q⟩
 unfold dEq at e
 cases e1:eqB dx dy with
 |none=>rw [e1] at e;cases e
 | some b=>
  rw [e1] at e
  cases e
  rcases rY e1 with ⟨i,j,rfl,rfl,rfl⟩|⟨i,j,rfl,rfl,rfl⟩|⟨p,p',h1,h2,h3,h4,h5,rfl⟩
  ·rw [r1.is_int] at rx;rw [r2.is_int] at ry
   exact wE pins s σ H _ _ v u Q I rx ry ⟨rfl,by rw [show decide (V.int i=V.int j)=decide (i=j) by simp];exact q.now (.bl _)⟩
  ·rw [r1.is_str] at rx;rw [r2.is_str] at ry
   exact wE pins s σ H _ _ v u Q I rx ry ⟨rfl,by rw [show decide (V.str i=V.str j)=decide (i=j) by simp];exact q.now (.bl _)⟩
  ·exact zl3 hu pins s σ H _ _ v u Q I rx ry ⟨p,p',r1.dp h1,r2.dp h2,h3,h4,h5,q.now (.bl _)⟩
theorem za6(hu:X.A.units+64<cLine):OpR X (compareOp .NotEq) (POp X.K κ dNe):=by
 rintro pins s σ H x y v u Q I rx ry ⟨dx,dy,d,fx,fy,r1,r2,e,q⟩
 unfold dNe at e
 cases e1:eqB dx dy with
 |none=>rw [e1] at e;cases e
 | some b=>
  rw [e1] at e
  cases e
  rcases rY e1 with ⟨i,j,rfl,rfl,rfl⟩|⟨i,j,rfl,rfl,rfl⟩|⟨p,p',h1,h2,h3,h4,h5,rfl⟩
  ·rw [r1.is_int] at rx;rw [r2.is_int] at ry
   exact zd3 pins s σ H _ _ v u Q I rx ry ⟨rfl,by rw [show decide (V.int i=V.int j)=decide (i=j) by simp];exact q.now (.bl _)⟩
  ·rw [r1.is_str] at rx;rw [r2.is_str] at ry
   exact zd3 pins s σ H _ _ v u Q I rx ry ⟨rfl,by rw [show decide (V.str i=V.str j)=decide (i=j) by simp];exact q.now (.bl _)⟩
  ·exact zl4 hu pins s σ H _ _ v u Q I rx ry ⟨p,p',r1.dp h1,r2.dp h2,h3,h4,h5,q.now (.bl _)⟩
def sQ:D->Bool
 | .non=>true
 |_=>false
theorem tN{K:tz0}{H:Hp}{v:V}{d:D}{fp:List Addr}(r:Rep K κ H v d fp):decide (v= .non)=sQ d:=by cases r<;>first|rfl|simp [sQ]
def dIs:D->D->Option D
 |x,.non=>some (.bl (sQ x))
 |_,_=>none
def oN:D->D->Option D
 |x,.non=>some (.bl (!(sQ x)))
 |_,_=>none
theorem wR:OpR X (compareOp .Is) (POp X.K κ dIs):=by
 rintro pins s σ H x y v u Q I rx ry ⟨dx,dy,d,fx,fy,r1,r2,e,q⟩
 cases dy with
 |non=>
  cases e;cases r2
  refine zk0 pins s σ H x _ v u Q I rx ry ⟨rfl,?_⟩
  rw [tN r1];exact q.now (.bl _)
 |_=>cases e
theorem rA:OpR X (compareOp .IsNot) (POp X.K κ oN):=by
 rintro pins s σ H x y v u Q I rx ry ⟨dx,dy,d,fx,fy,r1,r2,e,q⟩
 cases dy with
 |non=>
  cases e;cases r2
  refine zf2 pins s σ H x _ v u Q I rx ry ⟨rfl,?_⟩
  rw [tN r1];exact q.now (.bl _)
 |_=>cases e
def D.flat:D->Option V
 | .non=>some .non
 | .bl b=>some (.bl b)
 | .int i=>some (.int i)
 | .str x=>some (.str x)
 |_=>none
def D.flats:List D->Option (List V)
 |[]=>some []
 |d::ds=>d.flat.bind fun v=>(D.flats ds).map (v::·)
theorem vR{K:tz0}{H:Hp}{v w:V}{d:D}{fp:List Addr}(r:Rep K κ H v d fp)(h:d.flat=some w):v=w/\iS v=true:=by
 cases r<;>first|(cases h;exact⟨rfl,rfl⟩)|cases h
theorem tO{K:tz0}{H:Hp}:∀{vs ws:List V} {ds:List D} {fp:List Addr},Reps K κ H vs ds fp->D.flats ds=some ws->vs=ws/\vs.all iS=true
 |_,_,_,_,.nil,e=>by cases e;exact⟨rfl,rfl⟩
 | _,ws,d::ds,_,.cons h hs,e=>by
  rw [D.flats] at e
  cases e1:d.flat with
  |none=>rw [e1] at e;cases e
  | some w=>
   rw [e1] at e
   cases e2:D.flats ds with
   |none=>rw [e2] at e;cases e
   |some us=>
    rw [e2] at e;cases e
    obtain⟨a1,a2⟩:=vR h e1
    obtain⟨b1,b2⟩:=tO hs e2
    exact⟨by rw [a1,b1],by rw [List.all_cons,a2,b2];rfl⟩
def gU(x:D)(ds:List D):Option Bool:=x.flat.bind fun v=>(D.flats ds).map fun ws=>inV v ws
def inB(x:D):D->Option Bool
 | .lst _ ds=>gU x ds
 | .tup ds=>gU x ds
 |_=>none
def dIn(x y:D):Option D:=(inB x y).map .bl
def mT(x y:D):Option D:=(inB x y).map fun b=> .bl (!b)
theorem yN{H:Hp}{x y:V}{dx dy:D}{fx fy:List Addr}{b:Bool}(r1:Rep X.K κ H x dx fx)(r2:Rep X.K κ H y dy fy)(e:inB dx dy=some b):
  ∃p xs,y= .ref p/\(SqL X.K H p xs\/SqT X.K H p xs)/\iS x=true/\xs.all iS=true/\b=inV x xs:=by
 have gen:∀{vs:List V} {ds:List D} {g:List Addr},Reps X.K κ H vs ds g->gU dx ds=some b->iS x=true/\vs.all iS=true/\b=inV x vs:=fun {vs ds g} rs h=>by
  unfold gU at h
  cases e1:dx.flat with
  |none=>rw [e1] at h;cases h
  | some w=>
   rw [e1] at h
   cases e2:D.flats ds with
   |none=>rw [e2] at h;cases h
   |some ws=>
    rw [e2] at h
    obtain⟨a1,a2⟩:=vR r1 e1
    obtain⟨b1,b2⟩:=tO rs e2
    subst a1 b1
    exact⟨a2,b2,(Option.some.inj h).symm⟩
 cases dy with
 |lst o ds=>
  obtain⟨a,vs,g,rfl,h,hs,_⟩:=r2.lst_inv
  obtain⟨g1,g2,g3⟩:=gen hs e
  exact⟨a,vs,rfl,.inl (.inl h),g1,g2,g3⟩
 |tup ds=>
  obtain⟨a,vs,rfl,h,hs⟩:=r2.tup_inv
  obtain⟨g1,g2,g3⟩:=gen hs e
  exact⟨a,vs,rfl,.inr h,g1,g2,g3⟩
 |_=>cases e
theorem wS:OpR X (compareOp .In) (POp X.K κ dIn):=by
 rintro pins s σ H x y v u Q I rx ry ⟨dx,dy,d,fx,fy,r1,r2,e,q⟩
 unfold dIn at e
 cases e1:inB dx dy with
 |none=>rw [e1] at e;cases e
 |some b=>
  rw [e1] at e;cases e
  obtain⟨p,xs,ey,h,f1,f2,rfl⟩:=yN r1 r2 e1
  exact yA pins s σ H x y v u Q I rx ry ⟨p,xs,ey,h,f1,f2,q.now (.bl _)⟩
theorem rB:OpR X (compareOp .NotIn) (POp X.K κ mT):=by
 rintro pins s σ H x y v u Q I rx ry ⟨dx,dy,d,fx,fy,r1,r2,e,q⟩
 unfold mT at e
 cases e1:inB dx dy with
 |none=>rw [e1] at e;cases e
 |some b=>
  rw [e1] at e;cases e
  obtain⟨p,xs,ey,h,f1,f2,rfl⟩:=yN r1 r2 e1
  exact tD pins s σ H x y v u Q I rx ry ⟨p,xs,ey,h,f1,f2,q.now (.bl _)⟩
end
theorem Reps.getS{K:tz0}{κ:tz9}{H:Hp}:∀{vs:List V} {ds:List D} {fp:List Addr} {i:Nat} {d:D},Reps K κ H vs ds fp->ds[i]? =some d->∃v f,vs[i]? =some v/\Rep K κ H v d f/\f.Sublist fp
 |_,_,_,_,_,.nil,e=>by simp at e
 |_,_,_,0,_,.cons h _,e=>by simp at e;subst e;exact⟨_,_,rfl,h,List.sublist_append_left _ _⟩
 |_,_,_,i+1,_,.cons _ hs,e=>by
  obtain⟨v,f,h1,h2,h3⟩:=Reps.getS (i:=i) hs (by simpa using e)
  exact⟨v,f,by simpa using h1,h2,h3.trans (List.sublist_append_right _ _)⟩
theorem Reps.atI{K:tz0}{κ:tz9}{H:Hp}{vs:List V}{ds:List D}{fp:List Addr}{i:Int}{d:D}(r:Reps K κ H vs ds fp)(h:L2.atI ds i=some d):∃v f,L2.atI vs i=some v/\Rep K κ H v d f/\f.Sublist fp:=by
 unfold L2.atI at h|-
 rw [r.length]
 cases e:ixN ds.length i with
 |none=>rw [e] at h;cases h
 |some j=>rw [e] at h;exact r.getS h
section
variable{X:Cx}{κ:tz9}{e a b:Expr}{es:List Expr}{f fa fb:tz2}{g:tz3}{pos p2:Pos}
def aC:tz3:=fun _=>some []
def aA(f:tz2)(g:tz3):tz3:=fun ps=>(f ps).bind fun d=>(g ps).bind fun ds=>some (d::ds)
theorem mZ{ps:PSt}{ds:List D}(h:aA f g ps=some ds):∃d es,f ps=some d/\g ps=some es/\ds=d::es:=by
 unfold aA at h
 cases e1:f ps with
 |none=>rw [e1] at h;cases h
 |some d=>
  rw [e1] at h
  cases e2:g ps with
  |none=>rw [e2] at h;cases h
  |some es=>rw [e2] at h;cases h;exact⟨d,es,rfl,rfl,rfl⟩
theorem aP:QVA X κ [] aC:=kD.imp fun σ H Q ⟨ps,ds,w,e,q⟩=>by cases e;exact q [] H [] (.refl H) .nil
theorem aI(ha:QV X κ e f)(hr:QVA X κ es g)(hs:starEach (e::es) X.env=(false,eval e X.env)::starEach es X.env:=by rfl):QVA X κ (e::es) (aA f g):=
 (fF ha hr hs).imp fun σ H Q hh_=>by
  obtain⟨ps,ds,w,e,q⟩:=hh_
  obtain⟨d,es,e1,e2,rfl⟩:=mZ e
  exact⟨ps,d,w,e1,fun v H1 fp s1 r1=>⟨ps,es,w.same s1,e2,fun vs H2 fq s2 r2=>q _ H2 _ (s1.trans s2) (.cons (r1.same s2) r2)⟩⟩
theorem aF:QPA X κ [] aC:=kD.imp fun σ H Q ⟨ps,ds,w,e,q⟩=>by cases e;exact q [] H [] (.refl H) (fun _ h=>absurd h (by simp)) List.nodup_nil .nil
theorem yO{K:tz0}{H1:Hp}{v:V}{d:D}{fv fw:List Addr}(r:Rep K κ H1 v d fv)(n1:fv.Nodup)(hw:∀a∈fw,H1 a=none)(n2:fw.Nodup):(fv++fw).Nodup:=by
 rw [List.nodup_append]
 refine⟨n1,n2,fun a ha b hb e=> ?_⟩
 subst e
 obtain⟨o,h,_⟩:=r.own a ha
 rw [hw a hb] at h;cases h
theorem aB(ha:QP X κ e f)(hr:QPA X κ es g)(hs:starEach (e::es) X.env=(false,eval e X.env)::starEach es X.env:=by rfl):QPA X κ (e::es) (aA f g):=
 (fF ha hr hs).imp fun σ H Q hh_=>by
  obtain⟨ps,ds,w,e,q⟩:=hh_
  obtain⟨d,es,e1,e2,rfl⟩:=mZ e
  refine⟨ps,d,w,e1,fun v H1 fv s1 n1 nd1 r1=>⟨ps,es,w.same s1,e2,fun vs H2 fw s2 n2 nd2 r2=> ?_⟩⟩
  refine q _ H2 (fv++fw) (s1.trans s2) (fun a ha=> ?_) (yO r1 nd1 n2 nd2) (.cons (r1.same s2) r2)
  rcases List.mem_append.mp ha with z|z
  ·exact n1 a z
  ·exact s1.grow a (n2 a z)
def aQ(g:tz3):tz2:=fun ps=>(g ps).bind fun ds=>if (D.imms ds&&decide (ds.length<=1000))=true then some (.tup ds) else none
def bA(g:tz3):tz2:=fun ps=>(g ps).bind fun ds=>if ds.length<=1000 then some (.lst true ds) else none
theorem aN{x1}(h:QPA X κ es g):QP X κ (.Tuple es x1 pos) (aQ g):=
 (zk2 h).imp fun σ H Q hh_=>by
  obtain⟨ps,d,w,e,q⟩:=hh_
  obtain⟨ds,e1,e2⟩:=bind_some e
  obtain⟨hc,e3⟩:=cB e2
  cases e3
  rw [Bool.and_eq_true,decide_eq_true_eq] at hc
  refine⟨ps,ds,w,e1,fun vs H1 fv s1 n1 nd1 r1=>⟨by rw [r1.length];exact wL hc.2,fun p hp=> ?_⟩⟩
  exact qZ hp (r1.pair hc.1) (q.after s1)
theorem bL(h:QPA X κ es g):QP X κ (.List es pos) (bA g):=
 (zk3 h).imp fun σ H Q hh_=>by
  obtain⟨ps,d,w,e,q⟩:=hh_
  obtain⟨ds,e1,e2⟩:=bind_some e
  obtain⟨hc,e3⟩:=cB e2
  cases e3
  refine⟨ps,ds,w,e1,fun vs H1 fv s1 n1 nd1 r1=>⟨by rw [r1.length];exact wL hc,fun p hp=> ?_⟩⟩
  refine q _ _ (p::fv) (s1.trans (.new hp _)) (fun a ha=> ?_) (List.nodup_cons.mpr ⟨fun hm=> ?_,nd1⟩) (.lst dJ (r1.same (.new hp _)))
  ·rcases List.mem_cons.mp ha with z|z
   ·rw [z];exact s1.grow p hp
   ·exact n1 a z
  ·obtain⟨o,h,_⟩:=r1.own p hm
   rw [hp] at h;cases h
def dIx:D->D->Option D
 | .lst _ xs,.int i=>atI xs i
 | .tup xs,.int i=>atI xs i
 | .con xs,.int i=>atI xs i
 | .str z,.int i=>if z.length<=sizeLine then(atI z.cps.toList i).map fun c=> .str ⟨#[c]⟩ else none
 |_,_=>none
theorem yP{K:tz0}{H:Hp}{x y:V}{dx dy d:D}{fx fy:List Addr}{Q:VK}(r1:Rep K κ H x dx fx)(r2:Rep K κ H y dy fy)(e:dIx dx dy=some d)(q:∀v f,Rep K κ H v d f->f.Sublist fx->Q v H):rIx K x y H Q:=by
 unfold dIx at e
 split at e
 ·rename_i o xs i
  obtain⟨a,vs,g,rfl,h,hs,sub⟩:=r1.lst_inv
  obtain⟨v,f,h1,h2,h3⟩:=hs.atI e
  exact .inl ⟨a,vs,i,v,rfl,r2.is_int,.inl h,h1,q v f h2 (h3.trans sub)⟩
 ·rename_i xs i
  obtain⟨a,vs,rfl,h,hs⟩:=r1.tup_inv
  obtain⟨v,f,h1,h2,h3⟩:=hs.atI e
  cases List.sublist_nil.mp h3
  exact .inr (.inl ⟨a,vs,i,v,rfl,r2.is_int,h,h1,q v [] h2 (List.nil_sublist _)⟩)
 ·rename_i xs i
  obtain⟨a,vs,rfl,h,hs⟩:=r1.con_inv
  obtain⟨v,f,h1,h2,h3⟩:=hs.atI e
  cases List.sublist_nil.mp h3
  exact .inl ⟨a,vs,i,v,rfl,r2.is_int,h.l,h1,q v [] h2 (List.nil_sublist _)⟩
 ·rename_i z i
  obtain⟨hz,e⟩:=cB e
  obtain⟨c,e1,e⟩:=Option.map_eq_some_iff.mp e
  subst e
  exact .inr (.inr ⟨z,i,c,r1.is_str,r2.is_int,hz,e1,q _ [] (.str _) (List.nil_sublist _)⟩)
 ·cases e
theorem cS(ha:QV X κ a fa)(hb:QV X κ b fb)(hs:kP b:=by exact fun _ _=>rfl):QV X κ (.Subscript a b pos) (f2 dIx fa fb):=
 (sP xY ha hb hs).imp fun σ H Q hh_=>by
  obtain⟨ps,d,w,e,q⟩:=hh_
  obtain⟨x,y,e1,e2,e3⟩:=qY e
  exact⟨ps,x,w,e1,fun v H1 fp s1 r1=>⟨ps,y,w.same s1,e2,fun u H2 fq s2 r2=>yP (r1.same s2) r2 e3 fun v f r _=>q v H2 f (s1.trans s2) r⟩⟩
theorem lY(ha:QP X κ a fa)(hb:QV X κ b fb)(hs:kP b:=by exact fun _ _=>rfl):QP X κ (.Subscript a b pos) (f2 dIx fa fb):=
 (sP xY ha hb hs).imp fun σ H Q hh_=>by
  obtain⟨ps,d,w,e,q⟩:=hh_
  obtain⟨x,y,e1,e2,e3⟩:=qY e
  exact⟨ps,x,w,e1,fun v H1 fv s1 n1 nd1 r1=>⟨ps,y,w.same s1,e2,fun u H2 fq s2 r2=>yP (r1.same s2) r2 e3 fun v f r sub=>q v H2 f (s1.trans s2) (fun c hc=>n1 c (sub.subset hc)) (nd1.sublist sub) r⟩⟩
def gJ:PSt->Option (Option Int):=fun _=>some none
def jQ(f:tz2):PSt->Option (Option Int):=fun ps=>(f ps).bind fun d=>match d with
 | .int i=>some (some i)
 |_=>none
def zo1(xs:List D)(lo hi:Option Int):List D:=(xs.drop (HT.sIx xs.length 0 lo)).take (HT.sIx xs.length xs.length hi-HT.sIx xs.length 0 lo)
def dSl:D->Option Int->Option Int->Option D
 | .lst _ xs,lo,hi=>if D.imms xs=true then some (.lst true (zo1 xs lo hi)) else none
 | .tup xs,lo,hi=>some (.tup (zo1 xs lo hi))
 | .str z,lo,hi=>if z.length<=sizeLine then some (.str (Txt.slice z lo hi)) else none
 |_,_,_=>none
def fSl(f:tz2)(fl fh:PSt->Option (Option Int)):tz2:=fun ps=>(f ps).bind fun d=>(fl ps).bind fun l=>(fh ps).bind fun h=>dSl d l h
def PCl(K:tz0)(κ:tz9)(g:tz6):List V->Hp->VK->Prop:=fun vs H Q=>∃ds fp d,Reps K κ H vs ds fp/\g ds=some d/\jM K κ H d Q
def aK(h:tz6)(g:tz3):tz2:=fun ps=>(g ps).bind h
theorem yQ{h:tz6}{σ:St}{H:Hp}{Q:VK}(q:tP X.K κ (aK h g) σ H Q):tCB (PCl X.K κ h) (tVA X.K κ g) σ H Q:=by
 obtain⟨ps,d,w,e,q⟩:=q
 obtain⟨ds,e1,e2⟩:=bind_some e
 exact⟨ps,ds,w,e1,fun vs H1 fp s1 r1=>⟨ds,fp,d,r1,e2,q.after s1⟩⟩
theorem bB{x:Str}{id:String}{p:Pos}{h:tz6}(hc:cM X (.builtin id) (PCl X.K κ h))(hg:Gl X x)(hm:X.mg x=none)(hv:bootBuiltins x=some (.builtin id))(ha:QVA X κ (e::es) g)(hn:x≠"__name__":=by decide)(hdb:(x==("__debug__":Str))=false:=by decide)
  (hs:starEach (e::es) X.env=(false,eval e X.env)::starEach es X.env:=by rfl) (hpl:(backTo pos (starEach es X.env)).any (·.1)=false:=by rfl):QP X κ (.Call (.Name x p) (e::es) [] pos) (aK h g):=
 (lM hc hg hm hv ha hn hdb hs hpl).imp fun _ _ _ q=>yQ q
theorem eM{x:Str}{T:String}{p:Pos}{h:tz6}(hc:cM X (.type T) (PCl X.K κ h))(hg:Gl X x)(hm:X.mg x=none)(hv:bootBuiltins x=some (.type T))(ha:QVA X κ (e::es) g)(hn:x≠"__name__":=by decide)(hdb:(x==("__debug__":Str))=false:=by decide)
  (hs:starEach (e::es) X.env=(false,eval e X.env)::starEach es X.env:=by rfl) (hpl:(backTo pos (starEach es X.env)).any (·.1)=false:=by rfl):QP X κ (.Call (.Name x p) (e::es) [] pos) (aK h g):=
 (rR hc hg hm hv ha hn hdb hs hpl).imp fun _ _ _ q=>yQ q
theorem Reps.two_inv{K:tz0}{H:Hp}{vs:List V}{d e:D}{fp:List Addr}(r:Reps K κ H vs [d,e] fp):∃v u f g,vs=[v,u]/\Rep K κ H v d f/\Rep K κ H u e g:=by
 obtain⟨v,us,f,g,rfl,h,t,rfl⟩:=r.split
 obtain⟨u,rfl,h2⟩:=t.one_inv
 exact⟨v,u,f,g,rfl,h,h2⟩
def bU:tz6
 |[.lst _ xs]=>some (.int xs.length)
 |[.tup xs]=>some (.int xs.length)
 |[.con xs]=>some (.int xs.length)
 |[.str z]=>if z.length<=sizeLine then some (.int z.length) else none
 |_=>none
theorem dY:cM X (.builtin "len") (PCl X.K κ bU):=by
 rintro pins s σ H vs us Q I r ⟨ds,fp,d,rs,e,q⟩
 unfold bU at e
 split at e
 ·cases e
  obtain⟨v,rfl,r1⟩:=rs.one_inv
  obtain⟨a,ws,g,rfl,h,hs,_⟩:=r1.lst_inv
  exact gX pins s σ H _ us Q I r ⟨a,ws,rfl,.inl (.inl h),by rw [hs.length];exact q.now (.int _)⟩
 ·cases e
  obtain⟨v,rfl,r1⟩:=rs.one_inv
  obtain⟨a,ws,rfl,h,hs⟩:=r1.tup_inv
  exact gX pins s σ H _ us Q I r ⟨a,ws,rfl,.inr h,by rw [hs.length];exact q.now (.int _)⟩
 ·cases e
  obtain⟨v,rfl,r1⟩:=rs.one_inv
  obtain⟨a,ws,rfl,h,hs⟩:=r1.con_inv
  exact gX pins s σ H _ us Q I r ⟨a,ws,rfl,.inl h.l,by rw [hs.length];exact q.now (.int _)⟩
 ·obtain⟨hz,e⟩:=cB e
  cases e
  obtain⟨v,rfl,r1⟩:=rs.one_inv
  exact tF pins s σ H _ us Q I r ⟨_,by rw [r1.is_str],hz,q.now (.int _)⟩
 ·cases e
def gE:tz6
 |[.int i,.int j]=>some (.int (if j>i then j else i))
 |_=>none
def gF:tz6
 |[.int i,.int j]=>some (.int (if j<i then j else i))
 |_=>none
theorem tR(hc:X.calm=true):cM X (.builtin "max") (PCl X.K κ gE):=by
 rintro pins s σ H vs us Q I r ⟨ds,fp,d,rs,e,q⟩
 unfold gE at e
 split at e
 ·cases e
  obtain⟨v,u,f,g,rfl,r1,r2⟩:=rs.two_inv
  exact rM hc pins s σ H _ us Q I r ⟨_,_,by rw [r1.is_int,r2.is_int],q.now (.int _)⟩
 ·cases e
theorem tT(hc:X.calm=true):cM X (.builtin "min") (PCl X.K κ gF):=by
 rintro pins s σ H vs us Q I r ⟨ds,fp,d,rs,e,q⟩
 unfold gF at e
 split at e
 ·cases e
  obtain⟨v,u,f,g,rfl,r1,r2⟩:=rs.two_inv
  exact xU hc pins s σ H _ us Q I r ⟨_,_,by rw [r1.is_int,r2.is_int],q.now (.int _)⟩
 ·cases e
def dTy:D->Option String
 | .non=>some "NoneType"
 | .bl _=>some "bool"
 | .int _=>some "int"
 | .str _=>some "str"
 | .lst _ _=>some "list"
 | .tup _=>some "tuple"
 | .dic true _ _=>some "dict"
 |_=>none
def dA:tz6
 |[x,.ty c]=>(dTy x).bind fun t=>if c∈["bool","int","str","list","tuple","dict"] then some (.bl (lH t c)) else none
 |_=>none
theorem zl5{K:tz0}{H:Hp}{v:V}{d:D}{fp:List Addr}{t:String}(r:Rep K κ H v d fp)(h:dTy d=some t):(mS H v=some t\/(t="tuple"/\∃a xs,v= .ref a/\SqT K H a xs)):=by
 cases r with
 |non=>cases h;exact .inl rfl
 |bl _=>cases h;exact .inl rfl
 |int _=>cases h;exact .inl rfl
 |str _=>cases h;exact .inl rfl
 |tup s _=>cases h;exact .inr ⟨rfl,_,_,rfl,s⟩
 |lst s _=>cases h;exact .inl (by simp [mS,s])
 |lstF s _=>cases h;exact .inl (by simp [mS,s])
 |dic s _ _=>cases h;exact .inl (by simp [mS,s])
 |_=>cases h
theorem gD:cM X (.builtin "isinstance") (PCl X.K κ dA):=by
 rintro pins s σ H vs us Q I r ⟨ds,fp,d,rs,e,q⟩
 unfold dA at e
 split at e
 ·obtain⟨t,e1,e2⟩:=bind_some e
  obtain⟨hc,e3⟩:=cB e2
  cases e3
  obtain⟨v,u,f,g,rfl,r1,r2⟩:=rs.two_inv
  cases r2
  rcases zl5 r1 e1 with h|⟨rfl,a,xs,rfl,h⟩
  ·exact za3 pins s σ H _ us Q I r ⟨_,_,t,rfl,h,hc,q.now (.bl _)⟩
  ·obtain⟨u1,u2,rfl,rx,rc⟩:=sO r
   cases(show u2=Value.type _ from rc)
   cases(show u1=Value.ref a from rx)
   obtain⟨its,rv,⟨o,h1,h2,_⟩,_⟩:=I.tuple h
   exact PySem.W.kia_one PySem.W.kitx_tuple I.kIn ⟨o,h1,h2⟩ (tI X.K "tuple" (by decide) _ hc) (fun z=>nomatch z) fun tk=>⟨.bl _,H,I.tok tk,rfl,q.now (.bl _)⟩
 ·cases e
def eB:tz6
 |[.lst _ xs]=>if D.imms xs=true then some (.lst true xs) else none
 |[.tup xs]=>some (.lst true xs)
 |_=>none
theorem mL:cM X (.type "list") (PCl X.K κ eB):=by
 rintro pins s σ H vs us Q I r ⟨ds,fp,d,rs,e,q⟩
 unfold eB at e
 split at e
 ·obtain⟨hc,e⟩:=cB e
  cases e
  obtain⟨v,rfl,r1⟩:=rs.one_inv
  obtain⟨a,ws,g,rfl,h,hs,_⟩:=r1.lst_inv
  exact nX pins s σ H _ us Q I r ⟨a,ws,rfl,.inl (.inl h),fun p hp=>pB hp (hs.pair hc) q⟩
 ·cases e
  obtain⟨v,rfl,r1⟩:=rs.one_inv
  obtain⟨a,ws,rfl,h,hs⟩:=r1.tup_inv
  exact nX pins s σ H _ us Q I r ⟨a,ws,rfl,.inr h,fun p hp=>pB hp hs.nilp q⟩
 ·cases e
def cN:tz6
 |[.lst _ xs]=>if D.imms xs=true then some (.tup xs) else none
 |[.tup xs]=>some (.tup xs)
 |_=>none
theorem iM:cM X (.type "tuple") (PCl X.K κ cN):=by
 rintro pins s σ H vs us Q I r ⟨ds,fp,d,rs,e,q⟩
 unfold cN at e
 split at e
 ·obtain⟨hc,e⟩:=cB e
  cases e
  obtain⟨v,rfl,r1⟩:=rs.one_inv
  obtain⟨a,ws,g,rfl,h,hs,_⟩:=r1.lst_inv
  exact nR pins s σ H _ us Q I r ⟨a,ws,rfl,.inl ⟨.inl h,fun p hp=>qZ hp (hs.pair hc) q⟩⟩
 ·cases e
  obtain⟨v,rfl,r1⟩:=rs.one_inv
  obtain⟨a,ws,rfl,h,hs⟩:=r1.tup_inv
  exact nR pins s σ H _ us Q I r ⟨a,ws,rfl,.inr ⟨h,q.now (.tup h hs)⟩⟩
 ·cases e
def jR:tz6
 |[.int i]=>some (.int i)
 |[.bl k]=>some (.int (if k then 1 else 0))
 |_=>none
def D.bools:List D->Option (List Bool)
 |[]=>some []
 | .bl b::ds=>(D.bools ds).map (b::·)
 |_::_=>none
theorem tU{K:tz0}{H:Hp}:∀{vs:List V} {ds:List D} {fp:List Addr} {ns:List Bool},Reps K κ H vs ds fp->D.bools ds=some ns->vs=ns.map V.bl
 |_,_,_,_,.nil,e=>by cases e;rfl
 | _,d::ds,_,ns,.cons h hs,e=>by
  cases d with
  |bl i=>
   rw [D.bools] at e
   cases e1:D.bools ds with
   |none=>rw [e1] at e;cases e
   |some ms=>rw [e1] at e;cases e;rw [h.is_bl,tU hs e1];rfl
  |_=>cases e
def mD:tz6
 |[.lst _ xs]=>(D.bools xs).map fun bs=> .bl (bs.all id)
 |_=>none
theorem qD(hc:X.calm=true):cM X (.builtin "all") (PCl X.K κ mD):=by
 rintro pins s σ H vs us Q I r ⟨ds,fp,d,rs,e,q⟩
 unfold mD at e
 split at e
 ·rename_i xs
  cases e1:D.bools xs with
  |none=>rw [e1] at e;cases e
  |some bs=>
   rw [e1] at e;cases e
   obtain⟨v,rfl,r1⟩:=rs.one_inv
   obtain⟨a,ws,g,rfl,h,hs,_⟩:=r1.lst_inv
   rw [tU hs e1] at h
   exact yI hc pins s σ H _ us Q I r ⟨a,bs,rfl,.inl h,q.now (.bl _)⟩
 ·cases e
def oO:tz6
 |[.lst _ xs]=>(D.ints xs).map fun ns=> .int ns.sum
 |_=>none
theorem wT(hc:X.calm=true):cM X (.builtin "sum") (PCl X.K κ oO):=by
 rintro pins s σ H vs us Q I r ⟨ds,fp,d,rs,e,q⟩
 unfold oO at e
 split at e
 ·rename_i xs
  cases e1:D.ints xs with
  |none=>rw [e1] at e;cases e
  |some bs=>
   rw [e1] at e;cases e
   obtain⟨v,rfl,r1⟩:=rs.one_inv
   obtain⟨a,ws,g,rfl,h,hs,_⟩:=r1.lst_inv
   rw [mK hs e1] at h
   exact yJ hc pins s σ H _ us Q I r ⟨a,bs,rfl,.inl h,q.now (.int _)⟩
 ·cases e
def PMt(K:tz0)(κ:tz9)(g:D->tz6):V->List V->Hp->VK->Prop:=fun x vs H Q=>∃dx ds fx fp d,Rep K κ H x dx fx/\Reps K κ H vs ds fp/\g dx ds=some d/\jM K κ H d Q
def zr6:D->Bool
 | .str _=>true
 |_=>false
def fMt(h:D->tz6)(f:tz2)(g:tz3):tz2:=fun ps=>(f ps).bind fun x=>(g ps).bind fun ds=>if zr6 x=true then h x ds else none
theorem wU{name:Str}{id:String}{apos:Pos}{h:D->tz6}(slot:Slot "str" name id)(hty:typeOf (.builtin id)=pure (.type "method_descriptor"))(hm:MtR X id (PMt X.K κ h))(ho:QV X κ a fa)(ha:QVA X κ (e::es) g)
  (hbase:attributeBase a name X.env (eval a X.env)=eval a X.env:=by rfl)
  (hfew:((backTo pos (starEach (e::es) X.env)).all (fun x=> !x.1)&&(backToKw pos (keywordEach [] X.env)).all (fun x=>x.1.isSome)
   &&decide ((e::es).length+([]:List Keyword).length+(if ([]:List Keyword).isEmpty then 0 else 1)<30))=true:=by rfl)
  (hline:(apos.endLine==pos.line)=true:=by rfl) (hs:starEach (e::es) X.env=(false,eval e X.env)::starEach es X.env:=by rfl) (hplain:(backTo pos (starEach es X.env)).any (·.1)=false:=by rfl):
  QP X κ (.Call (.Attribute a name apos) (e::es) [] pos) (fMt h fa g):=
 (wJ PySem.F.plainAttrs_str slot hty hm ho ha hbase hfew hline hs hplain).imp fun σ H Q hh_=>by
  obtain⟨ps,d,w,e,q⟩:=hh_
  obtain⟨x,e1,e2⟩:=bind_some e
  obtain⟨ds,e3,e4⟩:=bind_some e2
  obtain⟨hc,e5⟩:=cB e4
  refine⟨ps,x,w,e1,fun v H1 fp s1 r1=>⟨?_,ps,ds,w.same s1,e3,fun vs H2 fq s2 r2=>⟨x,ds,fp,fq,d,r1.same s2,r2,e5,q.after (s1.trans s2)⟩⟩⟩
  cases x with
  |str z=>rw [r1.is_str];rfl
  |_=>cases hc
def sR:D->tz6
 | .str z,[.str y]=>some (.int (Txt.find z y))
 |_,_=>none
theorem tW:MtR X "str.find" (PMt X.K κ sR):=by
 rintro pins s σ H x vs v us Q I rx r ⟨dx,ds,fx,fp,d,r1,rs,e,q⟩
 unfold sR at e
 split at e
 ·cases e
  obtain⟨w,rfl,r2⟩:=rs.one_inv
  exact zg0 pins s σ H x _ v us Q I rx r ⟨_,_,r1.is_str,by rw [r2.is_str],q.now (.int _)⟩
 ·cases e
def D.strs:List D->Option (List Str)
 |[]=>some []
 | .str b::ds=>(D.strs ds).map (b::·)
 |_::_=>none
end
structure Fx where
 K:tz0
 κ:tz9
 bor:Nat->Bool
 M:Nat->Bool
 B:Nat->Addr->Prop
structure RS(φ:Fx)(H:Hp)(σ:St)(ps:PSt)(F:Nat->List Addr):Prop where
 rep:∀(i:Nat) (d:D),ps[i]? =some (some d)->∃v fp,σ[i]? =some (some v)/\Rep φ.K φ.κ H v d fp/\(φ.bor i=false->fp=F i)/\(φ.bor i=true->∀a∈fp,φ.B i a)
 emp:∀i a,a∈F i->φ.bor i=false/\∃d,ps[i]? =some (some d)
 dis:∀i j a,a∈F i->a∈F j->i=j
 nd:∀i,(F i).Nodup
 nb:∀i a,a∈F i->∀k,¬φ.B k a
 bt:∀k a,φ.B k a->H a≠none
 len:ps.length<=σ.length
structure Frm(F:Nat->List Addr)(H H':Hp):Prop where
 keep:∀a o,H a=some o->kd o=true->(∀i,a∉F i)->H' a=some o
 grow:∀a,H' a=none->H a=none
structure Stp(φ:Fx)(σ:St)(H:Hp)(F:Nat->List Addr)(σ':St)(H':Hp)(ps':PSt)(F':Nat->List Addr):Prop where
 fr:Frm F H H'
 nw:∀i a,a∈F' i->(∃j,a∈F j)\/H a=none
 rs:RS φ H' σ' ps' F'
 msk:∀i,φ.M i=true->σ'[i]? =σ[i]?
structure OwnV(F:Nat->List Addr)(H:Hp)(F':Nat->List Addr)(fv:List Addr):Prop where
 nw:∀a∈fv,(∃j,a∈F j)\/H a=none
 nd:fv.Nodup
 dis:∀i,∀a∈F' i,a∉fv
section
variable{φ:Fx}{H H' H1 H2:Hp}{σ σ1 σ2:St}{ps ps1 ps2:PSt}{F F1 F2:Nat->List Addr}
theorem RS.own(R:RS φ H σ ps F){i:Nat}{a:Addr}(h:a∈F i):∃o,H a=some o/\kd o=true/\tf o=false:=by
 obtain⟨b,d,e⟩:=R.emp i a h
 obtain⟨v,fp,_,r,q,_⟩:=R.rep i d e
 rw [<-q b] at h
 exact r.own a h
theorem RS.ws(R:RS φ H σ ps F):WS φ.K φ.κ H σ ps:=fun i d h=>by
 obtain⟨v,fp,h1,h2,_⟩:=R.rep i d h
 exact⟨v,fp,h1,h2⟩
theorem RS.same(R:RS φ H σ ps F)(s:SameK H H'):RS φ H' σ ps F:=
 ⟨fun i d h=>by obtain⟨v,fp,h1,h2,h3⟩:=R.rep i d h;exact⟨v,fp,h1,h2.same s,h3⟩,R.emp,R.dis,R.nd,R.nb,fun k a h z=>R.bt k a h (s.grow a z),R.len⟩
theorem RS.notB(R:RS φ H σ ps F){a:Addr}(h:(∃j,a∈F j)\/H a=none):∀k,¬φ.B k a:=fun k hb=>h.elim (fun⟨j,hj⟩=>R.nb j a hj k hb) fun z=>R.bt k a hb z
theorem Stp.same(R:RS φ H σ ps F)(s:SameK H H'):Stp φ σ H F σ H' ps F:=
 ⟨⟨fun a o h k _=>s.keep a o h k,s.grow⟩,fun i a h=> .inl ⟨i,h⟩,R.same s,fun _ _=>rfl⟩
theorem Stp.refl(R:RS φ H σ ps F):Stp φ σ H F σ H ps F:= .same R (.refl H)
theorem Stp.trans(s1:Stp φ σ H F σ1 H1 ps1 F1)(s2:Stp φ σ1 H1 F1 σ2 H2 ps2 F2):Stp φ σ H F σ2 H2 ps2 F2:=by
 refine⟨⟨fun a o h k n=>s2.fr.keep a o (s1.fr.keep a o h k n) k fun i hi=> ?_,fun a h=>s1.fr.grow a (s2.fr.grow a h)⟩,fun i a h=> ?_,s2.rs,fun i h=>(s2.msk i h).trans (s1.msk i h)⟩
 ·rcases s1.nw i a hi with ⟨j,hj⟩|z
  ·exact n j hj
  ·rw [h] at z;cases z
 ·rcases s2.nw i a h with ⟨j,hj⟩|z
  ·exact s1.nw j a hj
  ·exact .inr (s1.fr.grow a z)
theorem OwnV.after{fv:List Addr}(s1:Stp φ σ H F σ1 H1 ps1 F1)(o:OwnV F1 H1 F2 fv):OwnV F H F2 fv:=
 ⟨fun a ha=>(o.nw a ha).elim (fun⟨j,hj⟩=>s1.nw j a hj) fun z=> .inr (s1.fr.grow a z),o.nd,o.dis⟩
theorem OwnV.new{fv:List Addr}(R:RS φ H σ ps F)(n:∀a∈fv,H a=none)(nd:fv.Nodup):OwnV F H F fv:=
 ⟨fun a ha=> .inr (n a ha),nd,fun i a ha hb=>by obtain⟨o,h,_⟩:=R.own ha;rw [n a hb] at h;cases h⟩
def jB(F:Nat->List Addr)(i:Nat)(fv:List Addr):Nat->List Addr:=fun j=>if j=i then fv else F j
theorem cH{i:Nat}{fv:List Addr}:jB F i fv i=fv:=by simp [jB]
theorem cF{i j:Nat}{fv:List Addr}(h:j≠i):jB F i fv j=F j:=by simp [jB,h]
theorem fK{i:Nat}{fv:List Addr}{j:Nat}{a:Addr}(h:a∈jB F i fv j):a∈fv\/a∈F j:=by
 by_cases e:j=i
 ·subst e;rw [cH] at h;exact .inl h
 ·rw [cF e] at h;exact .inr h
theorem RS.drop(R:RS φ H σ ps F)(i:Nat):RS φ H σ (ps.set i none) (jB F i []):=by
 have eF:∀j a,a∈jB F i [] j->j≠i/\a∈F j:=fun j a h=>by
  by_cases e:j=i
  ·subst e;rw [cH] at h;exact absurd h (by simp)
  ·rw [cF e] at h;exact⟨e,h⟩
 refine⟨fun j d h=> ?_,fun j a h=> ?_,fun j k a h1 h2=>R.dis j k a (eF j a h1).2 (eF k a h2).2,fun j=> ?_,fun j a h=>R.nb j a (eF j a h).2,R.bt,by simpa using R.len⟩
 ·have e:j≠i:=by
   rintro rfl
   by_cases hj:j<ps.length
   ·rw [List.getElem?_set_self hj] at h;cases h
   ·rw [List.getElem?_eq_none (by simpa using hj)] at h;cases h
  rw [List.getElem?_set_ne (fun z=>e z.symm)] at h
  rw [cF e]
  exact R.rep j d h
 ·obtain⟨e,h⟩:=eF j a h
  obtain⟨b,d,q⟩:=R.emp j a h
  exact⟨b,d,by rw [List.getElem?_set_ne (fun z=>e z.symm)];exact q⟩
 ·by_cases e:j=i
  ·subst e;rw [cH];exact List.nodup_nil
  ·rw [cF e];exact R.nd j
theorem RS.set(R:RS φ H σ ps F){i:Nat}{v:V}{d:D}{fv:List Addr}(r:Rep φ.K φ.κ H v d fv)(hb:φ.bor i=false\/fv=[])(hd:∀j,j≠i->∀a∈F j,a∉fv)(hn:fv.Nodup)(hB:∀a∈fv,∀k,¬φ.B k a):
  RS φ H (σ.set i (some v)) (ps.set i (some d)) (jB F i (if i<ps.length then fv else [])):=by
 by_cases hi:i<ps.length
 ·rw [if_pos hi]
  have hl:=R.len
  refine⟨fun j d' h=> ?_,fun j a h=> ?_,fun j k a h1 h2=> ?_,fun j=> ?_,fun j a h=> ?_,R.bt,by simpa using R.len⟩
  ·by_cases e:j=i
   ·subst e
    rw [List.getElem?_set_self hi] at h
    cases h
    refine⟨v,fv,by rw [List.getElem?_set_self (by omega)],r,fun _=>cH.symm,fun z=> ?_⟩
    rcases hb with q|q
    ·rw [q] at z;cases z
    ·subst q;intro a ha;exact absurd ha (by simp)
   ·rw [List.getElem?_set_ne (fun z=>e z.symm)] at h|-
    rw [cF e]
    exact R.rep j d' h
  ·by_cases e:j=i
   ·subst e
    rw [cH] at h
    refine⟨?_,d,by rw [List.getElem?_set_self hi]⟩
    rcases hb with q|q
    ·exact q
    ·subst q;exact absurd h (by simp)
   ·rw [cF e] at h
    obtain⟨b,d',q⟩:=R.emp j a h
    exact⟨b,d',by rw [List.getElem?_set_ne (fun z=>e z.symm)];exact q⟩
  ·by_cases e1:j=i
   ·by_cases e2:k=i
    ·rw [e1,e2]
    ·subst e1;rw [cH] at h1;rw [cF e2] at h2;exact absurd h1 (hd k e2 a h2)
   ·by_cases e2:k=i
    ·subst e2;rw [cH] at h2;rw [cF e1] at h1;exact absurd h2 (hd j e1 a h1)
    ·rw [cF e1] at h1;rw [cF e2] at h2;exact R.dis j k a h1 h2
  ·by_cases e:j=i
   ·subst e;rw [cH];exact hn
   ·rw [cF e];exact R.nd j
  ·rcases fK h with z|z
   ·exact hB a z
   ·exact R.nb j a z
 ·rw [if_neg hi]
  have e0:ps.set i (some d)=ps:=List.set_eq_of_length_le (by omega)
  rw [e0]
  have R':=R.drop i
  rw [List.set_eq_of_length_le (by omega)] at R'
  refine⟨fun j d' h=> ?_,R'.emp,R'.dis,R'.nd,R'.nb,R'.bt,by simpa using R.len⟩
  have hj:j≠i:=by
   rintro rfl
   have:=(List.getElem?_eq_some_iff.mp h).1
   omega
  rw [List.getElem?_set_ne (fun z=>hj z.symm)]
  exact R'.rep j d' h
theorem Stp.set{fv:List Addr}{i:Nat}{v:V}{d:D}(s1:Stp φ σ H F σ1 H1 ps1 F1)(o:OwnV F H F1 fv)(R:RS φ H σ ps F)(r:Rep φ.K φ.κ H1 v d fv)(hb:φ.bor i=false\/fv=[])(hm:φ.M i=false):
  ∃F',Stp φ σ H F (σ1.set i (some v)) H1 (ps1.set i (some d)) F':=by
 refine⟨_,s1.fr,fun j a h=> ?_,s1.rs.set r hb (fun j _=>o.dis j) o.nd fun a ha=>R.notB (o.nw a ha),fun j h=> ?_⟩
 ·rcases fK h with z|z
  ·by_cases k:i<ps1.length
   ·rw [if_pos k] at z;exact o.nw a z
   ·rw [if_neg k] at z;exact absurd z (by simp)
  ·exact s1.nw j a z
 ·rw [List.getElem?_set_ne (fun z=>by subst z;rw [hm] at h;cases h)]
  exact s1.msk j h
end
inductive Fl where
 |nx|bk|ct|ret (d:D)
abbrev _root_.tz1:=PSt->Option (Fl×PSt)
def pH(φ:Fx)(E:Ends)(σ:St)(H:Hp)(F:Nat->List Addr)(fl:Fl)(ps':PSt):Prop:=match fl with
 | .nx=>∀σ' H' F',Stp φ σ H F σ' H' ps' F'->E.nx σ' H'
 | .bk=>∀σ' H' F',Stp φ σ H F σ' H' ps' F'->E.bk σ' H'
 | .ct=>∀σ' H' F',Stp φ σ H F σ' H' ps' F'->E.ct σ' H'
 | .ret d=>∀v σ' H' F' fv,Stp φ σ H F σ' H' ps' F'->OwnV F H F' fv->Rep φ.K φ.κ H' v d fv->E.rt v H'
def tS(φ:Fx)(f:tz1):TS:=fun E σ H=>∃ps F fl ps',RS φ H σ ps F/\f ps=some (fl,ps')/\pH φ E σ H F fl ps'
def tE(φ:Fx)(f:tz8):TE:=fun σ H Q=>∃ps F d ps',RS φ H σ ps F/\f ps=some (d,ps')/\∀v H' F' fv,Stp φ σ H F σ H' ps' F'->OwnV F H F' fv->Rep φ.K φ.κ H' v d fv->Q v H'
def tTE(φ:Fx)(f:PSt->Option (Bool×PSt)):TT:=fun σ H Q=>∃ps F b ps',RS φ H σ ps F/\f ps=some (b,ps')/\∀H' F',Stp φ σ H F σ H' ps' F'->Q b H'
structure F0 where
 bor:Nat->Bool
 M:Nat->Bool
 B:Nat->Addr->Prop
def F0.fx(φ:F0)(K:tz0)(κ:tz9):Fx:=⟨K,κ,φ.bor,φ.M,φ.B⟩
abbrev QS(X:Cx)(κ:tz9)(φ:F0)(st:Stmt)(f:tz1):Prop:=PS X st (tS (φ.fx X.K κ) f)
abbrev QSs(X:Cx)(κ:tz9)(φ:F0)(st:List Stmt)(f:tz1):Prop:=PSs X st (tS (φ.fx X.K κ) f)
abbrev QE(X:Cx)(κ:tz9)(φ:F0)(e:Expr)(f:tz8):Prop:=PE X e (tE (φ.fx X.K κ) f)
abbrev QTE(X:Cx)(κ:tz9)(φ:F0)(e:Expr)(f:PSt->Option (Bool×PSt)):Prop:=PT X e (tTE (φ.fx X.K κ) f)
theorem pO{φ:Fx}{f:tz1}{E:Ends}{σ σ1:St}{H H1:Hp}{F F1:Nat->List Addr}{ps1 ps2:PSt}{fl:Fl}(s1:Stp φ σ H F σ1 H1 ps1 F1)(e:f ps1=some (fl,ps2))(q:pH φ E σ H F fl ps2):tS φ f E σ1 H1:=by
 refine⟨ps1,F1,fl,ps2,s1.rs,e,?_⟩
 cases fl with
 |nx=>exact fun σ' H' F' s=>q σ' H' F' (s1.trans s)
 |bk=>exact fun σ' H' F' s=>q σ' H' F' (s1.trans s)
 |ct=>exact fun σ' H' F' s=>q σ' H' F' (s1.trans s)
 |ret d=>exact fun v σ' H' F' fv s o r=>q v σ' H' F' fv (s1.trans s) (o.after s1) r
def bK:tz1:=fun ps=>some (.nx,ps)
def aR(f g:tz1):tz1:=fun ps=>(f ps).bind fun r=>match r with
 |(.nx,ps')=>g ps'
 |(.bk,ps')=>some (.bk,ps')
 |(.ct,ps')=>some (.ct,ps')
 |(.ret d,ps')=>some (.ret d,ps')
section
variable{X:Cx}{κ:tz9}{φ:F0}{st:Stmt}{bC:List Stmt}{f g:tz1}{pos:Pos}
theorem bS:QSs X κ φ [] bK:=vJ.imp fun E σ H ⟨ps,F,fl,ps',R,e,q⟩=>by cases e;exact q σ H F (.refl R)
theorem aS(h:QS X κ φ st f):QSs X κ φ [st] f:=oZ h
theorem aM(h1:QS X κ φ st f)(h2:QSs X κ φ bC g):QSs X κ φ (st::bC) (aR f g):=
 (jV h1 h2).imp fun E σ H hh_=>by
  obtain⟨ps,F,fl,ps',R,e,q⟩:=hh_
  obtain⟨⟨fl1,ps1⟩,e1,e2⟩:=bind_some e
  refine⟨ps,F,fl1,ps1,R,e1,?_⟩
  cases fl1 with
  |nx=>exact fun σ' H' F' s=>pO s e2 q
  |bk=>cases e2;exact q
  |ct=>cases e2;exact q
  |ret d=>cases e2;exact q
def aL(f:tz2):tz8:=fun ps=>(f ps).bind fun d=>some (d,ps)
theorem QP.e{e:Expr}{f:tz2}(h:PE X e (tP X.K κ f)):QE X κ φ e (aL f):=h.imp fun σ H Q hh_=>by
 obtain⟨ps,F,d,ps',R,e,q⟩:=hh_
 obtain⟨d1,e1,e2⟩:=bind_some e
 cases e2
 exact⟨ps,_,R.ws,e1,fun v H' fv s n nd r=>q v H' F fv (.same R s) (.new R n nd) r⟩
def aT(f:tz4):PSt->Option (Bool×PSt):=fun ps=>(f ps).bind fun d=>some (d,ps)
theorem QT.e{e:Expr}{f:tz4}(h:PT X e (tQ X.K κ f)):QTE X κ φ e (aT f):=h.imp fun σ H Q hh_=>by
 obtain⟨ps,F,d,ps',R,e,q⟩:=hh_
 obtain⟨d1,e1,e2⟩:=bind_some e
 cases e2
 exact⟨ps,_,R.ws,e1,fun H' s=>q H' F (.same R s)⟩
def aX(i:Nat)(f:tz8):tz1:=fun ps=>(f ps).bind fun r=>some (.nx,r.2.set i (some r.1))
theorem bO(i:Nat){x:Str}{e:Expr}{pos':Pos}{f:tz8}(hN:X.N.Nodup)(hi:X.N[i]? =some x)(hx:Loc X.env.scope x)(hb:φ.bor i=false)(hm:φ.M i=false)(he:QE X κ φ e f)(hs:swapsWith e (some (.Name x pos')) pos.line X.env=pure false:=by rfl)(hf:X.fn x=true\/X.env.scope.names.lookup x=some .local:=by first|exact .inl rfl|exact .inr rfl|assumption):
  QS X κ φ (.Assign [.Name x pos'] e pos) (aX i f):=(mH hN hi hx he hs hf).imp fun E σ H hh_=>by
 obtain⟨ps,F,fl,ps',R,e,q⟩:=hh_
 obtain⟨⟨d,ps1⟩,e1,e2⟩:=bind_some e
 cases e2
 refine⟨ps,F,d,ps1,R,e1,fun v H' F' fv s o r=> ?_⟩
 obtain⟨F2,s2⟩:=s.set o R r (.inl hb) hm (i:=i)
 exact q _ _ F2 s2
def jS(i:Nat)(f:tz8):tz1:=fun ps=>(f ps).bind fun r=>if r.1.imm=true then some (.nx,r.2.set i (some r.1)) else none
def cP(f:tz8):tz1:=fun ps=>(f ps).bind fun r=>some (.nx,r.2)
theorem jK{e:Expr}{f:tz8}(he:QE X κ φ e f)(hs:swapsWith e none pos.line X.env=pure false:=by rfl):QS X κ φ (.Expr e pos) (cP f):=(zf1 he hs).imp fun E σ H hh_=>by
 obtain⟨ps,F,fl,ps',R,e,q⟩:=hh_
 obtain⟨⟨d,ps1⟩,e1,e2⟩:=bind_some e
 cases e2
 exact⟨ps,F,d,ps1,R,e1,fun v H' F' fv s o r=>q _ _ F' s⟩
def bI(f:tz8):tz1:=fun ps=>(f ps).bind fun r=>some (.ret r.1,r.2)
theorem bM{e:Expr}{f:tz8}(he:QE X κ φ e f):QS X κ φ (.Return (some e) pos) (bI f):=(nW he).imp fun E σ H hh_=>by
 obtain⟨ps,F,fl,ps',R,e,q⟩:=hh_
 obtain⟨⟨d,ps1⟩,e1,e2⟩:=bind_some e
 cases e2
 exact⟨ps,F,d,ps1,R,e1,fun v H' F' fv s o r=>q v σ H' F' fv s o r⟩
def jT:tz1:=fun ps=>some (.ret .non,ps)
def gL(i:Nat):tz1:=fun ps=>((ps[i]?).join).bind fun d=>some (.ret d,ps.set i none)
theorem join_some{ps:PSt}{i:Nat}{d:D}(h:(ps[i]?).join=some d):ps[i]? =some (some d):=by
 cases q:ps[i]? with
 |none=>rw [q] at h;cases h
 |some o=>rw [q] at h;exact congrArg some h
theorem mM(i:Nat){x:Str}{p:Pos}(hb:φ.bor i=false)(hN:X.N[i]? =some x:=by rfl)(hv:Vis X.env.scope x:=by first|exact Or.inl rfl|exact Or.inr (Or.inl rfl)|exact Or.inr (Or.inr rfl))(hd:(x==("__debug__":Str))=false:=by decide)
  (hcd:(x==("__classdict__":Str))=false:=by decide):QS X κ φ (.Return (some (.Name x p)) pos) (gL i):=(nW (lK hN hv hd hcd)).imp fun E σ H hh_=>by
 obtain⟨ps,F,fl,ps',R,e,q⟩:=hh_
 obtain⟨d,e1,e2⟩:=bind_some e
 cases e2
 obtain⟨v,fp,h1,h2,h3,_⟩:=R.rep i d (join_some e1)
 have h3:=h3 hb
 subst h3
 refine⟨v,h1,q v σ H (jB F i []) (F i) ⟨⟨fun a o h _ _=>h,fun a h=>h⟩,fun j a h=> ?_,R.drop i,fun _ _=>rfl⟩ ⟨fun a h=> .inl ⟨i,h⟩,R.nd i,fun j a h1 h2=> ?_⟩ h2⟩
 ·rcases fK h with z|z
  ·exact absurd z (by simp)
  ·exact .inl ⟨j,z⟩
 ·rcases fK h1 with z|z
  ·exact absurd z (by simp)
  ·have:=R.dis j i a z h2
   subst this
   rw [cH] at h1;exact absurd h1 (by simp)
def fIf(c:PSt->Option (Bool×PSt))(f g:tz1):tz1:=fun ps=>(c ps).bind fun r=>if r.1=true then f r.2 else g r.2
theorem cI{c:Expr}{a b:List Stmt}{tc:PSt->Option (Bool×PSt)}(hc:QTE X κ φ c tc)(ha:QSs X κ φ a f)(hb:QSs X κ φ b g):QS X κ φ (.If c a b pos) (fIf tc f g):=(zd2 hc ha hb).imp fun E σ H hh_=>by
 obtain⟨ps,F,fl,ps',R,e,q⟩:=hh_
 obtain⟨⟨k,ps1⟩,e1,e2⟩:=bind_some e
 refine⟨ps,F,k,ps1,R,e1,fun H' F' s=> ?_⟩
 cases k with
 |true=>rw [if_pos rfl] at e2|-;exact pO s e2 q
 |false=>rw [if_neg Bool.false_ne_true] at e2|-;exact pO s e2 q
end
def eN(c:PSt->Option (Bool×PSt))(f:tz1):Nat->tz1
 |0,_=>none
 | n+1,ps=>(c ps).bind fun r=>if r.1=true then(f r.2).bind fun q=>match q with
   |(.nx,p)=>eN c f n p
   |(.ct,p)=>eN c f n p
   |(.bk,p)=>some (.nx,p)
   |(.ret d,p)=>some (.ret d,p)
  else some (.nx,r.2)
section
variable{X:Cx}{φ:Fx}{pos:Pos}{body:List Stmt}{f:tz1}
theorem pH.back{E:Ends}{σ σ1:St}{H H1:Hp}{F F1:Nat->List Addr}{ps1 ps2:PSt}{fl:Fl}(s1:Stp φ σ H F σ1 H1 ps1 F1)(q:pH φ E σ H F fl ps2):pH φ E σ1 H1 F1 fl ps2:=by
 cases fl with
 |nx=>exact fun σ' H' F' s=>q σ' H' F' (s1.trans s)
 |bk=>exact fun σ' H' F' s=>q σ' H' F' (s1.trans s)
 |ct=>exact fun σ' H' F' s=>q σ' H' F' (s1.trans s)
 |ret d=>exact fun v σ' H' F' fv s o r=>q v σ' H' F' fv (s1.trans s) (o.after s1) r
def zu8(φ:Fx)(σ:St)(H:Hp)(F:Nat->List Addr)(tc:PSt->Option (Bool×PSt))(f:tz1)(fl:Fl)(ps':PSt)(m:Nat)(σ1:St)(H1:Hp):Prop:=∃ps1 F1,Stp φ σ H F σ1 H1 ps1 F1/\eN tc f m ps1=some (fl,ps')
theorem nA{κ:tz9}{φ:F0}(n:Nat){c:Expr}{tc:PSt->Option (Bool×PSt)}(hp:PassesOwn (model X.prog X.w) X.A X.env X.xe)(hc:QTE X κ φ c tc)(hb:QSs X κ φ body f):QS X κ φ (.While c body [] pos) (eN tc f n):=
 (zS hp hc hb).imp fun E σ H hh_=>by
  obtain⟨ps,F,fl,ps',R,e,q⟩:=hh_
  refine⟨zu8 (φ.fx X.K κ) σ H F tc f fl ps',⟨n,ps,F,.refl R,e⟩,?_⟩
  rintro m σ1 H1 ⟨ps1,F1,s1,e1⟩
  cases m with
  |zero=>cases e1
  | succ m=>
   rw [eN] at e1
   obtain⟨⟨k,ps2⟩,e2,e3⟩:=bind_some e1
   refine⟨ps1,F1,k,ps2,s1.rs,e2,fun H2 F2 s2=> ?_⟩
   have s12:=s1.trans s2
   cases k with
   |true=>
    dsimp only at e3|-
    rw [if_pos rfl] at e3|-
    obtain⟨⟨fl3,ps3⟩,e4,e5⟩:=bind_some e3
    refine⟨fun σ' H'=>∃F',Stp (φ.fx X.K κ) σ1 H2 F2 σ' H' ps3 F'/\eN tc f m ps3=some (fl,ps'),fun σ' H' ⟨F',s,e⟩=>⟨m,Nat.lt_succ_self m,ps3,F',s12.trans s,e⟩,?_⟩
    refine⟨ps2,F2,fl3,ps3,s2.rs,e4,?_⟩
    cases fl3 with
    |nx=>exact fun σ' H' F' s=>⟨F',s,e5⟩
    |ct=>exact fun σ' H' F' s=>⟨F',s,e5⟩
    |bk=>cases e5;exact fun σ' H' F' s=>q σ' H' F' (s12.trans s)
    |ret d=>cases e5;exact fun v σ' H' F' fv s o r=>q v σ' H' F' fv (s12.trans s) (o.after s12) r
   |false=>
    dsimp only at e3|-
    rw [if_neg Bool.false_ne_true] at e3|-
    cases e3
    exact q _ _ F2 s12
end
def nL(Z:List Addr)(H H':Hp):Prop:=∀a o,H a=some o->(tf o=true\/(kd o=true/\a∈Z))->H' a=some o
structure Walk(K:tz0)(κ:tz9)(J:It)(Z:List Addr)(H1:Hp)(ds:List D):Prop where
 go:∀H',nL Z H1 H'->∀(i:Nat) d,ds[i]? =some d->J.go i H'/\∀x H2,J.yld i H' x H2->H2=H'/\Rep K κ H' x d []
 stop:∀H',nL Z H1 H'->J.stop ds.length H'
def tIV(K:tz0)(κ:tz9)(f:tz3):TI:=fun σ H R=>∃ps ds,WS K κ H σ ps/\f ps=some ds/\∀J H1 Z,SameK H H1->Walk K κ J Z H1 ds->R J H1
def tIP(K:tz0)(κ:tz9)(f:tz3):TI:=fun σ H R=>∃ps ds,WS K κ H σ ps/\f ps=some ds/\∀J H1 Z,SameK H H1->(∀a∈Z,H a=none/\H1 a≠none)->Walk K κ J Z H1 ds->R J H1
theorem nL.sq{K:tz0}{Z:List Addr}{H H':Hp}{a:Addr}{vs:List V}(k:nL Z H H')(h:Rd H a (.lst vs))(hz:H a=some (.lst vs)->a∈Z):SqL K H' a vs:=by
 rcases h with h|⟨o,h⟩
 ·exact .inl (.inl (k a _ h (.inr ⟨rfl,hz h⟩)))
 ·exact .inl (.inr ⟨o,k a _ h (.inl rfl)⟩)
theorem nL.rep{K:tz0}{κ:tz9}{Z:List Addr}{H H':Hp}{v:V}{d:D}(k:nL Z H H')(r:Rep K κ H v d []):Rep K κ H' v d []:=r.move (fun a o h t=>k a o h (.inl t)) fun a ha=>absurd ha (by simp)
theorem nB{α β:Type}{R:α->β->Prop}:∀{l₁:List α} {l₂:List β} {i:Nat} {y:β},Paired R l₁ l₂->l₂[i]? =some y->∃x,l₁[i]? =some x/\R x y
 |_,_,_,_,.nil,e=>by simp at e
 |_,_,0,_,.cons h _,e=>by simp at e;subst e;exact⟨_,rfl,h⟩
 |_,_,i+1,_,.cons _ t,e=>by obtain⟨x,h1,h2⟩:=nB (i:=i) t (by simpa using e);exact⟨x,by simpa using h1,h2⟩
section
variable{K:tz0}{κ:tz9}{H1:Hp}{a:Addr}{vs:List V}{ds:List D}{Z:List Addr}
theorem rZ(h:Rd H1 a (.lst vs))(hz:H1 a=some (.lst vs)->a∈Z)(r:Paired (fun v d=>Rep K κ H1 v d []) vs ds):Walk K κ (Itl K a) Z H1 ds where
 go:=fun H' k i d e=>by
  obtain⟨x,e1,r1⟩:=nB r e
  have sq:SqL K H' a vs:=k.sq h hz
  refine⟨⟨vs,x,sq,e1⟩,fun y H2 hy=>⟨hy.1,?_⟩⟩
  have e2:=hy.2 vs sq
  rw [e1] at e2;cases e2
  exact k.rep r1
 stop:=fun H' k=>⟨vs,k.sq h hz,by rw [Paired.length r];exact Nat.le_refl _⟩
theorem za7(h:SqF K H1 a vs)(r:Paired (fun v d=>Rep K κ H1 v d []) vs ds):Walk K κ (Itl K a) Z H1 ds where
 go:=fun H' k i d e=>by
  obtain⟨x,e1,r1⟩:=nB r e
  have sq:SqL K H' a vs:=(h.tf fun a o e t=>k a o e (.inl t)).l
  refine⟨⟨vs,x,sq,e1⟩,fun y H2 hy=>⟨hy.1,?_⟩⟩
  have e2:=hy.2 vs sq
  rw [e1] at e2;cases e2
  exact k.rep r1
 stop:=fun H' k=>⟨vs,(h.tf fun a o e t=>k a o e (.inl t)).l,by rw [Paired.length r];exact Nat.le_refl _⟩
theorem za8(h:SqT K H1 a vs)(r:Paired (fun v d=>Rep K κ H1 v d []) vs ds):Walk K κ (Itt K a) Z H1 ds where
 go:=fun H' k i d e=>by
  obtain⟨x,e1,r1⟩:=nB r e
  have sq:SqT K H' a vs:=h.tf fun a o e t=>k a o e (.inl t)
  refine⟨⟨vs,x,sq,e1⟩,fun y H2 hy=>⟨hy.1,?_⟩⟩
  have e2:=hy.2 vs sq
  rw [e1] at e2;cases e2
  exact k.rep r1
 stop:=fun H' k=>⟨vs,h.tf fun a o e t=>k a o e (.inl t),by rw [Paired.length r];exact Nat.le_refl _⟩
end
def gM(lo:Int)(n:Nat):List D:=(List.range n).map fun(k:Nat)=> .int (lo+(k:Int))
theorem qE{K:tz0}{κ:tz9}{H1:Hp}{Z:List Addr}(lo:Int)(n:Nat):Walk K κ (Itr lo n) Z H1 (gM lo n) where
 go:=fun H' _ i d e=>by
  have hi:=(List.getElem?_eq_some_iff.mp e).1
  unfold gM at hi e
  rw [List.length_map,List.length_range] at hi
  rw [List.getElem?_map,List.getElem?_range hi] at e
  cases e
  exact⟨hi,fun x H2 ⟨h1,h2⟩=>⟨h1,by rw [h2];exact .int _⟩⟩
 stop:=fun H' _=>by
  show n<=(gM lo n).length
  unfold gM
  rw [List.length_map,List.length_range];exact Nat.le_refl _
abbrev QIV(X:Cx)(κ:tz9)(tg iter:Expr)(f:tz3):Prop:=PI X tg iter (tIV X.K κ f)
abbrev QIP(X:Cx)(κ:tz9)(tg iter:Expr)(f:tz3):Prop:=PI X tg iter (tIP X.K κ f)
theorem PI.imp{X:Cx}{tg e:Expr}{t t':TI}(h:PI X tg e t)(k:∀σ H Q,t' σ H Q->t σ H Q):PI X tg e t':=fun pins s σ H Q I q=>h pins s σ H Q I (k σ H Q q)
theorem QIP.v{X:Cx}{κ:tz9}{tg iter:Expr}{f:tz3}(h:QIP X κ tg iter f):QIV X κ tg iter f:=PI.imp h fun σ H R ⟨ps,ds,w,e,q⟩=>⟨ps,ds,w,e,fun J H1 Z s _ k=>q J H1 Z s k⟩
section
variable{X:Cx}{κ:tz9}{tg l a b:Expr}{f:tz2}{g:tz3}{p pos:Pos}
def gN:List D->Option (List D)
 |[.int j]=>if (-(2^62)<=j/\j<2^62) then some (gM 0 j.toNat) else none
 |_=>none
def gW:List D->Option (List D)
 |[.int i,.int j]=>if (-(2^62)<=i/\i<2^62/\ -(2^62)<=j/\j<2^62) then some (gM i (j-i).toNat) else none
 |_=>none
def eW(g:tz3):tz3:=fun ps=>(g ps).bind gN
def gG(g:tz3):tz3:=fun ps=>(g ps).bind gW
theorem kW(hg:Gl X "range")(hm:X.mg "range"=none)(ha:QVA X κ [a] g)(hs:starEach [a] X.env=[(false,eval a X.env)]:=by rfl):QIP X κ tg (.Call (.Name "range" p) [a] [] pos) (eW g):=
 PI.imp (xO hg hm ha hs) fun σ H R hh_=>by
  obtain⟨ps,ds,w,e,q⟩:=hh_
  obtain⟨as,e1,e2⟩:=bind_some e
  refine⟨ps,as,w,e1,fun vs H1 fp s1 r1=> ?_⟩
  unfold gN at e2
  split at e2
  ·obtain⟨hc,e3⟩:=cB e2
   cases e3
   obtain⟨v,rfl,r⟩:=r1.one_inv
   exact⟨_,by rw [r.is_int],hc.1,hc.2,q _ H1 [] s1 (fun _ h=>absurd h (by simp)) (qE _ _)⟩
  ·cases e2
theorem nZ(hg:Gl X "range")(hm:X.mg "range"=none)(ha:QVA X κ [a,b] g)(hs:starEach [a,b] X.env=[(false,eval a X.env),(false,eval b X.env)]:=by rfl)(hs2:starEach [b] X.env=[(false,eval b X.env)]:=by rfl):QIP X κ tg (.Call (.Name "range" p) [a,b] [] pos) (gG g):=
 PI.imp (xP hg hm ha hs hs2) fun σ H R hh_=>by
  obtain⟨ps,ds,w,e,q⟩:=hh_
  obtain⟨as,e1,e2⟩:=bind_some e
  refine⟨ps,as,w,e1,fun vs H1 fp s1 r1=> ?_⟩
  unfold gW at e2
  split at e2
  ·obtain⟨hc,e3⟩:=cB e2
   cases e3
   obtain⟨v,u,f,g,rfl,r,r'⟩:=r1.two_inv
   exact⟨_,_,by rw [r.is_int,r'.is_int],hc,q _ H1 [] s1 (fun _ h=>absurd h (by simp)) (qE _ _)⟩
  ·cases e2
def zo2(K:tz0)(tl:TE):TI:=fun σ H R=>tl σ H fun x H1=>∃a,x= .ref a/\(((∃xs,SqL K H1 a xs)/\R (Itl K a) H1)\/((∃xs,SqT K H1 a xs)/\R (Itt K a) H1))
theorem qF{tl:TE}(hl:PE X l tl):PI X tg l (zo2 X.K tl):=by
 intro pins s σ H R I h
 refine thn (hl pins s σ H _ I h) fun v s1 ⟨x,H1,I1,r1,q1⟩=> ?_
 obtain⟨a,e,q1⟩:=q1
 subst e
 cases r1
 rcases q1 with ⟨⟨xs,hq⟩,q⟩|⟨⟨xs,hq⟩,q⟩
 ·obtain⟨its,rv,p,hz⟩:=I1.list hq
  refine wpAny_pyIter_list p.isList ?_
  refine⟨s1.heap.objs.size,[s1.heap.objs.size],_,_,H1,rfl,I1.kept (t':=s1.toks) fun b o e=>Heap.get?_push_of_some _ e,xN a _,⟨_,Heap.get?_push_size _ rfl,rfl,rfl⟩,fun b hb=> ?_,q⟩
  have e:b=s1.heap.objs.size:=by simpa using hb
  subst e
  exact I1.fpOk (Nat.le_refl _) (I1.hok.fresh (Nat.le_refl _))
 ·obtain⟨its,rv,p,hz⟩:=I1.tuple hq
  refine wpAny_pyIter_tuple (show s1.heap.IsTuple a its.toArray from p) ?_
  refine⟨s1.heap.objs.size,[s1.heap.objs.size],_,_,H1,rfl,I1.kept (t':=s1.toks) fun b o e=>Heap.get?_push_of_some _ e,wB a _,⟨_,Heap.get?_push_size _ rfl,rfl,rfl⟩,fun b hb=> ?_,q⟩
  have e:b=s1.heap.objs.size:=by simpa using hb
  subst e
  exact I1.fpOk (Nat.le_refl _) (I1.hok.fresh (Nat.le_refl _))
def iN:D->Option (List D)
 | .lst _ xs=>if D.imms xs=true then some xs else none
 | .tup xs=>some xs
 | .con xs=>some xs
 |_=>none
theorem pC{K:tz0}{H:Hp}{v:V}{d:D}{fp:List Addr}{ds:List D}{R:It->Hp->Prop}(r:Rep K κ H v d fp)(e:iN d=some ds)(q:∀J Z,(∀a∈Z,a∈fp)->Walk K κ J Z H ds->R J H):
  ∃a,v= .ref a/\(((∃xs,SqL K H a xs)/\R (Itl K a) H)\/((∃xs,SqT K H a xs)/\R (Itt K a) H)):=by
 cases d with
 |lst o xs=>
  obtain⟨hc,e⟩:=cB e
  cases e
  cases r with
  |lst h hs=>exact⟨_,rfl,.inl ⟨⟨_,.inl (.inl h)⟩,q _ [_] (fun a ha=>by simp at ha;subst ha;exact List.mem_cons_self) (rZ (.inl h) (fun _=>by simp) (hs.pair hc))⟩⟩
  |lstF h hs=>exact⟨_,rfl,.inl ⟨⟨_,.inl (.inr ⟨_,h⟩)⟩,q _ [] (fun a ha=>absurd ha (by simp)) (rZ (.inr ⟨_,h⟩) (fun z=>by rw [h] at z;cases z) (hs.pair hc))⟩⟩
 |tup xs=>
  cases e
  obtain⟨a,vs,rfl,h,hs⟩:=r.tup_inv
  exact⟨a,rfl,.inr ⟨⟨_,h⟩,q _ [] (fun a ha=>absurd ha (by simp)) (za8 h hs.nilp)⟩⟩
 |con xs=>
  cases e
  obtain⟨a,vs,rfl,h,hs⟩:=r.con_inv
  exact⟨a,rfl,.inl ⟨⟨_,h.l⟩,q _ [] (fun a ha=>absurd ha (by simp)) (za7 h hs.nilp)⟩⟩
 |_=>cases e
def cK(f:tz2):tz3:=fun ps=>(f ps).bind iN
theorem tX(h:QP X κ l f):QIP X κ tg l (cK f):=PI.imp (qF h) fun σ H R hh_=>by
 obtain⟨ps,ds,w,e,q⟩:=hh_
 obtain⟨d,e1,e2⟩:=bind_some e
 exact⟨ps,d,w,e1,fun v H1 fv s1 n1 nd1 r1=>pC r1 e2 fun J Z hz k=>q J H1 Z s1 (fun a ha=>⟨n1 a (hz a ha),fun z=>by obtain⟨o,h,_⟩:=r1.own a (hz a ha);rw [z] at h;cases h⟩) k⟩
theorem oA(h:QV X κ l f):QIV X κ tg l (cK f):=PI.imp (qF h) fun σ H R hh_=>by
 obtain⟨ps,ds,w,e,q⟩:=hh_
 obtain⟨d,e1,e2⟩:=bind_some e
 exact⟨ps,d,w,e1,fun v H1 fv s1 r1=>pC r1 e2 fun J Z _ k=>q J H1 Z s1 k⟩
def oP(z:Str):List D:=z.cps.toList.map fun c=> .str ⟨#[c]⟩
theorem za9{K:tz0}{H1:Hp}{Z:List Addr}(z:Str):Walk K κ (Its z) Z H1 (oP z) where
 go:=fun H' _ i d e=>by
  have hi:=(List.getElem?_eq_some_iff.mp e).1
  unfold oP at hi e
  rw [List.length_map,Array.length_toList] at hi
  rw [List.getElem?_map,Array.getElem?_toList,Array.getElem?_eq_getElem hi] at e
  cases e
  refine⟨hi,fun x H2 ⟨h1,c,h2,h3⟩=>⟨h1,?_⟩⟩
  rw [Array.getElem?_eq_getElem hi] at h2
  cases h2
  rw [h3];exact .str _
 stop:=fun H' _=>by
  show z.cps.size<=(oP z).length
  unfold oP
  rw [List.length_map,Array.length_toList];exact Nat.le_refl _
def uX:D->Option (List D)
 | .str z=>if z.cps.all (·<128)=true then some (oP z) else none
 |_=>none
def mU(f:tz2):tz3:=fun ps=>(f ps).bind uX
theorem tY(h:QV X κ l f):QIP X κ tg l (mU f):=PI.imp (zl2 h) fun σ H R hh_=>by
 obtain⟨ps,ds,w,e,q⟩:=hh_
 obtain⟨d,e1,e2⟩:=bind_some e
 cases d with
 |str z=>
  obtain⟨hc,e3⟩:=cB e2
  cases e3
  exact⟨ps,_,w,e1,fun v H1 fv s1 r1=>⟨z,r1.is_str,hc,q _ H1 [] s1 (fun _ h=>absurd h (by simp)) (za9 z)⟩⟩
 |_=>cases e2
end
def cQ(i:Nat)(f:tz1):List D->tz1
 |[],ps=>some (.nx,ps)
 | d::ds,ps=>(f (ps.set i (some d))).bind fun q=>match q with
   |(.nx,p)=>cQ i f ds p
   |(.ct,p)=>cQ i f ds p
   |(.bk,p)=>some (.nx,p)
   |(.ret d,p)=>some (.ret d,p)
section
variable{X:Cx}{φ:Fx}{pos:Pos}{body:List Stmt}{f:tz1}
theorem Frm.kept{F:Nat->List Addr}{H H':Hp}{Z:List Addr}{σ:St}{ps:PSt}(R:RS φ H σ ps F)(k:Frm F H H')(hz:∀a∈Z,∀i,a∉F i):nL Z H H':=fun a o h t=>by
 rcases t with t|⟨t1,t2⟩
 ·refine k.keep a o h (kL t) fun i hi=> ?_
  obtain⟨o',h',_,t'⟩:=R.own hi
  rw [h] at h';cases h';rw [t] at t';cases t'
 ·exact k.keep a o h t1 (hz a t2)
def zr7(J:It)(E:Ends)(V:Nat->Nat->St->Hp->Prop)(g:TG)(tb:TS)(k m:Nat)(σ:St)(H:Hp):Prop:=
 (J.stop k H/\E.nx σ H)\/(J.go k H/\∃N:St->Hp->Prop,(∀σ' H',N σ' H'->∃m',m'<m/\V (k+1) m' σ' H')/\∀x H',J.yld k H x H'->g x σ H' fun σ2 H2=>tb {E with nx:=N,ct:=N,bk:=E.nx} σ2 H2)
def FInv(φ:Fx)(σ:St)(H:Hp)(F:Nat->List Addr)(i:Nat)(f:tz1)(ds:List D)(fl:Fl)(ps':PSt)(k m:Nat)(σ1:St)(H1:Hp):Prop:=k<=ds.length/\m=ds.length-k/\∃ps1 F1,Stp φ σ H F σ1 H1 ps1 F1/\cQ i f (ds.drop k) ps1=some (fl,ps')
theorem pP{E:Ends}{σ:St}{H:Hp}{F:Nat->List Addr}{ps ps':PSt}{fl:Fl}{ds:List D}{J:It}{Z:List Addr}{i:Nat}(R:RS φ H σ ps F)(hz:∀a∈Z,H a≠none/\∀i,a∉F i)(W:Walk φ.K φ.κ J Z H ds)(hb:φ.bor i=false)(hm:φ.M i=false)
  (e:cQ i f ds ps=some (fl,ps')) (q:pH φ E σ H F fl ps'):∃V:Nat->Nat->St->Hp->Prop,(∃m,V 0 m σ H)/\∀k m σ H,V k m σ H->zr7 J E V (kT i) (tS φ f) k m σ H:=by
 refine⟨FInv φ σ H F i f ds fl ps',⟨_,Nat.zero_le _,rfl,ps,F,.refl R,by rw [List.drop_zero];exact e⟩,?_⟩
 rintro k m σ1 H1 ⟨hk,rfl,ps1,F1,s1,e1⟩
 have kp:nL Z H H1:=s1.fr.kept R fun a ha=>(hz a ha).2
 by_cases hlt:k<ds.length
 ·right
  have ed:ds[k]? =some ds[k]:=List.getElem?_eq_getElem hlt
  obtain⟨hgo,hy⟩:=W.go H1 kp k _ ed
  rw [List.drop_eq_getElem_cons hlt,cQ] at e1
  obtain⟨⟨fl2,ps2⟩,e2,e3⟩:=bind_some e1
  refine⟨hgo,fun σ' H'=>∃F',Stp φ σ H F σ' H' ps2 F'/\cQ i f (ds.drop (k+1)) ps2=some (fl,ps'),fun σ' H' ⟨F',s,e⟩=>⟨ds.length-(k+1),by omega,hlt,rfl,ps2,F',s,e⟩,fun x H' y=> ?_⟩
  obtain⟨rfl,rx⟩:=hy x H' y
  obtain⟨F2,s2⟩:=(Stp.refl s1.rs).set (i:=i) (fv:=[]) (v:=x) (d:=ds[k]) ⟨fun _ h=>absurd h (by simp),List.nodup_nil,fun _ _ _ h=>absurd h (by simp)⟩ s1.rs rx (.inl hb) hm
  have s12:=s1.trans s2
  refine⟨_,F2,fl2,ps2,s2.rs,e2,?_⟩
  cases fl2 with
  |nx=>exact fun σ' H' F' s=>⟨F',s12.trans s,e3⟩
  |ct=>exact fun σ' H' F' s=>⟨F',s12.trans s,e3⟩
  |bk=>cases e3;exact fun σ' H' F' s=>q σ' H' F' (s12.trans s)
  |ret d=>cases e3;exact fun v σ' H' F' fv s o r=>q v σ' H' F' fv (s12.trans s) (o.after s12) r
 ·left
  have ek:k=ds.length:=by omega
  subst ek
  rw [List.drop_length,cQ] at e1
  cases e1
  exact⟨W.stop H1 kp,q _ _ F1 s1⟩
def dM(i:Nat)(fi:tz3)(f:tz1):tz1:=fun ps=>(fi ps).bind fun ds=>cQ i f ds ps
theorem lP{κ:tz9}{φ:F0}(i:Nat){x:Str}{px:Pos}{iter:Expr}{fi:tz3}(hp:PassesOwn (model X.prog X.w) X.A X.env X.xe)(hc:X.calm=true)(hN:X.N.Nodup)(hi:X.N[i]? =some x)(hx:Loc X.env.scope x)(hb:φ.bor i=false)(hm:φ.M i=false)
  (hit:PI X (.Name x px) iter (tIP X.K κ fi)) (hbd:QSs X κ φ body f) (hs:∀x,foldedSetIterable iter X.env x=pure x:=by intro _;rfl) (hf:X.fn x=true\/X.env.scope.names.lookup x=some .local:=by first|exact .inl rfl|exact .inr rfl|assumption):
  QS X κ φ (.For (.Name x px) iter body [] pos) (dM i fi f):=(sZ hp hc hit (jI hN hi hx hf) hbd hs).imp fun E σ H hh_=>by
 obtain⟨ps,F,fl,ps',R,e,q⟩:=hh_
 obtain⟨ds,e1,e2⟩:=bind_some e
 refine⟨ps,ds,R.ws,e1,fun J H1 Z s1 hz W=> ?_⟩
 have s:=Stp.same R s1
 exact pP s.rs (fun a ha=>⟨(hz a ha).2,fun j hj=>by obtain⟨o,h,_⟩:=R.own hj;rw [(hz a ha).1] at h;cases h⟩) W hb hm e2 (q.back s)
def zc7(g:TG)(tb:TS)(E:Ends)(σ:St):It->Hp->Prop:=fun J H1=>∃W:Nat->Nat->St->Hp->Prop,(∃m,W 0 m σ H1)/\∀i m σ H,W i m σ H->
 (J.stop i H/\E.nx σ H)\/(J.go i H/\∃N:St->Hp->Prop,(∀σ' H',N σ' H'->∃m',m'<m/\W (i+1) m' σ' H')/\∀x H',J.yld i H x H'->g x σ H' fun σ2 H2=>tb {E with nx:=N,ct:=N,bk:=E.nx} σ2 H2)
theorem pD{κ:tz9}{φ:F0}(i j:Nat){x y:Str}{px py:Pos}(hp:PassesOwn (model X.prog X.w) X.A X.env X.xe)(hc:X.calm=true)(hN:X.N.Nodup)(hi:X.N[i]? =some x)(hx:Loc X.env.scope x)(hb:φ.bor i=false)(hm:φ.M i=false)(hj:φ.bor j=true)
  (hbd:QSs X κ φ body f) (hNj:X.N[j]? =some y:=by rfl) (hv:Vis X.env.scope y:=by first|exact Or.inl rfl|exact Or.inr (Or.inl rfl)|exact Or.inr (Or.inr rfl)) (hd:(y==("__debug__":Str))=false:=by decide)
  (hcd:(y==("__classdict__":Str))=false:=by decide) (hs:∀x,foldedSetIterable (.Name y py) X.env x=pure x:=by intro _;rfl) (hf:X.fn x=true\/X.env.scope.names.lookup x=some .local:=by first|exact .inl rfl|exact .inr rfl|assumption):
  QS X κ φ (.For (.Name x px) (.Name y py) body [] pos) (dM i (cK (aD j)) f):=(sZ hp hc (qF (lK hNj hv hd hcd)) (jI hN hi hx hf) hbd hs).imp fun E σ H hh_=>by
 obtain⟨ps,F,fl,ps',R,e,q⟩:=hh_
 obtain⟨ds,e1,e2⟩:=bind_some e
 obtain⟨d,e3,e4⟩:=bind_some e1
 obtain⟨v,fp,h1,h2,_,h4⟩:=R.rep j d (join_some e3)
 refine⟨v,h1,?_⟩
 refine pC (R:=zc7 (kT i) (tS (φ.fx X.K κ) f) E σ) h2 e4 fun J Z hz W=> ?_
 exact pP R (fun a ha=>⟨R.bt j a (h4 hj a (hz a ha)),fun k hk=>R.nb k a hk j (h4 hj a (hz a ha))⟩) W hb hm e2 q
end
def gP(np n:Nat)(f:tz1):tz6:=fun ds=>if ds.length=np then(f (ds.map some++List.replicate n none)).bind fun r=>match r with
 |(.ret d,_)=>some d
 |(.nx,_)=>some .non
 |_=>none
 else none
def SpP(np:Nat)(K:tz0)(κ:tz9)(g:tz6):Sp:=fun vs H Q _=>vs.length=np/\∃ds fp d,Reps K κ H vs ds fp/\g ds=some d/\jM K κ H d Q
def fxP(K:tz0)(κ:tz9)(np:Nat)(B:Nat->Addr->Prop):Fx:=⟨K,κ,fun i=>decide (i<np),fun _=>false,B⟩
def f0P(np:Nat)(B:Nat->Addr->Prop):F0:=⟨fun i=>decide (i<np),fun _=>false,B⟩
theorem yR{N:List Str}{vs:List V}{i:Nat}{v:V}(h:vs[i]? =some v):(start N vs)[i]? =some (some v):=by
 unfold start
 have hi:=(List.getElem?_eq_some_iff.mp h).1
 rw [List.getElem?_append_left (by simpa using hi),List.getElem?_map,h];rfl
theorem RS.start{K:tz0}{κ:tz9}{H:Hp}{N:List Str}{vs:List V}{ds:List D}{fp:List Addr}{np:Nat}(r:Reps K κ H vs ds fp)(hl:vs.length=np)(hn:np<=N.length):
  RS (fxP K κ np (fun _ a=>a∈fp)) H (start N vs) (ds.map some++List.replicate (N.length-np) none) (fun _=>[]):=by
 have el:=r.length
 refine⟨fun i d h=> ?_,fun i a h=>absurd h (by simp),fun i j a h=>absurd h (by simp),fun i=>List.nodup_nil,fun i a h=>absurd h (by simp),fun k a h z=> ?_,?_⟩
 ·by_cases hi:i<ds.length
  ·rw [List.getElem?_append_left (by simpa using hi),List.getElem?_map] at h
   cases e:ds[i]? with
   |none=>rw [e] at h;cases h
   |some d'=>
    rw [e] at h;cases h
    obtain⟨v,f,h1,h2,h3⟩:=r.get e
    refine⟨v,f,yR h1,h2,fun z=> ?_,fun _=>h3⟩
    exact absurd (of_decide_eq_false z) (by omega)
  ·rw [List.getElem?_append_right (by simpa using hi),List.getElem?_replicate] at h
   split at h<;>cases h
 ·obtain⟨o,h,_⟩:=r.own a h
  rw [z] at h;cases h
 ·unfold L2.start
  simp only [List.length_append,List.length_map,List.length_replicate]
  omega
section
variable{P:Program}{w:World}{K:tz0}{mg:tzA}{base:Heap}{κ:tz9}
theorem dN{x qual:Str}{st:Stmt}{f:Addr}{fd:FuncData}{N ps:List Str}{k:Nat}{fb:tz1}(F:Fun K x qual st f fd)(S:FnScope N ps (aV st))
  (hbody:∀(cdv:Value) (A:Around) (outer:List Env) (s:Shared) (H:Hp) (E:XK) (B:Nat->Addr->Prop),Room k (A.deeper (envOfC qual (aV st) s.heap.objs.size f cdv))->
   QSs (oK CX0 P w K mg base N qual (aV st) f cdv A outer s H E).nox κ (f0P ps.length B) (cD st) fb):
  FnOk P w K mg base CX0 (k+1) f fd ps (SpP ps.length K κ (gP ps.length (N.length-ps.length) fb)):=by
 refine F.ok S (fun vs H Q E h=>h.1) fun cdv A outer s H vs Q E hr ⟨hl,ds,fp,d,r,e,q⟩=>⟨_,hbody cdv A outer s H E (fun _ a=>a∈fp) hr,?_⟩
 have hn:ps.length<=N.length:=by have:=congrArg List.length S.pre;rw [List.length_take] at this;omega
 unfold gP at e
 obtain⟨_,e0⟩:=cB e
 obtain⟨⟨fl,ps'⟩,e1,e2⟩:=bind_some e0
 refine⟨_,fun _=>[],fl,ps',RS.start r hl hn,e1,?_⟩
 have sm:∀{H':Hp},Frm (fun _=>[]) H H'->SameK H H':=fun k=>⟨fun a o h kk=>k.keep a o h kk (fun _=>by simp),k.grow⟩
 cases fl with
 |ret d'=>
  cases e2
  exact fun v σ' H' F' fv s o rv=>q v H' fv (sm s.fr) (fun a ha=>(o.nw a ha).elim (fun⟨j,hj⟩=>absurd hj (by simp)) id) o.nd rv
 |nx=>
  cases e2
  exact fun σ' H' F' s=>q .non H' [] (sm s.fr) (fun a ha=>absurd ha (by simp)) List.nodup_nil .non
 |bk=>cases e2
 |ct=>cases e2
end
section
variable{X:Cx}{κ:tz9}{e:Expr}{es:List Expr}{g:tz3}{pos p:Pos}
theorem dZ{x:Str}{st:Stmt}{ps:List Str}{f:Addr}{fd:FuncData}{k np:Nat}{h:tz6}(Dd:Dn X.K X.mg x st ps f fd)(G:FnOk X.prog X.w X.K X.mg X.base CX0 k f fd ps (SpP np X.K κ h))(hr:Room k X.A)(hg:Gl X x)(hnp:(e::es).length=np)(ha:QVA X κ (e::es) g)
  (hlen:∀ps ds,g ps=some ds->ds.length=(e::es).length)
  (hdb:(x==("__debug__":Str))=false:=by decide) (he:starEach (e::es) X.env=(false,eval e X.env)::starEach es X.env:=by rfl) (hpl:(backTo pos (starEach es X.env)).any (·.1)=false:=by rfl):
  QP X κ (.Call (.Name x p) (e::es) [] pos) (aK h g):=(zd4 Dd G hr hg ha hdb he hpl).imp fun σ H Q hh_=>by
 obtain⟨ps,d,w,e,q⟩:=hh_
 obtain⟨ds,e1,e2⟩:=bind_some e
 refine⟨ps,ds,w,e1,fun vs H1 fp s1 r1=> ?_⟩
 show SpP np X.K κ h (vs++[]) H1 Q E0
 rw [List.append_nil]
 exact⟨by rw [r1.length,hlen ps ds e1,hnp],ds,fp,d,r1,e2,q.after s1⟩
theorem cU:∀(ps:PSt) (ds:List D),aC ps=some ds->ds.length=([]:List Expr).length:=fun _ _ h=>by cases h;rfl
theorem bG{f:tz2}(h:∀ps ds,g ps=some ds->ds.length=es.length):∀(ps:PSt) (ds:List D),aA f g ps=some ds->ds.length=(e::es).length:=fun ps ds q=>by
 obtain⟨d,es',_,e2,rfl⟩:=mZ q
 rw [List.length_cons,List.length_cons,h ps es' e2]
end
def mE(pick:List (Option Nat))(ps:PSt):PSt:=pick.map fun o=>o.bind fun j=>(ps[j]?).join
def gH(psb:PSt)(ft:tz4)(fe:tz2):List D->Option (List D)
 |[]=>some []
 |d::ds=>(ft (psb.set 0 (some d))).bind fun b=>if b=true then(fe (psb.set 0 (some d))).bind fun r=>(gH psb ft fe ds).bind fun rs=>some (r::rs) else gH psb ft fe ds
def iF(pick:List (Option Nat))(fi:tz3)(ft:tz4)(fe:tz2):tz2:=fun ps=>(fi ps).bind fun ds=>if ds.length<=sizeLine then(gH (mE pick ps) ft fe ds).bind fun rs=>some (.lst true rs) else none
def fW:tz4:=fun _=>some true
theorem WS.sub{K:tz0}{κ:tz9}{H:Hp}{σ:St}{ps:PSt}(pick:List (Option Nat))(w:WS K κ H σ ps):WS K κ H (kZ pick σ) (mE pick ps):=fun i d h=>by
 unfold mE at h
 unfold kZ
 rw [List.getElem?_map] at h|-
 cases e:pick[i]? with
 |none=>rw [e] at h;cases h
 | some o=>
  rw [e] at h
  cases o with
  |none=>cases h
  |some j=>
   have h':(ps[j]?).join=some d:=Option.some.inj h
   obtain⟨v,fp,h1,h2⟩:=w j d (join_some h')
   refine⟨v,fp,?_,h2⟩
   show some ((σ[j]?).join)=some (some v)
   rw [h1];rfl
theorem WS.set0{K:tz0}{κ:tz9}{H:Hp}{σ:St}{ps:PSt}{v:V}{d:D}{fp:List Addr}(w:∀(i:Nat) (d:D),i≠0->ps[i]? =some (some d)->∃v fp,σ[i]? =some (some v)/\Rep K κ H v d fp)(hl:ps.length<=σ.length)(r:Rep K κ H v d fp):WS K κ H (σ.set 0 (some v)) (ps.set 0 (some d)):=fun i d' h=>by
 by_cases e:i=0
 ·subst e
  by_cases hp:0<ps.length
  ·rw [List.getElem?_set_self hp] at h
   cases h
   exact⟨v,fp,by rw [List.getElem?_set_self (by omega)],r⟩
  ·rw [List.getElem?_eq_none (by simpa using hp)] at h;cases h
 ·rw [List.getElem?_set_ne (fun z=>e z.symm)] at h|-
  exact w i d' e h
section
variable{X:Cx}{κ:tz9}{sc:Scope}{NX N:List Str}{pick:List (Option Nat)}{elt iter:Expr}{ifs:List Expr}{scope:Scope}{pos px:Pos}{x:Str}{fi:tz3}{ft:tz4}{fe:tz2}
theorem PTs.imp{X:Cx}{ifs:List Expr}{t t':TT}(h:PTs X ifs t)(k:∀σ H Q,t' σ H Q->t σ H Q):PTs X ifs t':=fun pins s σ H Q I q=>h pins s σ H Q I (k σ H Q q)
theorem lI{X:Cx}:PTs X [] (tQ X.K κ fW):=zl1.imp fun σ H Q ⟨ps,b,w,e,q⟩=>by cases e;exact q H (.refl H)
structure Grown(K:tz0)(κ:tz9)(H1:Hp)(Dd:Addr)(H':Hp)(vs:List V)(rs:List D)(fv:List Addr):Prop where
 same:SameK H1 H'
 at_:H' Dd=some (.lst vs)
 rep:Reps K κ H' vs rs fv
 new:∀a∈fv,H1 a=none
 ne:Dd∉fv
 nd:fv.Nodup
def zr8(K:tz0)(κ:tz9)(J:It)(Dd:Addr)(q:Hp->Prop)(V:Nat->Nat->St->Hp->Prop)(ft:tz4)(fe:tz2)(i m:Nat)(σ':St)(H':Hp):Prop:=
  (J.stop i H'/\q H')\/(J.go i H'/\∀x H2,J.yld i H' x H2->kT 0 x σ' H2 fun σ3 H3=>tQ K κ ft σ3 H3 fun b H4=>
   if b=true then tP K κ fe σ3 H4 fun y H5=>∃ys,H5 Dd=some (.lst ys)/\ys.length<sizeLine/\∃m',m'<m/\V (i+1) m' σ3 (upd H5 Dd (.lst (ys++[y]))) else ∃m',m'<m/\V (i+1) m' σ3 H4)
def zu9(K:tz0)(κ:tz9)(H1:Hp)(Dd:Addr)(pick:List (Option Nat))(ps:PSt)(ft:tz4)(fe:tz2)(ds rs:List D)(i m:Nat)(σ':St)(H':Hp):Prop:=i<=ds.length/\m=ds.length-i/\(∀(j:Nat) (d:D),j≠0->(mE pick ps)[j]? =some (some d)->∃v fp,σ'[j]? =some (some v)/\Rep K κ H1 v d fp)/\(mE pick ps).length<=σ'.length/\
  ∃vs fv done bC,Grown K κ H1 Dd H' vs done fv/\done.length<=i/\gH (mE pick ps) ft fe (ds.drop i)=some bC/\rs=done++bC
theorem zb0{pick:List (Option Nat)}{J:It}{Z:List Addr}{σ:St}{ps:PSt}{H1:Hp}{Dd:Addr}{ds rs:List D}{Q:Addr->Hp->Prop}(w:WS X.K κ H1 σ ps)(hD:H1 Dd=none)(W:Walk X.K κ J Z H1 ds)(hz:ds.length<=sizeLine)
  (e:gH (mE pick ps) ft fe ds=some rs) (q:∀H' vs fv,Grown X.K κ H1 Dd H' vs rs fv->Q Dd H'):
  ∃V:Nat->Nat->St->Hp->Prop,(∃m,V 0 m (kZ pick σ) (upd H1 Dd (.lst [])))/\∀i m σ' H',V i m σ' H'->zr8 X.K κ J Dd (Q Dd) V ft fe i m σ' H':=by
 refine⟨zu9 X.K κ H1 Dd pick ps ft fe ds rs,⟨_,Nat.zero_le _,rfl,fun j d _ h=>w.sub pick j d h,by simp [mE,kZ],[],[],[],rs,⟨.new hD _,dJ,.nil,fun _ h=>absurd h (by simp),by simp,List.nodup_nil⟩,Nat.zero_le _,by rw [List.drop_zero];exact e,rfl⟩,?_⟩
 rintro i m σ' H' ⟨hi,rfl,ws,wl,vs,fv,done,bC,G,hdn,er,ers⟩
 have kp:nL Z H1 H':=fun a o h t=>G.same.keep a o h (t.elim kL fun t=>t.1)
 by_cases hlt:i<ds.length
 ·right
  have ed:ds[i]? =some ds[i]:=List.getElem?_eq_getElem hlt
  obtain⟨hgo,hy⟩:=W.go H' kp i _ ed
  refine⟨hgo,fun x H2 y=> ?_⟩
  obtain⟨rfl,rx⟩:=hy x H2 y
  rw [List.drop_eq_getElem_cons hlt,gH] at er
  obtain⟨b,e1,e2⟩:=bind_some er
  have wset:WS X.K κ H2 (σ'.set 0 (some x)) ((mE pick ps).set 0 (some ds[i])):=WS.set0 (fun j d hj h=>by obtain⟨v,fp,h1,h2⟩:=ws j d hj h;exact⟨v,fp,h1,h2.same G.same⟩) wl rx
  refine⟨_,b,wset,e1,fun H3 s3=> ?_⟩
  have keepS:∀(j:Nat) (d:D),j≠0->(mE pick ps)[j]? =some (some d)->∃v fp,(σ'.set 0 (some x))[j]? =some (some v)/\Rep X.K κ H1 v d fp:=fun j d hj h=>by
   obtain⟨v,fp,h1,h2⟩:=ws j d hj h
   exact⟨v,fp,by rw [List.getElem?_set_ne (fun z=>hj z.symm)];exact h1,h2⟩
  have Dkeep:∀{H5:Hp},SameK H2 H5->H5 Dd=some (.lst vs):=fun s=>s.keep _ _ G.at_ rfl
  cases b with
  | true=>
   dsimp only
   rw [if_pos rfl] at e2|-
   obtain⟨r,e3,e4⟩:=bind_some e2
   obtain⟨rs',e5,e6⟩:=bind_some e4
   cases e6
   refine⟨_,r,wset.same s3,e3,fun y H5 fw s5 n5 nd5 r5=> ?_⟩
   have s25:=s3.trans s5
   refine⟨vs,Dkeep s25,?_,ds.length-(i+1),by omega,hlt,rfl,keepS,by simpa using wl,vs++[y],fv++fw,done++[r],rs',?_,?_,e5,by rw [ers];simp⟩
   ·have:=G.rep.length;omega
   ·have hDw:Dd∉fw:=fun z=>by have:=s3.grow Dd (n5 Dd z);rw [G.at_] at this;cases this
    have hup:∀a,a≠Dd->upd H5 Dd (.lst (vs++[y])) a=H5 a:=fun a h=>bR h
    have tfk:∀a o,H5 a=some o->tf o=true->upd H5 Dd (.lst (vs++[y])) a=some o:=fun a o h t=>by
     rw [hup a]
     ·exact h
     ·rintro rfl;rw [Dkeep s25] at h;cases h;cases t
    have rv5:Reps X.K κ H5 vs done fv:=G.rep.same s25
    refine⟨⟨fun a o h k=> ?_,fun a h=> ?_⟩,dJ,Reps.append (rv5.move tfk fun a ha=>hup a fun z=>G.ne (z▸ha)) (Reps.one (r5.move tfk fun a ha=>hup a fun z=>hDw (z▸ha))),fun a ha=> ?_,fun z=> ?_,?_⟩
    ·rw [hup a (fun z=>by subst z;rw [hD] at h;cases h)]
     exact(G.same.trans s25).keep a o h k
    ·by_cases z:a=Dd
     ·subst z;rw [dJ] at h;cases h
     ·rw [hup a z] at h;exact(G.same.trans s25).grow a h
    ·rcases List.mem_append.mp ha with z|z
     ·exact G.new a z
     ·exact(G.same.trans s3).grow a (n5 a z)
    ·rcases List.mem_append.mp z with z|z
     ·exact G.ne z
     ·exact hDw z
    ·rw [List.nodup_append]
     refine⟨G.nd,nd5,fun a ha b hb e=> ?_⟩
     subst e
     obtain⟨o,h,k,_⟩:=G.rep.own a ha
     have:=s3.keep a o h k
     rw [n5 a hb] at this;cases this
   ·rw [List.length_append,List.length_singleton];omega
  |false=>
   dsimp only
   rw [if_neg Bool.false_ne_true] at e2|-
   refine⟨ds.length-(i+1),by omega,hlt,rfl,keepS,by simpa using wl,vs,fv,done,bC,⟨G.same.trans s3,Dkeep s3,G.rep.same s3,G.new,G.ne,G.nd⟩,by omega,e2,ers⟩
 ·left
  have ek:i=ds.length:=by omega
  subst ek
  rw [List.drop_length,gH] at er
  cases er
  rw [List.append_nil] at ers
  subst ers
  exact⟨W.stop H' kp,q H' vs fv G⟩
theorem lJ(S:CScope sc NX N pick scope)(hsc:X.env.scope=sc)(hNX:X.N=NX)(hc:X.calm=true)(hi:QIV X κ (.Name x px) iter fi)
  (hg:∀cl fp s H,PG (cxB X N scope cl fp s H) (.Name x px) (kT 0)) (ht:∀cl fp s H,PTs (cxB X N scope cl fp s H) ifs (tQ X.K κ ft)) (he:∀cl fp s H,PE (cxB X N scope cl fp s H) elt (tP X.K κ fe))
  (hs:∀x,foldedSetIterable iter X.env x=pure x:=by intro _;rfl):QP X κ (.ListComp elt [⟨.Name x px,iter,ifs,0⟩] scope pos) (iF pick fi ft fe):=
 (zf9 S hsc hNX hc hi hg ht he hs).imp fun σ H Q hh_=>by
  obtain⟨ps,d,w,e,q⟩:=hh_
  obtain⟨ds,e1,e2⟩:=bind_some e
  obtain⟨hz,e3⟩:=cB e2
  obtain⟨rs,e4,e5⟩:=bind_some e3
  cases e5
  refine⟨ps,ds,w,e1,fun J H1 Z s1 W Dd hD=> ?_⟩
  refine zb0 (Q:=fun Dd H'=>Q (.ref Dd) H') (w.same s1) hD W hz e4 fun H' vs fv G=> ?_
  refine q _ H' (Dd::fv) (s1.trans G.same) (fun a ha=> ?_) (List.nodup_cons.mpr ⟨G.ne,G.nd⟩) (.lst G.at_ G.rep)
  rcases List.mem_cons.mp ha with z|z
  ·rw [z];exact s1.grow Dd hD
  ·exact s1.grow a (G.new a z)
end
inductive Ps1 where
 |ix (n:Nat)|fld (f:Str)
def nM:List Str->Str->Option Nat
 |[],_=>none
 |n::ns,f=>if n=f then some 0 else(nM ns f).map (·+1)
def dX{α:Type}(h:D->Option (α×D)):D->List Ps1->Option (α×D)
 |d,[]=>h d
 | .lst true xs,.ix n::p=>(xs[n]?).bind fun d=>(dX h d p).bind fun r=>some (r.1,.lst true (xs.set n r.2))
 | .obj true C ns vs,.fld f::p=>(nM ns f).bind fun n=>(vs[n]?).bind fun d=>(dX h d p).bind fun r=>some (r.1,.obj true C ns (vs.set n r.2))
 |_,_=>none
def eH:D->List Ps1->Option D
 |d,[]=>some d
 | .lst true xs,.ix n::p=>(xs[n]?).bind fun d=>eH d p
 | .obj true _ ns vs,.fld f::p=>(nM ns f).bind fun n=>(vs[n]?).bind fun d=>eH d p
 |_,_=>none
def At(H:Hp):V->List Ps1->V->Prop
 |v0,[],v=>v=v0
 |v0,.ix n::p,v=>∃a vs v1,v0= .ref a/\H a=some (.lst vs)/\vs[n]? =some v1/\At H v1 p v
 |v0,.fld f::p,v=>∃a C dx fs n v1,v0= .ref a/\H a=some (.ins C dx fs)/\nM (fs.map (·.1)) f=some n/\(fs.map (·.2))[n]? =some v1/\At H v1 p v
theorem At.same{H H':Hp}(s:SameK H H'):∀{p:List Ps1} {v0 v:V},At H v0 p v->At H' v0 p v
 |[],_,_,h=>h
 | .ix n::p,_,_,⟨a,vs,v1,h1,h2,h3,h4⟩=>⟨a,vs,v1,h1,s.keep _ _ h2 rfl,h3,At.same s h4⟩
 | .fld f::p,_,_,⟨a,C,dx,fs,n,v1,h1,h2,h3,h4,h5⟩=>⟨a,C,dx,fs,n,v1,h1,s.keep _ _ h2 rfl,h3,h4,At.same s h5⟩
theorem At.snoc_ix{H:Hp}{a:Addr}{vs:List V}{n:Nat}{v:V}(h:H a=some (.lst vs))(hv:vs[n]? =some v):∀{p:List Ps1} {v0:V},At H v0 p (.ref a)->At H v0 (p++[.ix n]) v
 |[],_,e=>⟨a,vs,v,e.symm,h,hv,rfl⟩
 | .ix m::p,_,⟨b,us,v1,h1,h2,h3,h4⟩=>⟨b,us,v1,h1,h2,h3,At.snoc_ix h hv h4⟩
 | .fld f::p,_,⟨b,C,dx,fs,m,v1,h1,h2,h3,h4,h5⟩=>⟨b,C,dx,fs,m,v1,h1,h2,h3,h4,At.snoc_ix h hv h5⟩
theorem vS{α:Type}{h:D->Option (α×D)}{d0:D}{n:Nat}{p:List Ps1}{r:α}{d':D}(e:dX h d0 (.ix n::p)=some (r,d')):∃xs d1 d2,d0= .lst true xs/\xs[n]? =some d1/\dX h d1 p=some (r,d2)/\d'= .lst true (xs.set n d2):=by
 unfold dX at e
 split at e
 ·rename_i z;cases z
 ·rename_i z;cases z
  obtain⟨d1,h1,h2⟩:=bind_some e
  obtain⟨⟨r1,d2⟩,h3,h4⟩:=bind_some h2
  cases h4
  exact⟨_,_,_,rfl,h1,h3,rfl⟩
 ·rename_i z;cases z
 ·cases e
theorem tZ{α:Type}{h:D->Option (α×D)}{d0:D}{f:Str}{p:List Ps1}{r:α}{d':D}(e:dX h d0 (.fld f::p)=some (r,d')):∃C ns xs n d1 d2,d0= .obj true C ns xs/\nM ns f=some n/\xs[n]? =some d1/\dX h d1 p=some (r,d2)/\d'= .obj true C ns (xs.set n d2):=by
 unfold dX at e
 split at e
 ·rename_i z;cases z
 ·rename_i z;cases z
 ·rename_i z;cases z
  obtain⟨n,h0,h9⟩:=bind_some e
  obtain⟨d1,h1,h2⟩:=bind_some h9
  obtain⟨⟨r1,d2⟩,h3,h4⟩:=bind_some h2
  cases h4
  exact⟨_,_,_,_,_,_,rfl,h0,h1,h3,rfl⟩
 ·cases e
theorem zg5{d0 d:D}{n:Nat}{p:List Ps1}(e:eH d0 (.ix n::p)=some d):∃xs d1,d0= .lst true xs/\xs[n]? =some d1/\eH d1 p=some d:=by
 unfold eH at e
 split at e
 ·rename_i z;cases z
 ·rename_i z;cases z
  obtain⟨d1,h1,h2⟩:=bind_some e
  exact⟨_,_,rfl,h1,h2⟩
 ·rename_i z;cases z
 ·cases e
theorem zb1{d0 d:D}{f:Str}{p:List Ps1}(e:eH d0 (.fld f::p)=some d):∃C ns xs n d1,d0= .obj true C ns xs/\nM ns f=some n/\xs[n]? =some d1/\eH d1 p=some d:=by
 unfold eH at e
 split at e
 ·rename_i z;cases z
 ·rename_i z;cases z
 ·rename_i z;cases z
  obtain⟨n,h0,h9⟩:=bind_some e
  obtain⟨d1,h1,h2⟩:=bind_some h9
  exact⟨_,_,_,_,_,rfl,h0,h1,h2⟩
 ·cases e
theorem nC{α:Type}{h:D->Option (α×D)}{r:α}{d':D}{p:List Ps1}:∀{d0:D},dX h d0 p=some (r,d')->∃d dn,eH d0 p=some d/\h d=some (r,dn):=by
 induction p generalizing d' with
 |nil=>intro d0 e;rw [dX] at e;exact⟨d0,d',by rw [eH],e⟩
 | cons s p ih=>
  intro d0 e
  cases s with
  |ix m=>
   obtain⟨xs,d1,d2,rfl,h1,h3,rfl⟩:=vS e
   obtain⟨d,dn,g1,g2⟩:=ih h3
   refine⟨d,dn,?_,g2⟩
   show(xs[m]?).bind _=_
   rw [h1];exact g1
  |fld f=>
   obtain⟨C,ns,xs,m,d1,d2,rfl,h0,h1,h3,rfl⟩:=tZ e
   obtain⟨d,dn,g1,g2⟩:=ih h3
   refine⟨d,dn,?_,g2⟩
   show(nM ns f).bind _=_
   rw [h0]
   show(xs[m]?).bind _=_
   rw [h1];exact g1
section
variable{K:tz0}{κ:tz9}{H:Hp}
theorem Reps.focus:∀{vs:List V} {ds:List D} {g:List Addr} {n:Nat} {d1:D} {v1:V},Reps K κ H vs ds g->ds[n]? =some d1->vs[n]? =some v1->∃f1 bC,Rep K κ H v1 d1 f1/\g.Perm (f1++bC)/\
  ∀(H':Hp) (d':D) (f':List Addr),(∀a o,H a=some o->tf o=true->H' a=some o)->(∀a∈bC,H' a=H a)->Rep K κ H' v1 d' f'->∃g',Reps K κ H' vs (ds.set n d') g'/\g'.Perm (f'++bC)
 |_,_,_,_,_,_,.nil,e,_=>by simp at e
 |_,_,_,0,_,_,.cons (f:=f) (g:=g) h hs,e,e'=>by
  simp at e e';subst e;subst e'
  exact⟨f,g,h,.refl _,fun H' d' f' t k r=>⟨f'++g,.cons r (hs.move t k),.refl _⟩⟩
 | _,_,_,n+1,_,_,.cons (f:=f) (g:=g) h hs,e,e'=>by
  obtain⟨f1,bC,h1,h2,h3⟩:=Reps.focus (n:=n) hs (by simpa using e) (by simpa using e')
  refine⟨f1,f++bC,h1,?_,fun H' d' f' t k r=> ?_⟩
  ·refine(h2.append_left f).trans ?_
   rw [<-List.append_assoc,<-List.append_assoc]
   exact List.perm_append_comm.append_right bC
  ·obtain⟨g',r1,r2⟩:=h3 H' d' f' t (fun a ha=>k a (List.mem_append_right _ ha)) r
   refine⟨f++g',.cons (h.move t fun a ha=>k a (List.mem_append_left _ ha)) r1,?_⟩
   refine(r2.append_left f).trans ?_
   rw [<-List.append_assoc,<-List.append_assoc]
   exact List.perm_append_comm.append_right bC
theorem sA{b:Addr}{g f1 fd bC rest1:List Addr}(k2:g.Perm (f1++rest1))(m3:f1.Perm (fd++bC)):(b::g).Perm (fd++b::(bC++rest1)):=by
 refine((k2.trans (m3.append_right rest1)).cons b).trans ?_
 rw [List.append_assoc]
 exact List.perm_middle.symm
def Foc(K:tz0)(κ:tz9)(H:Hp){α:Type}(h:D->Option (α×D))(r:α)(v v0:V)(d0':D)(fp:List Addr):Prop:=∃d d' fd bC,Rep K κ H v d fd/\h d=some (r,d')/\fp.Perm (fd++bC)/\
  ∀(H':Hp) (f':List Addr),(∀a o,H a=some o->tf o=true->H' a=some o)->(∀a∈bC,H' a=H a)->Rep K κ H' v d' f'->∃fp',Rep K κ H' v0 d0' fp'/\fp'.Perm (f'++bC)
theorem focus{α:Type}{h:D->Option (α×D)}{r:α}{p:List Ps1}:∀{v0 v:V} {d0 d0':D} {fp:List Addr},Rep K κ H v0 d0 fp->dX h d0 p=some (r,d0')->At H v0 p v->Foc K κ H h r v v0 d0' fp:=by
 induction p with
 |nil=>
  intro v0 v d0 d0' fp R e a
  rw [dX] at e
  cases(show v=v0 from a)
  exact⟨d0,d0',fp,[],R,e,by rw [List.append_nil],fun H' f' t k r=>⟨f',r,by rw [List.append_nil]⟩⟩
 | cons s p ih=>
  intro v0 v d0 d0' fp R e a
  have deep:∀(b:Addr) (vs:List V) (xs:List D) (n:Nat) (d1 d2:D) (v1:V) (g:List Addr),fp=b::g->Reps K κ H vs xs g->xs[n]? =some d1->vs[n]? =some v1->dX h d1 p=some (r,d2)->At H v1 p v->(∀(H':Hp) (g2:List Addr),H' b=H b->Reps K κ H' vs (xs.set n d2) g2->Rep K κ H' v0 d0' (b::g2))->
    Foc K κ H h r v v0 d0' fp:=fun b vs xs n d1 d2 v1 g ef hs h1 e3 h3 e4 mk=>by
   subst ef
   obtain⟨f1,rest1,k1,k2,k3⟩:=hs.focus h1 e3
   obtain⟨d,d',fd,bC,m1,m2,m3,m4⟩:=ih k1 h3 e4
   refine⟨d,d',fd,b::(bC++rest1),m1,m2,sA k2 m3,fun H' f' t k rr=> ?_⟩
   obtain⟨g1,q1,q2⟩:=m4 H' f' t (fun a ha=>k a (List.mem_cons_of_mem _ (List.mem_append_left _ ha))) rr
   obtain⟨g2,q3,q4⟩:=k3 H' d2 g1 t (fun a ha=>k a (List.mem_cons_of_mem _ (List.mem_append_right _ ha))) q1
   exact⟨b::g2,mk H' g2 (k b List.mem_cons_self) q3,sA q4 q2⟩
  cases s with
  |ix n=>
   obtain⟨b,vs,v1,e1,e2,e3,e4⟩:=a
   subst e1
   obtain⟨xs,d1,d2,rfl,h1,h3,rfl⟩:=vS e
   obtain⟨_,_,g,e5,hb,hs,ef⟩:=R.lstT_inv
   cases e5
   rw [e2] at hb;cases hb
   exact deep b vs xs n d1 d2 v1 g ef hs h1 e3 h3 e4 fun H' g2 k q3=> .lst (k.trans e2) q3
  |fld f=>
   obtain⟨b,C,dx,fs,n,v1,e1,e2,e2',e3,e4⟩:=a
   subst e1
   obtain⟨C',ns,xs,n',d1,d2,rfl,h0,h1,h3,rfl⟩:=tZ e
   obtain⟨_,_,_,g,e5,hb,hn,hs,ef⟩:=R.objT_inv
   cases e5
   rw [e2] at hb;cases hb
   subst hn
   rw [e2'] at h0;cases h0
   exact deep b _ xs n d1 d2 v1 g ef hs h1 e3 h3 e4 fun H' g2 k q3=> .obj (k.trans e2) rfl q3
end
theorem qG{φ:Fx}{α:Type}{h:D->Option (α×D)}{r:α}{H H1:Hp}{σ:St}{ps:PSt}{F:Nat->List Addr}{j:Nat}{d0 d0':D}{v0 v:V}{p:List Ps1}(R:RS φ H σ ps F)(s1:SameK H H1)(hb:φ.bor j=false)(e0:ps[j]? =some (some d0))(ev:σ[j]? =some (some v0))
  (em:dX h d0 p=some (r,d0')) (at_:At H1 v0 p v):∃d d' fd,Rep φ.K φ.κ H1 v d fd/\h d=some (r,d')/\fd.Nodup/\(∀a∈fd,a∈F j)/\
  ∀(H':Hp) (fd' fr:List Addr),(∀a o,H1 a=some o->kd o=true->a∉fd->H' a=some o)->(∀a,H' a=none->H1 a=none)->Rep φ.K φ.κ H' v d' fd'->(fd'++fr).Nodup->(∀a∈fd'++fr,a∈fd\/H a=none)->
   ∃F',Stp φ σ H F σ H' (ps.set j (some d0')) F'/\OwnV F H F' fr:=by
 obtain⟨v0',fp,h1,h2,h3,_⟩:=R.rep j d0 e0
 rw [ev] at h1;cases h1
 have h3:=h3 hb
 subst h3
 obtain⟨d,d',fd,bC,m1,m2,m3,m4⟩:=focus (h2.same s1) em at_
 have ndF:=R.nd j
 have ndp:(fd++bC).Nodup:=m3.nodup_iff.mp ndF
 obtain⟨nd1,nd2,nd3⟩:=List.nodup_append.mp ndp
 have inF:∀a,a∈fd\/a∈bC->a∈F j:=fun a ha=>m3.mem_iff.mpr (List.mem_append.mpr ha)
 refine⟨d,d',fd,m1,m2,nd1,fun a ha=>inF a (.inl ha),fun H' fd' fr k1 k2 k3 k4 k5=> ?_⟩
 have tfk:∀a o,H1 a=some o->tf o=true->H' a=some o:=fun a o ha t=>k1 a o ha (kL t) fun hm=>by
  obtain⟨o',q,_,q'⟩:=m1.own a hm
  rw [ha] at q;cases q;rw [t] at q';cases q'
 have keepO:∀a,(∃i,a∈F i)->a∉fd->H' a=H1 a:=fun a ⟨i,hi⟩ hn=>by
  obtain⟨o,q,q',_⟩:=R.own hi
  have q1:=s1.keep a o q q'
  rw [q1];exact k1 a o q1 q' hn
 have notfd:∀a,a∈bC->a∉fd:=fun a hr hf=>nd3 a hf a hr rfl
 obtain⟨fp',r1,r2⟩:=m4 H' fd' tfk (fun a ha=>keepO a ⟨j,inF a (.inr ha)⟩ (notfd a ha)) k3
 obtain⟨kd1,kd2,kd3⟩:=List.nodup_append.mp k4
 have memfp:∀a,a∈fp'->a∈fd'\/a∈bC:=fun a ha=>List.mem_append.mp (r2.mem_iff.mp ha)
 have lt:j<ps.length:=(List.getElem?_eq_some_iff.mp e0).1
 have old:∀a,a∈fd'++fr->∀i,a∈F i->a∈fd:=fun a ha i hi=>(k5 a ha).elim id fun z=>by
  obtain⟨o,q,_⟩:=R.own hi
  rw [z] at q;cases q
 refine⟨jB F j fp',⟨⟨fun a o ha hk hn=> ?_,fun a ha=>s1.grow a (k2 a ha)⟩,fun i a ha=> ?_,⟨fun i d2 hi=> ?_,fun i a ha=> ?_,fun i k a ha hk=> ?_,fun i=> ?_,fun i a ha kk hB=> ?_,fun kk a hB z=>R.bt kk a hB (s1.grow a (k2 a z)),by simpa using R.len⟩,fun _ _=>rfl⟩,⟨fun a ha=> ?_,kd2,fun i a ha hr=> ?_⟩⟩
 ·exact k1 a o (s1.keep a o ha hk) hk fun hm=>hn j (inF a (.inl hm))
 ·rcases fK ha with z|z
  ·rcases memfp a z with z|z
   ·exact(k5 a (List.mem_append_left _ z)).elim (fun z=> .inl ⟨j,inF a (.inl z)⟩) .inr
   ·exact .inl ⟨j,inF a (.inr z)⟩
  ·exact .inl ⟨i,z⟩
 ·by_cases e:i=j
  ·subst e
   rw [List.getElem?_set_self lt] at hi
   cases hi
   exact⟨v0,fp',ev,r1,fun _=>cH.symm,fun z=>by rw [hb] at z;cases z⟩
  ·rw [List.getElem?_set_ne (fun z=>e z.symm)] at hi
   obtain⟨v2,f2,q1,q2,q3,q4⟩:=R.rep i d2 hi
   refine⟨v2,f2,q1,(q2.same s1).move tfk fun a ha=> ?_,fun z=>by rw [cF e];exact q3 z,q4⟩
   obtain⟨o,w1,w2,_⟩:=q2.own a ha
   have w3:=s1.keep a o w1 w2
   rw [w3]
   refine k1 a o w3 w2 fun hm=> ?_
   have hF:=inF a (.inl hm)
   cases hbi:φ.bor i with
   |true=>exact R.nb j a hF i (q4 hbi a ha)
   |false=>rw [q3 hbi] at ha;exact e (R.dis i j a ha hF)
 ·by_cases e:i=j
  ·subst e;exact⟨hb,d0',by rw [List.getElem?_set_self lt]⟩
  ·rw [cF e] at ha
   obtain⟨b1,d1,b2⟩:=R.emp i a ha
   exact⟨b1,d1,by rw [List.getElem?_set_ne (fun z=>e z.symm)];exact b2⟩
 ·have hh:∀a,a∈fp'->∀i,i≠j->a∈F i->False:=fun a ha i hij hi=>by
   rcases memfp a ha with z|z
   ·exact hij (R.dis i j a hi (inF a (.inl (old a (List.mem_append_left _ z) i hi))))
   ·exact hij (R.dis i j a hi (inF a (.inr z)))
  by_cases e1:i=j
  ·by_cases e2:k=j
   ·rw [e1,e2]
   ·subst e1;rw [cH] at ha;rw [cF e2] at hk;exact(hh a ha k e2 hk).elim
  ·by_cases e2:k=j
   ·subst e2;rw [cH] at hk;rw [cF e1] at ha;exact(hh a hk i e1 ha).elim
   ·rw [cF e1] at ha;rw [cF e2] at hk;exact R.dis i k a ha hk
 ·by_cases e:i=j
  ·subst e
   rw [cH]
   refine r2.nodup_iff.mpr (List.nodup_append.mpr ⟨kd1,nd2,fun a ha b hb' e=> ?_⟩)
   subst e
   exact notfd a hb' (old a (List.mem_append_left _ ha) i (inF a (.inr hb')))
  ·rw [cF e];exact R.nd i
 ·rcases fK ha with z|z
  ·rcases memfp a z with z|z
   ·exact R.notB ((k5 a (List.mem_append_left _ z)).elim (fun z=> .inl ⟨j,inF a (.inl z)⟩) .inr) kk hB
   ·exact R.nb j a (inF a (.inr z)) kk hB
  ·exact R.nb i a z kk hB
 ·exact(k5 a (List.mem_append_right _ ha)).elim (fun z=> .inl ⟨j,inF a (.inl z)⟩) .inr
 ·rcases fK ha with z|z
  ·rcases memfp a z with z|z
   ·exact kd3 a z a hr rfl
   ·exact notfd a z (old a (List.mem_append_right _ hr) j (inF a (.inr z)))
  ·have:=old a (List.mem_append_right _ hr) i z
   by_cases e:i=j
   ·subst e
    rw [cH] at ha
    rcases memfp a ha with w|w
    ·exact kd3 a w a hr rfl
    ·exact notfd a w this
   ·exact e (R.dis i j a z (inF a (.inl this)))
def iT(K:tz0)(κ:tz9)(j:Nat)(pf:PSt->Option (List Ps1)):TE:=fun σ H Q=>∃ps p d0 d,WS K κ H σ ps/\ps[j]? =some (some d0)/\pf ps=some p/\eH d0 p=some d/\∀v H' v0,SameK H H'->σ[j]? =some (some v0)->At H' v0 p v->Q v H'
theorem uA{K:tz0}{κ:tz9}{H:Hp}{v0 v:V}{d0 d:D}{fp:List Addr}{p:List Ps1}(R:Rep K κ H v0 d0 fp)(g:eH d0 p=some d)(a:At H v0 p v):∃fd,Rep K κ H v d fd:=by
 have key:∀{p:List Ps1} {v0 v:V} {d0 d:D} {fp:List Addr},Rep K κ H v0 d0 fp->eH d0 p=some d->At H v0 p v->∃fd,Rep K κ H v d fd:=by
  intro p
  induction p with
  |nil=>intro v0 v d0 d fp R g a;cases g;cases(show v=v0 from a);exact⟨fp,R⟩
  | cons s p ih=>
   intro v0 v d0 d fp R g a
   cases s with
   |ix n=>
    obtain⟨b,vs,v1,e1,e2,e3,e4⟩:=a
    subst e1
    obtain⟨xs,d1,rfl,h1,h2⟩:=zg5 g
    obtain⟨_,_,_,e5,hb,hs,_⟩:=R.lstT_inv
    cases e5
    rw [e2] at hb;cases hb
    obtain⟨v',f,q1,q2,_⟩:=hs.get h1
    rw [e3] at q1;cases q1
    exact ih q2 h2 e4
   |fld f=>
    obtain⟨b,C,dx,fs,n,v1,e1,e2,e2',e3,e4⟩:=a
    subst e1
    obtain⟨C',ns,xs,n',d1,rfl,h0,h1,h2⟩:=zb1 g
    obtain⟨_,_,_,_,e5,hb,hn,hs,_⟩:=R.objT_inv
    cases e5
    rw [e2] at hb;cases hb
    subst hn
    rw [e2'] at h0;cases h0
    obtain⟨v',f,q1,q2,_⟩:=hs.get h1
    rw [e3] at q1;cases q1
    exact ih q2 h2 e4
 exact key R g a
def bW:PSt->Option (List Ps1):=fun _=>some []
def eD(j:Nat)(pf:PSt->Option (List Ps1))(fb:tz2):PSt->Option (List Ps1):=fun ps=>(pf ps).bind fun p=>((ps[j]?).join).bind fun d0=>(eH d0 p).bind fun d=>(fb ps).bind fun y=>match d,y with
 | .lst true xs,.int i=>(ixN xs.length i).bind fun n=>some (p++[.ix n])
 |_,_=>none
section
variable{X:Cx}{φ:F0}{κ:tz9}{K:tz0}{o e a b:Expr}{f fb fe:tz2}{g:tz3}{pf:PSt->Option (List Ps1)}{j:Nat}{pos apos:Pos}
theorem dR(j:Nat){x:Str}(hN:X.N[j]? =some x:=by rfl)(hv:Vis X.env.scope x:=by first|exact Or.inl rfl|exact Or.inr (Or.inl rfl)|exact Or.inr (Or.inr rfl))(hd:(x==("__debug__":Str))=false:=by decide)
  (hcd:(x==("__classdict__":Str))=false:=by decide):PE X (.Name x pos) (iT K κ j bW):=(lK hN hv hd hcd).imp fun σ H Q hh_=>by
 obtain⟨ps,p,d0,d,w,e0,ep,eg,q⟩:=hh_
 cases ep
 obtain⟨v,fp,h1,h2⟩:=w j d0 e0
 exact⟨v,h1,q v H v (.refl H) h1 rfl⟩
theorem kN(ha:PE X a (iT X.K κ j pf))(hb:QV X κ b fb)(hs:kP b:=by exact fun _ _=>rfl):PE X (.Subscript a b pos) (iT X.K κ j (eD j pf fb)):=
 (sP qX ha hb hs).imp fun σ H Q hh_=>by
  obtain⟨ps,p,d0,d,w,e0,ep,eg,q⟩:=hh_
  obtain⟨p1,e1,e2⟩:=bind_some ep
  obtain⟨d0',e3,e4⟩:=bind_some e2
  have:=join_some e3
  rw [e0] at this;cases this
  obtain⟨d1,e5,e6⟩:=bind_some e4
  obtain⟨y,e7,e8⟩:=bind_some e6
  split at e8
  ·rename_i xs i
   obtain⟨n,e9,e10⟩:=bind_some e8
   cases e10
   refine⟨ps,p1,d0,_,w,e0,e1,e5,fun v H1 v0 s1 ev a1=>⟨ps,_,w.same s1,e7,fun u H2 fq s2 r2=> ?_⟩⟩
   obtain⟨v0',fp,h1,h2⟩:=w j d0 e0
   rw [ev] at h1;cases h1
   obtain⟨fd,rd⟩:=uA (h2.same (s1.trans s2)) e5 (a1.same s2)
   obtain⟨l,vs,g,rfl,hl,hr,_⟩:=rd.lstT_inv
   have ln:=hr.length
   have hn:=(pA e9).2.1
   obtain⟨v1,hv⟩:∃v1,vs[n]? =some v1:=⟨_,List.getElem?_eq_getElem (by rw [ln];exact hn)⟩
   refine⟨l,vs,i,v1,rfl,r2.is_int,.inl (.inl hl),?_,q _ H2 v0 (s1.trans s2) ev (At.snoc_ix hl hv (a1.same s2))⟩
   unfold atI
   rw [ln,e9];exact hv
  ·cases e8
def cE(j:Nat)(pf:PSt->Option (List Ps1))(g:tz3)(h:List D->D->Option (D×D)):tz8:=fun ps=>((ps[j]?).join).bind fun d0=>(pf ps).bind fun p=>(g ps).bind fun ys=>(dX (h ys) d0 p).bind fun r=>some (r.1,ps.set j (some r.2))
theorem oB{h:List D->D->Option (D×D)}{ps ps':PSt}{d:D}(e:cE j pf g h ps=some (d,ps')):∃d0 p ys d0',ps[j]? =some (some d0)/\pf ps=some p/\g ps=some ys/\dX (h ys) d0 p=some (d,d0')/\ps'=ps.set j (some d0'):=by
 obtain⟨d0,e1,e2⟩:=bind_some e
 obtain⟨p,e3,e4⟩:=bind_some e2
 obtain⟨ys,e5,e6⟩:=bind_some e4
 obtain⟨⟨r,d0'⟩,e7,e8⟩:=bind_some e6
 cases e8
 exact⟨d0,p,ys,d0',join_some e1,e3,e5,e7,rfl⟩
def cG:List D->D->Option (D×D)
 |[y],.lst true xs=>if xs.length<sizeLine then some (.non,.lst true (xs++[y])) else none
 |_,_=>none
theorem oC{ys:List D}{d r d':D}(h:cG ys d=some (r,d')):∃y xs,ys=[y]/\d= .lst true xs/\xs.length<sizeLine/\r= .non/\d'= .lst true (xs++[y]):=by
 unfold cG at h
 split at h
 ·obtain⟨hc,e⟩:=cB h
  cases e
  exact⟨_,_,rfl,rfl,hc,rfl,rfl⟩
 ·cases h
theorem rC{H H1:Hp}{σ:St}{ps:PSt}{d0 d:D}{v0 v:V}{p:List Ps1}(w:WS K κ H σ ps)(s1:SameK H H1)(e0:ps[j]? =some (some d0))(ev:σ[j]? =some (some v0))(g:eH d0 p=some d)(a:At H1 v0 p v):∃fd,Rep K κ H1 v d fd:=by
 obtain⟨v0',fp,h1,h2⟩:=w j d0 e0
 rw [ev] at h1;cases h1
 exact uA (h2.same s1) g a
theorem iW(hb:φ.bor j=false)(ho:PE X o (iT X.K κ j pf))(ha:PA X [e] (tPA X.K κ g))
  (hbase:attributeBase o "append" X.env (eval o X.env)=eval o X.env:=by rfl)
  (hfew:((backTo pos (starEach [e] X.env)).all (fun x=> !x.1)&&(backToKw pos (keywordEach [] X.env)).all (fun x=>x.1.isSome)
   &&decide ([e].length+([]:List Keyword).length+(if ([]:List Keyword).isEmpty then 0 else 1)<30))=true:=by rfl)
  (hline:(apos.endLine==pos.line)=true:=by rfl) (hs:starEach [e] X.env=(false,eval e X.env)::starEach [] X.env:=by rfl) (hplain:(backTo pos (starEach [] X.env)).any (·.1)=false:=by rfl):
  QE X κ φ (.Call (.Attribute o "append" apos) [e] [] pos) (cE j pf g cG):=
 (wJ PySem.F.plainAttrs_list PySem.F.slot_list_append PySem.F.type_list_append rT ho ha hbase hfew hline hs hplain).imp fun σ H Q hh_=>by
  obtain⟨ps,F,d,ps',R,e,q⟩:=hh_
  obtain⟨d0,p,ys,d0',e0,ep,eg,em,rfl⟩:=oB e
  obtain⟨dd,dn,gp,hh⟩:=nC em
  refine⟨ps,p,d0,dd,R.ws,e0,ep,gp,fun v H1 v0 s1 ev a1=>⟨?_,ps,ys,R.ws.same s1,eg,fun vs H2 fy s2 n2 nd2 r2=> ?_⟩⟩
  ·obtain⟨y,xs,rfl,rfl,_⟩:=oC hh
   obtain⟨fd,rd⟩:=rC R.ws s1 e0 ev gp a1
   obtain⟨_,_,_,rfl,hl,hr,rfl⟩:=rd.lstT_inv
   exact .inl ⟨rfl,_,.inl (.inl hl)⟩
  ·obtain⟨d1,d1',fd,m1,m2,m3,m4,m5⟩:=qG R (s1.trans s2) hb e0 ev em (a1.same s2)
   obtain⟨y,xs,rfl,rfl,hz,rfl,rfl⟩:=oC m2
   obtain⟨u,rfl,ru⟩:=r2.one_inv
   obtain⟨l,us,g1,rfl,hl,hr,rfl⟩:=m1.lstT_inv
   have ln:=hr.length
   refine⟨l,us,u,rfl,rfl,hl,by omega,?_⟩
   have nl:l∉fy:=fun z=>by have:=n2 l z;have:=s1.keep l;obtain⟨o,h1,h2,_⟩:=R.own (m4 l List.mem_cons_self);have:=s1.keep l o h1 h2;rw [n2 l z] at this;cases this
   obtain⟨nl2,nd3⟩:=List.nodup_cons.mp m3
   have up:∀a,a≠l->upd H2 l (.lst (us++[u])) a=H2 a:=fun a h=>bR h
   have tfk:∀a o,H2 a=some o->tf o=true->upd H2 l (.lst (us++[u])) a=some o:=fun a o h t=>by
    rw [up a]
    ·exact h
    ·rintro rfl;rw [hl] at h;cases h;cases t
   obtain⟨F',st,ow⟩:=m5 (upd H2 l (.lst (us++[u]))) (l::(g1++fy)) [] (fun a o h _ hn=>by rw [up a (fun z=>hn (z▸List.mem_cons_self))];exact h)
    (fun a h=>by
     by_cases z:a=l
     ·subst z;rw [dJ] at h;cases h
     ·rw [up a z] at h;exact h)
    (.lst dJ (Reps.append (hr.move tfk fun a ha=>up a fun z=>nl2 (z▸ha)) (Reps.one (ru.move tfk fun a ha=>up a fun z=>nl (z▸ha)))))
    (by
     rw [List.append_nil,List.nodup_cons,List.nodup_append]
     refine⟨fun z=>(List.mem_append.mp z).elim nl2 nl,nd3,nd2,fun a ha b hb e=> ?_⟩
     subst e
     obtain⟨o,h1,h2,_⟩:=R.own (m4 a (List.mem_cons_of_mem _ ha))
     have:=s1.keep a o h1 h2
     rw [n2 a hb] at this;cases this)
    (fun a ha=>by
     rw [List.append_nil] at ha
     rcases List.mem_cons.mp ha with z|z
     ·exact .inl (z▸List.mem_cons_self)
     ·rcases List.mem_append.mp z with z|z
      ·exact .inl (List.mem_cons_of_mem _ z)
      ·exact .inr (s1.grow a (n2 a z)))
   exact q .non _ F' [] st ow .non
end
section
variable{K:tz0}{κ:tz9}{H:Hp}{l:Addr}{o0 o:HO}
theorem yS(hl:H l=some o0)(ht:tf o0=false):∀a u,H a=some u->tf u=true->upd H l o a=some u:=fun a u h t=>by
 rw [bR]
 ·exact h
 ·rintro rfl;rw [hl] at h;cases h;rw [ht] at t;cases t
theorem Rep.updL{v:V}{d:D}{g:List Addr}(r:Rep K κ H v d g)(hl:H l=some o0)(ht:tf o0=false)(n:l∉g):Rep K κ (upd H l o) v d g:=r.move (yS hl ht) fun a ha=>bR fun z=>n (z▸ha)
theorem Reps.updL{v:List V}{d:List D}{g:List Addr}(r:Reps K κ H v d g)(hl:H l=some o0)(ht:tf o0=false)(n:l∉g):Reps K κ (upd H l o) v d g:=r.move (yS hl ht) fun a ha=>bR fun z=>n (z▸ha)
theorem pQ{a:Addr}{u:HO}{g:List Addr}(h:H a=some u)(n:a∉l::g):upd H l o a=some u:=by
 rw [bR (fun z=>n (by rw [z];exact List.mem_cons_self))];exact h
theorem pR{a:Addr}(h:upd H l o a=none):H a=none:=by
 by_cases z:a=l
 ·subst z;rw [dJ] at h;cases h
 ·rw [bR z] at h;exact h
theorem Reps.pop:∀{vs:List V} {ds:List D} {g:List Addr} {d:D},Reps K κ H vs ds g->ds[ds.length-1]? =some d->∃v g1 f,vs[vs.length-1]? =some v/\Rep K κ H v d f/\Reps K κ H vs.dropLast ds.dropLast g1/\g=g1++f
 |_,_,_,_,.nil,e=>by simp at e
 |_,[d1],_,d,.cons (f:=f) h .nil,e=>by
  have e':d1=d:=by simpa using e
  subst e'
  exact⟨_,[],f,by simp,h,.nil,by simp⟩
 |v::v2::vs,d1::d2::ds,_,d,.cons (f:=f) h (.cons (f:=f2) (g:=g2) h2 hs),e=>by
  obtain⟨w,g1,f',k1,k2,k3,k4⟩:=Reps.pop (.cons h2 hs) (d:=d) (by simpa using e)
  refine⟨w,f++g1,f',by simpa using k1,k2,?_,by rw [List.append_assoc,<-k4]⟩
  rw [List.dropLast_cons₂,List.dropLast_cons₂]
  exact .cons h k3
theorem Reps.setV:∀{vs:List V} {ds:List D} {g:List Addr} {n:Nat} {v':V} {d':D} {f':List Addr},Reps K κ H vs ds g->n<ds.length->Rep K κ H v' d' f'->∃f1 bC g',g.Perm (f1++bC)/\Reps K κ H (vs.set n v') (ds.set n d') g'/\g'.Perm (f'++bC)
 |_,_,_,_,_,_,_,.nil,e,_=>by simp at e
 |_,_,_,0,_,_,f',.cons (f:=f) (g:=g) h hs,_,r=>⟨f,g,f'++g,.refl _,.cons r hs,.refl _⟩
 | _,_,_,n+1,_,_,f',.cons (f:=f) (g:=g) h hs,e,r=>by
  obtain⟨f1,bC,g',h1,h2,h3⟩:=Reps.setV (n:=n) hs (by simpa using e) r
  refine⟨f1,f++bC,f++g',?_,.cons h h2,?_⟩
  ·refine(h1.append_left f).trans ?_
   rw [<-List.append_assoc,<-List.append_assoc]
   exact List.perm_append_comm.append_right bC
  ·refine(h3.append_left f).trans ?_
   rw [<-List.append_assoc,<-List.append_assoc]
   exact List.perm_append_comm.append_right bC
end
section
variable{X:Cx}{φ:F0}{κ:tz9}{K:tz0}{o e a b:Expr}{f fi fe:tz2}{g:tz3}{pf:PSt->Option (List Ps1)}{j:Nat}{pos apos:Pos}
def fA:List D->D->Option (D×D)
 |[],.lst true xs=>(xs[xs.length-1]?).bind fun y=>some (y,.lst true xs.dropLast)
 |_,_=>none
theorem sB{ys:List D}{d r d':D}(h:fA ys d=some (r,d')):∃xs,ys=[]/\d= .lst true xs/\xs[xs.length-1]? =some r/\d'= .lst true xs.dropLast:=by
 unfold fA at h
 split at h
 ·obtain⟨y,h1,h2⟩:=bind_some h
  cases h2
  exact⟨_,rfl,rfl,h1,rfl⟩
 ·cases h
theorem oD(hb:φ.bor j=false)(ho:PE X o (iT X.K κ j pf))
  (hbase:attributeBase o "pop" X.env (eval o X.env)=eval o X.env:=by rfl) (hline:(apos.endLine==pos.line)=true:=by rfl):QE X κ φ (.Call (.Attribute o "pop" apos) [] [] pos) (cE j pf aC fA):=
 (zk9 PySem.F.plainAttrs_list PySem.F.slot_list_pop PySem.F.type_list_pop zl0 ho hbase hline).imp fun σ H Q hh_=>by
  obtain⟨ps,F,d,ps',R,e,q⟩:=hh_
  obtain⟨d0,p,ys,d0',e0,ep,eg,em,rfl⟩:=oB e
  cases eg
  obtain⟨dd,dn,gp,hh⟩:=nC em
  refine⟨ps,p,d0,dd,R.ws,e0,ep,gp,fun v H1 v0 s1 ev a1=>⟨?_,?_⟩⟩
  ·obtain⟨xs,_,rfl,_⟩:=sB hh
   obtain⟨fd,rd⟩:=rC R.ws s1 e0 ev gp a1
   obtain⟨_,_,_,rfl,hl,hr,rfl⟩:=rd.lstT_inv
   exact .inl ⟨rfl,_,.inl (.inl hl)⟩
  ·obtain⟨d1,d1',fd,m1,m2,m3,m4,m5⟩:=qG R s1 hb e0 ev em a1
   obtain⟨xs,_,rfl,hx,rfl⟩:=sB m2
   obtain⟨l,us,g1,rfl,hl,hr,rfl⟩:=m1.lstT_inv
   obtain⟨u,g2,f2,k1,k2,k3,rfl⟩:=hr.pop hx
   obtain⟨nl,nd3⟩:=List.nodup_cons.mp m3
   have n1:l∉g2:=fun z=>nl (List.mem_append_left _ z)
   have n2:l∉f2:=fun z=>nl (List.mem_append_right _ z)
   refine⟨l,us,u,rfl,rfl,hl,k1,?_⟩
   obtain⟨F',st,ow⟩:=m5 (upd H1 l (.lst us.dropLast)) (l::g2) f2 (fun a o h _ hn=>pQ h hn)
    (fun a h=>pR h)
    (.lst dJ (k3.updL hl rfl n1)) (by rw [List.cons_append,List.nodup_cons];exact⟨nl,nd3⟩) (fun a ha=> .inl ha)
   exact q u _ F' f2 st ow (k2.updL hl rfl n2)
def cO:List D->D->Option (D×D)
 |[.lst true ys],.lst true xs=>if (D.imms ys=true/\xs.length+ys.length<=sizeLine) then some (.non,.lst true (xs++ys)) else none
 |_,_=>none
theorem oE{ys:List D}{d r d':D}(h:cO ys d=some (r,d')):∃zs xs,ys=[.lst true zs]/\d= .lst true xs/\D.imms zs=true/\xs.length+zs.length<=sizeLine/\r= .non/\d'= .lst true (xs++zs):=by
 unfold cO at h
 split at h
 ·obtain⟨hc,e⟩:=cB h
  cases e
  exact⟨_,_,rfl,rfl,hc.1,hc.2,rfl,rfl⟩
 ·cases h
theorem lZ(hb:φ.bor j=false)(ho:PE X o (iT X.K κ j pf))(ha:PA X [e] (tVA X.K κ g))
  (hbase:attributeBase o "extend" X.env (eval o X.env)=eval o X.env:=by rfl)
  (hfew:((backTo pos (starEach [e] X.env)).all (fun x=> !x.1)&&(backToKw pos (keywordEach [] X.env)).all (fun x=>x.1.isSome)
   &&decide ([e].length+([]:List Keyword).length+(if ([]:List Keyword).isEmpty then 0 else 1)<30))=true:=by rfl)
  (hline:(apos.endLine==pos.line)=true:=by rfl) (hs:starEach [e] X.env=(false,eval e X.env)::starEach [] X.env:=by rfl) (hplain:(backTo pos (starEach [] X.env)).any (·.1)=false:=by rfl):
  QE X κ φ (.Call (.Attribute o "extend" apos) [e] [] pos) (cE j pf g cO):=
 (wJ PySem.F.plainAttrs_list PySem.F.slot_list_extend PySem.F.type_list_extend yC ho ha hbase hfew hline hs hplain).imp fun σ H Q hh_=>by
  obtain⟨ps,F,d,ps',R,e,q⟩:=hh_
  obtain⟨d0,p,ys,d0',e0,ep,eg,em,rfl⟩:=oB e
  obtain⟨dd,dn,gp,hh⟩:=nC em
  refine⟨ps,p,d0,dd,R.ws,e0,ep,gp,fun v H1 v0 s1 ev a1=>⟨?_,ps,ys,R.ws.same s1,eg,fun vs H2 fy s2 r2=> ?_⟩⟩
  ·obtain⟨zs,xs,rfl,rfl,_⟩:=oE hh
   obtain⟨fd,rd⟩:=rC R.ws s1 e0 ev gp a1
   obtain⟨_,_,_,rfl,hl,hr,rfl⟩:=rd.lstT_inv
   exact .inl ⟨rfl,_,.inl (.inl hl)⟩
  ·obtain⟨d1,d1',fd,m1,m2,m3,m4,m5⟩:=qG R (s1.trans s2) hb e0 ev em (a1.same s2)
   obtain⟨zs,xs,rfl,rfl,hi,hz,rfl,rfl⟩:=oE m2
   obtain⟨u,rfl,ru⟩:=r2.one_inv
   obtain⟨_,_,_,rfl,hB,hR,rfl⟩:=ru.lstT_inv
   rename_i b us2 g2
   have e2:=hR.imm hi
   subst e2
   obtain⟨l,us,g1,rfl,hl,hr,rfl⟩:=m1.lstT_inv
   have l1:=hr.length;have l2:=hR.length
   obtain⟨nl,nd3⟩:=List.nodup_cons.mp m3
   refine⟨l,b,us,us2,rfl,rfl,hl,hB,by omega,?_⟩
   have rr:=Reps.append (hr.updL (o:= .lst (us++us2)) hl rfl nl) (hR.updL (o:= .lst (us++us2)) hl rfl (by simp))
   rw [List.append_nil] at rr
   obtain⟨F',st,ow⟩:=m5 (upd H2 l (.lst (us++us2))) (l::g1) [] (fun a o h _ hn=>pQ h hn)
    (fun a h=>pR h)
    (.lst dJ rr) (by rw [List.append_nil];exact m3) (fun a ha=> .inl (by rw [List.append_nil] at ha;exact ha))
   exact q .non _ F' [] st ow .non
def iJ:List D->D->Option (D×D)
 |[],.lst true _=>some (.non,.lst true [])
 |_,_=>none
def fD:D->D->D->Option (Unit×D)
 | .int i,y,.lst true xs=>(ixN xs.length i).bind fun n=>some ((),.lst true (xs.set n y))
 |_,_,_=>none
def eO(j:Nat)(pf:PSt->Option (List Ps1))(fi fe:tz2):tz1:=fun ps=>(fe ps).bind fun y=>((ps[j]?).join).bind fun d0=>(pf ps).bind fun p=>(fi ps).bind fun i=>(dX (fD i y) d0 p).bind fun r=>some (.nx,ps.set j (some r.2))
theorem vE{i y d d':D}{r:Unit}(h:fD i y d=some (r,d')):∃k xs n,i= .int k/\d= .lst true xs/\ixN xs.length k=some n/\d'= .lst true (xs.set n y):=by
 unfold fD at h
 split at h
 ·obtain⟨n,h1,h2⟩:=bind_some h
  cases h2
  exact⟨_,_,n,rfl,rfl,h1,rfl⟩
 ·cases h
theorem pS{i:Expr}(hb:φ.bor j=false)(he:PE X e (tP X.K κ fe))(ho:PE X o (iT X.K κ j pf))(hi:PE X i (tV X.K κ fi))(hs:swapsWithSole [.Subscript o i apos] e pos.line X.env=pure false:=by rfl)(hw:swappedStores [.Subscript o i apos] e X.env=pure none:=by rfl)
  (h1:(assignEach [.Subscript o i apos] X.env).map (·.2)=[assign (.Subscript o i apos) X.env]:=by rfl)
  (ha:∀v,assign (.Subscript o i apos) X.env v=(do
   let ov<-holding [v] (eval o X.env)
   let iv<-holding [v,ov] (eval i X.env)
   standAt apos
   holding [v,ov,iv] (setItem ov iv v)
   release [v,ov,iv] []):=by intro _;rfl):QS X κ φ (.Assign [.Subscript o i apos] e pos) (eO j pf fi fe):=
 (zj6 he (zj5 ho hi za0 ha) hs hw h1).imp fun E σ H hh_=>by
  obtain⟨ps,F,fl,ps',R,e,q⟩:=hh_
  obtain⟨y,e1,e2⟩:=bind_some e
  obtain⟨d0,e3,e4⟩:=bind_some e2
  have e0:=join_some e3
  obtain⟨p,e5,e6⟩:=bind_some e4
  obtain⟨iv,e7,e8⟩:=bind_some e6
  obtain⟨⟨r,d0'⟩,em,e9⟩:=bind_some e8
  cases e9
  obtain⟨dd,dn,gp,hh⟩:=nC em
  refine⟨ps,y,R.ws,e1,fun v H1 fy s1 n1 nd1 ry=>⟨ps,p,d0,dd,R.ws.same s1,e0,e5,gp,fun lv H2 v0 s2 ev a2=>⟨ps,iv,(R.ws.same s1).same s2,e7,fun u H3 fu s3 r3=> ?_⟩⟩⟩
  have s13:=(s1.trans s2).trans s3
  obtain⟨d1,d1',fd,m1,m2,m3,m4,m5⟩:=qG R s13 hb e0 ev em (a2.same s3)
  obtain⟨k,xs,n,rfl,rfl,hn,rfl⟩:=vE m2
  obtain⟨l,us,g1,rfl,hl,hr,rfl⟩:=m1.lstT_inv
  have ln:=hr.length
  have ry3:=(ry.same s2).same s3
  obtain⟨nl,nd3⟩:=List.nodup_cons.mp m3
  have own0:∀a∈l::g1,H a≠none:=fun a ha z=>by obtain⟨o,h,_⟩:=R.own (m4 a ha);rw [z] at h;cases h
  have nl2:l∉fy:=fun z=>own0 l List.mem_cons_self (n1 l z)
  obtain⟨f1,bC,g2,k1,k2,k3⟩:=hr.setV (n:=n) (pA hn).2.1 ry3
  have mem2:∀a∈g2,a∈fy\/a∈g1:=fun a ha=>(List.mem_append.mp (k3.mem_iff.mp ha)).elim .inl fun z=> .inr (k1.mem_iff.mpr (List.mem_append_right _ z))
  have n2:l∉g2:=fun z=>(mem2 l z).elim nl2 nl
  refine⟨l,us,k,n,rfl,r3.is_int,hl,by rw [ln];exact hn,?_⟩
  obtain⟨F',st,ow⟩:=m5 (upd H3 l (.lst (us.set n v))) (l::g2) [] (fun a o h _ hn=>pQ h hn)
   (fun a h=>pR h)
   (.lst dJ (k2.updL hl rfl n2))
   (by
    rw [List.append_nil,List.nodup_cons]
    refine⟨n2,k3.nodup_iff.mpr (List.nodup_append.mpr ⟨nd1,?_,fun a ha b hb e=> ?_⟩)⟩
    ·exact(List.nodup_append.mp (k1.nodup_iff.mp nd3)).2.1
    ·subst e
     exact own0 a (List.mem_cons_of_mem _ (k1.mem_iff.mpr (List.mem_append_right _ hb))) (n1 a ha))
   (fun a ha=>by
    rw [List.append_nil] at ha
    rcases List.mem_cons.mp ha with z|z
    ·exact .inl (by rw [z];exact List.mem_cons_self)
    ·exact(mem2 a z).elim (fun z=> .inr (n1 a z)) fun z=> .inl (List.mem_cons_of_mem _ z))
  exact q _ _ F' st
end
section
variable{φ:Fx}{H H1:Hp}{σ σ1:St}{ps ps1:PSt}{F F1:Nat->List Addr}
def kH:PSt->List Nat->List D->PSt
 |ps,i::is,d::ds=>kH (ps.set i (some d)) is ds
 |ps,_,_=>ps
end
def kQ:D->Option (List D)
 | .lst _ ds=>some ds
 | .tup ds=>some ds
 |_=>none
def lB(is:List Nat)(f:tz8):tz1:=fun ps=>(f ps).bind fun r=>(kQ r.1).bind fun ds=>if ds.length=is.length then some (.nx,kH r.2 is ds) else none
def D.key:D->Option Key
 | .int i=>some (.inl i)
 | .str x=>some (.inr x)
 |_=>none
theorem RS.more{φ:Fx}{H:Hp}{σ σ2:St}{ps:PSt}{F:Nat->List Addr}{n:Nat}(R:RS φ H σ ps F)(hl:ps.length=σ.length)(h2:n<=σ2.length):RS φ H (σ++σ2) (ps++List.replicate n none) F:=by
 refine⟨fun i d h=> ?_,fun i a h=> ?_,R.dis,R.nd,R.nb,R.bt,by simp [hl];omega⟩
 ·by_cases hi:i<ps.length
  ·rw [List.getElem?_append_left hi] at h
   rw [List.getElem?_append_left (by omega)]
   exact R.rep i d h
  ·rw [List.getElem?_append_right (by omega),List.getElem?_replicate] at h
   split at h<;>cases h
 ·obtain⟨b,d,e⟩:=R.emp i a h
  have hi:=(List.getElem?_eq_some_iff.mp e).1
  exact⟨b,d,by rw [List.getElem?_append_left hi];exact e⟩
set_option genInjectivity true in
inductive Arg where
 |io (j:Nat)|im (f:tz2)
def uY:List Arg->Nat->Bool
 | .io _::_,0=>true
 |_::as,i+1=>uY as i
 |_,_=>false
def slots:List Arg->List Nat
 |[]=>[]
 | .io j::as=>j::slots as
 | .im _::as=>slots as
inductive ArgsAt(K:tz0)(κ:tz9)(H:Hp)(σ:St)(ps:PSt):List Arg->List V->List D->Prop
 |nil:ArgsAt K κ H σ ps [] [] []
 |io {j:Nat} {as:List Arg} {v:V} {vs:List V} {d:D} {ds:List D}:σ[j]? =some (some v)->ps[j]? =some (some d)->ArgsAt K κ H σ ps as vs ds->ArgsAt K κ H σ ps (.io j::as) (v::vs) (d::ds)
 |im {f:tz2} {as:List Arg} {v:V} {vs:List V} {d:D} {ds:List D}:Rep K κ H v d []->ArgsAt K κ H σ ps as vs ds->ArgsAt K κ H σ ps (.im f::as) (v::vs) (d::ds)
theorem ArgsAt.same{K:tz0}{κ:tz9}{H H':Hp}{σ:St}{ps:PSt}(s:SameK H H'):∀{as:List Arg} {vs:List V} {ds:List D},ArgsAt K κ H σ ps as vs ds->ArgsAt K κ H' σ ps as vs ds
 |_,_,_,.nil=> .nil
 |_,_,_,.io h1 h2 h=> .io h1 h2 (ArgsAt.same s h)
 |_,_,_,.im r h=> .im (r.same s) (ArgsAt.same s h)
theorem ArgsAt.len{K:tz0}{κ:tz9}{H:Hp}{σ:St}{ps:PSt}:∀{as:List Arg} {vs:List V} {ds:List D},ArgsAt K κ H σ ps as vs ds->vs.length=as.length/\ds.length=as.length
 |_,_,_,.nil=>⟨rfl,rfl⟩
 |_,_,_,.io _ _ h=>by have:=h.len;simp [this]
 |_,_,_,.im _ h=>by have:=h.len;simp [this]
theorem ArgsAt.get{K:tz0}{κ:tz9}{H:Hp}{σ:St}{ps:PSt}:∀{as:List Arg} {vs:List V} {ds:List D} {i:Nat} {d:D},ArgsAt K κ H σ ps as vs ds->ds[i]? =some d->∃v,vs[i]? =some v/\((∃j,as[i]? =some (.io j)/\uY as i=true/\σ[j]? =some (some v)/\ps[j]? =some (some d))\/(uY as i=false/\Rep K κ H v d []))
 |_,_,_,_,_,.nil,e=>by simp at e
 |_,_,_,0,_,.io h1 h2 _,e=>by simp at e;subst e;exact⟨_,rfl,.inl ⟨_,rfl,rfl,h1,h2⟩⟩
 |_,_,_,0,_,.im r _,e=>by simp at e;subst e;exact⟨_,rfl,.inr ⟨rfl,r⟩⟩
 |_,_,_,i+1,_,.io _ _ h,e=>by
  obtain⟨v,h1,h2⟩:=ArgsAt.get (i:=i) h (by simpa using e)
  exact⟨v,by simpa using h1,by simpa [uY] using h2⟩
 |_,_,_,i+1,_,.im _ h,e=>by
  obtain⟨v,h1,h2⟩:=ArgsAt.get (i:=i) h (by simpa using e)
  exact⟨v,by simpa using h1,by simpa [uY] using h2⟩
def lend(φ:Fx)(j:Nat)(fp:List Addr):Fx:=⟨φ.K,φ.κ,fun i=>decide (i=j)||φ.bor i,fun i=>decide (i=j)||φ.M i,fun i a=>if i=j then a∈fp else φ.B i a⟩
section
variable{φ:Fx}{H H':Hp}{σ σ':St}{ps ps':PSt}{F F':Nat->List Addr}{j:Nat}{d:D}
theorem RS.lend(R:RS φ H σ ps F)(hb:φ.bor j=false)(e:ps[j]? =some (some d)):RS (L2.lend φ j (F j)) H σ ps (jB F j []):=by
 have eF:∀i a,a∈jB F j [] i->i≠j/\a∈F i:=fun i a h=>by
  by_cases z:i=j
  ·subst z;rw [cH] at h;exact absurd h (by simp)
  ·rw [cF z] at h;exact⟨z,h⟩
 refine⟨fun i d' h=> ?_,fun i a h=> ?_,fun i k a h1 h2=>R.dis i k a (eF i a h1).2 (eF k a h2).2,fun i=> ?_,fun i a h k hB=> ?_,fun k a hB=> ?_,R.len⟩
 ·obtain⟨v,fp,h1,h2,h3,h4⟩:=R.rep i d' h
  refine⟨v,fp,h1,h2,fun z=> ?_,fun z=> ?_⟩
  ·have hij:i≠j:=by rintro rfl;simp [L2.lend] at z
   rw [cF hij]
   exact h3 (by simpa [L2.lend,hij] using z)
  ·by_cases hij:i=j
   ·subst hij
    rw [h3 hb]
    intro a ha
    show(if i=i then a∈F i else φ.B i a)
    rw [if_pos rfl];exact ha
   ·intro a ha
    show(if i=j then a∈F j else φ.B i a)
    rw [if_neg hij]
    exact h4 (by simpa [L2.lend,hij] using z) a ha
 ·obtain⟨hij,h⟩:=eF i a h
  obtain⟨b,d',q⟩:=R.emp i a h
  exact⟨by simp [L2.lend,hij,b],d',q⟩
 ·by_cases z:i=j
  ·subst z;rw [cH];exact List.nodup_nil
  ·rw [cF z];exact R.nd i
 ·obtain⟨hij,h⟩:=eF i a h
  have hB':(if k=j then a∈F j else φ.B k a):=hB
  by_cases z:k=j
  ·rw [if_pos z] at hB';exact hij (R.dis i j a h hB')
  ·rw [if_neg z] at hB';exact R.nb i a h k hB'
 ·have hB':(if k=j then a∈F j else φ.B k a):=hB
  by_cases z:k=j
  ·rw [if_pos z] at hB'
   obtain⟨o,q,_⟩:=R.own hB'
   rw [q];exact fun w=>nomatch w
  ·rw [if_neg z] at hB';exact R.bt k a hB'
theorem Stp.unlend(R:RS φ H σ ps F)(hb:φ.bor j=false)(e:ps[j]? =some (some d))(s:Stp (L2.lend φ j (F j)) σ H (jB F j []) σ' H' ps' F'):
  ∃F2,Stp φ σ H F σ' H' (ps'.set j (some d)) F2/\∀fv,OwnV (jB F j []) H F' fv->OwnV F H F2 fv:=by
 have eF:∀i a,a∈jB F j [] i->i≠j/\a∈F i:=fun i a h=>by
  by_cases z:i=j
  ·subst z;rw [cH] at h;exact absurd h (by simp)
  ·rw [cF z] at h;exact⟨z,h⟩
 obtain⟨v,fp,h1,h2,h3,_⟩:=R.rep j d e
 have h3:=h3 hb
 subst h3
 have keepJ:∀a∈F j,∀o,H a=some o->kd o=true->H' a=some o:=fun a ha o h k=>s.fr.keep a o h k fun i hi=>(eF i a hi).1 (R.dis i j a (eF i a hi).2 ha)
 have tfk:∀a o,H a=some o->tf o=true->H' a=some o:=fun a o h t=>s.fr.keep a o h (kL t) fun i hi=>by
  obtain⟨o',h',_,t'⟩:=R.own (eF i a hi).2
  rw [h] at h';cases h';rw [t] at t';cases t'
 have repJ:Rep φ.K φ.κ H' v d (F j):=h2.move tfk fun a ha=>by
  obtain⟨o,q1,q2,_⟩:=h2.own a ha
  rw [q1];exact keepJ a ha o q1 q2
 have notJ:∀i a,a∈F' i->a∉F j:=fun i a h hj=>by
  rcases s.nw i a h with ⟨k,hk⟩|z
  ·exact(eF k a hk).1 (R.dis k j a (eF k a hk).2 hj)
  ·obtain⟨o,q,_⟩:=R.own hj;rw [z] at q;cases q
 have nj:∀a,a∉F' j:=fun a h=>by
  have:=(s.rs.emp j a h).1
  simp [L2.lend] at this
 have hM:σ'[j]? =σ[j]? :=s.msk j (by simp [L2.lend])
 have lt:j<ps.length:=(List.getElem?_eq_some_iff.mp e).1
 refine⟨if j<ps'.length then jB F' j (F j) else F',⟨⟨fun a o h k n=>s.fr.keep a o h k fun i hi=>n i (eF i a hi).2,s.fr.grow⟩,fun i a h=> ?_,?_,fun i h=>s.msk i (by simp [L2.lend,h])⟩,fun fv o=> ?_⟩
 ·have h':a∈F j\/a∈F' i:=by
   by_cases z:j<ps'.length
   ·rw [if_pos z] at h;exact fK h
   ·rw [if_neg z] at h;exact .inr h
  rcases h' with z|z
  ·exact .inl ⟨j,z⟩
  ·exact(s.nw i a z).elim (fun⟨k,hk⟩=> .inl ⟨k,(eF k a hk).2⟩) .inr
 ·have back:∀i d',i≠j->ps'[i]? =some (some d')->∃v fp,σ'[i]? =some (some v)/\Rep φ.K φ.κ H' v d' fp/\(φ.bor i=false->fp=F' i)/\(φ.bor i=true->∀a∈fp,φ.B i a):=fun i d' hij h=>by
   obtain⟨v',fp',q1,q2,q3,q4⟩:=s.rs.rep i d' h
   refine⟨v',fp',q1,q2,fun z=>q3 (by simp [L2.lend,hij,z]),fun z a ha=> ?_⟩
   have:=q4 (by simp [L2.lend,z]) a ha
   have this':(if i=j then a∈F j else φ.B i a):=this
   rwa [if_neg hij] at this'
  have bt:∀k a,φ.B k a->H' a≠none:=fun k a hB z=>R.bt k a hB (s.fr.grow a z)
  by_cases z:j<ps'.length
  ·rw [if_pos z]
   refine⟨fun i d' h=> ?_,fun i a h=> ?_,fun i k a h1 h2=> ?_,fun i=> ?_,fun i a h k hB=> ?_,bt,by simpa using s.rs.len⟩
   ·by_cases hij:i=j
    ·subst hij
     rw [List.getElem?_set_self z] at h
     cases h
     exact⟨v,F i,hM.trans h1,repJ,fun _=>cH.symm,fun w=>by rw [hb] at w;cases w⟩
    ·rw [List.getElem?_set_ne (fun w=>hij w.symm)] at h
     rw [cF hij]
     exact back i d' hij h
   ·by_cases hij:i=j
    ·subst hij;exact⟨hb,d,by rw [List.getElem?_set_self z]⟩
    ·rw [cF hij] at h
     obtain⟨b,d',q⟩:=s.rs.emp i a h
     exact⟨by simpa [L2.lend,hij] using b,d',by rw [List.getElem?_set_ne (fun w=>hij w.symm)];exact q⟩
   ·by_cases e1:i=j
    ·by_cases e2:k=j
     ·rw [e1,e2]
     ·subst e1;rw [cH] at h1;rw [cF e2] at h2;exact absurd h1 (notJ k a h2)
    ·by_cases e2:k=j
     ·subst e2;rw [cH] at h2;rw [cF e1] at h1;exact absurd h2 (notJ i a h1)
     ·rw [cF e1] at h1;rw [cF e2] at h2;exact s.rs.dis i k a h1 h2
   ·by_cases hij:i=j
    ·subst hij;rw [cH];exact R.nd i
    ·rw [cF hij];exact s.rs.nd i
   ·rcases fK h with w|w
    ·exact R.nb j a w k hB
    ·by_cases hkj:k=j
     ·subst hkj
      have hH:=R.bt k a hB
      rcases s.nw i a w with ⟨m,hm⟩|y
      ·exact R.nb m a (eF m a hm).2 k hB
      ·exact hH y
     ·have hB':(L2.lend φ j (F j)).B k a:=by show(if k=j then a∈F j else φ.B k a);rw [if_neg hkj];exact hB
      exact s.rs.nb i a w k hB'
  ·rw [if_neg z,List.set_eq_of_length_le (by omega)]
   refine⟨fun i d' h=> ?_,fun i a h=> ?_,s.rs.dis,s.rs.nd,fun i a h k hB=> ?_,bt,s.rs.len⟩
   ·have hij:i≠j:=by rintro rfl;exact z (List.getElem?_eq_some_iff.mp h).1
    exact back i d' hij h
   ·obtain⟨b,d',q⟩:=s.rs.emp i a h
    have hij:i≠j:=by rintro rfl;exact nj a h
    exact⟨by simpa [L2.lend,hij] using b,d',q⟩
   ·rcases s.nw i a h with ⟨m,hm⟩|y
    ·exact R.nb m a (eF m a hm).2 k hB
    ·exact R.bt k a hB y
 ·refine⟨fun a ha=>(o.nw a ha).elim (fun⟨k,hk⟩=> .inl ⟨k,(eF k a hk).2⟩) .inr,o.nd,fun i a h hv=> ?_⟩
  have h':a∈F j\/a∈F' i:=by
   by_cases z:j<ps'.length
   ·rw [if_pos z] at h;exact fK h
   ·rw [if_neg z] at h;exact .inr h
  rcases h' with w|w
  ·rcases o.nw a hv with ⟨k,hk⟩|y
   ·exact(eF k a hk).1 (R.dis k j a (eF k a hk).2 w)
   ·obtain⟨o',q,_⟩:=R.own w;rw [y] at q;cases q
  ·exact o.dis i a w hv
end
def qP(i j:Nat)(f:tz1):tz1:=fun ps=>((ps[j]?).join).bind fun d=>(iN d).bind fun ds=>(cQ i f ds ps).bind fun r=>some (r.1,r.2.set j (some d))
def F0.lend(φ:F0)(j:Nat)(fp:List Addr):F0:=⟨fun i=>decide (i=j)||φ.bor i,fun i=>decide (i=j)||φ.M i,fun i a=>if i=j then a∈fp else φ.B i a⟩
section
variable{X:Cx}{κ:tz9}{φ:F0}{pos:Pos}{body:List Stmt}{f:tz1}
theorem rD(i j:Nat){x y:Str}{px py:Pos}(hp:PassesOwn (model X.prog X.w) X.A X.env X.xe)(hc:X.calm=true)(hN:X.N.Nodup)(hi:X.N[i]? =some x)(hx:Loc X.env.scope x)(hb:φ.bor i=false)(hm:φ.M i=false)(hij:i≠j)(hj:φ.bor j=false)
  (hbd:∀fp,QSs X κ (φ.lend j fp) body f) (hNj:X.N[j]? =some y:=by rfl) (hv:Vis X.env.scope y:=by first|exact Or.inl rfl|exact Or.inr (Or.inl rfl)|exact Or.inr (Or.inr rfl)) (hd:(y==("__debug__":Str))=false:=by decide)
  (hcd:(y==("__classdict__":Str))=false:=by decide) (hs:∀x,foldedSetIterable (.Name y py) X.env x=pure x:=by intro _;rfl) (hf:X.fn x=true\/X.env.scope.names.lookup x=some .local:=by first|exact .inl rfl|exact .inr rfl|assumption):
  QS X κ φ (.For (.Name x px) (.Name y py) body [] pos) (qP i j f):=by
 rintro pins s0 σ H E I ⟨ps,F,fl,ps',R,e,q⟩
 obtain⟨d,e3,e1⟩:=bind_some e
 obtain⟨ds,e4,e5⟩:=bind_some e1
 obtain⟨⟨fl',ps2⟩,e2,e6⟩:=bind_some e5
 cases e6
 have e0:=join_some e3
 have R2:=R.lend hj e0
 obtain⟨v,fp,h1,h2,h3,_⟩:=R.rep j d e0
 have h3:=h3 hj
 subst h3
 refine sZ hp hc (qF (lK hNj hv hd hcd)) (jI hN hi hx hf) (hbd (F j)) hs pins s0 σ H E I ?_
 show zo2 X.K (zc2 j) σ H (zc7 (kT i) (tS (lend (φ.fx X.K κ) j (F j)) f) E σ)
 refine⟨v,h1,?_⟩
 refine pC (R:=zc7 (kT i) (tS (lend (φ.fx X.K κ) j (F j)) f) E σ) h2 e4 fun J Z hz W=> ?_
 refine pP (φ:=lend (φ.fx X.K κ) j (F j)) R2 (fun a ha=>⟨?_,fun k hk=> ?_⟩) W (by simp [lend,F0.fx,hb,hij]) (by simp [lend,F0.fx,hm,hij]) e2 ?_
 ·obtain⟨o,q1,_⟩:=h2.own a (hz a ha);rw [q1];exact fun w=>nomatch w
 ·by_cases w:k=j
  ·subst w;rw [cH] at hk;exact absurd hk (by simp)
  ·rw [cF w] at hk;exact w (R.dis k j a hk (hz a ha))
 ·cases fl' with
  |nx=>exact fun σ' H' F' st=>by obtain⟨F2,s2,_⟩:=Stp.unlend R hj e0 st;exact q σ' H' F2 s2
  |bk=>exact fun σ' H' F' st=>by obtain⟨F2,s2,_⟩:=Stp.unlend R hj e0 st;exact q σ' H' F2 s2
  |ct=>exact fun σ' H' F' st=>by obtain⟨F2,s2,_⟩:=Stp.unlend R hj e0 st;exact q σ' H' F2 s2
  |ret d'=>exact fun v σ' H' F' fv st o r=>by obtain⟨F2,s2,o2⟩:=Stp.unlend R hj e0 st;exact q v σ' H' F2 fv s2 (o2 fv o) r
end
inductive AreD:List Expr->List D->Prop
 |nil:AreD [] []
 |int {i:Int} {j:Nat} {pos:Pos} {es:List Expr} {ds:List D}:AreD es ds->AreD (.Constant (.int i) j pos::es) (.int i::ds)
 |str {x:Str} {j:Nat} {pos:Pos} {es:List Expr} {ds:List D}:AreD es ds->AreD (.Constant (.str x) j pos::es) (.str x::ds)
def fKs(ds:List D):tz3:=fun _=>some ds
theorem lF{X:Cx}{κ:tz9}{es:List Expr}{ds:List D}(h:AreD es ds):QPA X κ es (fKs ds):=by
 have key:∃vs,AreC es vs/\∀K κ H,Reps K κ H vs ds []:=by
  induction h with
  |nil=>exact⟨[],.nil,fun _ _ _=> .nil⟩
  |int _ ih=>obtain⟨vs,h1,h2⟩:=ih;exact⟨_,.int h1,fun K κ H=> .cons (f:=[]) (g:=[]) (.int _) (h2 K κ H)⟩
  |str _ ih=>obtain⟨vs,h1,h2⟩:=ih;exact⟨_,.str h1,fun K κ H=> .cons (f:=[]) (g:=[]) (.str _) (h2 K κ H)⟩
 obtain⟨vs,h1,h2⟩:=key
 exact(yM h1).imp fun σ H Q ⟨ps,ds',w,e,q⟩=>by cases e;exact q vs H [] (.refl H) (fun _ h=>absurd h (by simp)) List.nodup_nil (h2 _ _ _)
section
variable{P:Program}{w:World}{K:tz0}{mg:tzA}{base:Heap}{κ:tz9}
theorem FnOk.noneP{f:Addr}{fd:FuncData}{ps:List Str}{k:Nat}:FnOk P w K mg base CX0 k f fd ps (SpP ps.length K κ fun _=>none):=
 ⟨fun vs H Q E h=>h.1,fun A outer s H args us vs Q E _ _ _ _ ⟨_,ds,fp,d,_,e,_⟩=>by cases e⟩
end
section
variable{X:Cx}{κ:tz9}{a b c:Expr}{fa fb fc:tz2}{g g':D->D->Option D}{pos:Pos}
theorem uB{σ:St}{H:Hp}{Q:VK}(h:tP X.K κ (f3 g g' fa fb fc) σ H Q):uU (POp X.K κ g) (POp X.K κ g') (tV X.K κ fa) (tV X.K κ fb) (tV X.K κ fc) σ H Q:=by
 obtain⟨ps,d,w,e,q⟩:=h
 obtain⟨x,e1,e2⟩:=bind_some e
 obtain⟨y,e3,e4⟩:=bind_some e2
 obtain⟨k,e5,e6⟩:=bind_some e4
 obtain⟨t,rfl,e7⟩:=wP (x:=(fc ps).bind fun z=>g' y z) (y:=some (D.bl false)) e6
 refine⟨ps,x,w,e1,fun v H1 f1 s1 r1=>⟨ps,y,w.same s1,e3,fun u H2 f2 s2 r2=>⟨x,y,_,f1,f2,r1.same s2,r2,e5,fun z H3 fz s3 n3 nd3 r3=>⟨t,r3.is_bl,?_⟩⟩⟩⟩
 have s13:=(s1.trans s2).trans s3
 cases t with
 |true=>
  rw [if_pos rfl] at e7|-
  obtain⟨zz,e8,e9⟩:=bind_some e7
  exact⟨ps,zz,w.same s13,e8,fun u' H4 f4 s4 r4=>⟨y,zz,d,f2,f4,(r2.same s3).same s4,r4,e9,q.after (s13.trans s4)⟩⟩
 |false=>
  rw [if_neg Bool.false_ne_true] at e7|-
  cases e7
  exact(q.after s13).now (.bl false)
theorem nD{op op':CmpOp}(ho:OpR X (compareOp op) (POp X.K κ g))(ho':OpR X (compareOp op') (POp X.K κ g'))(ha:QV X κ a fa)(hb:QV X κ b fb)(hc:QV X κ c fc)(hm:lastMarks [op,op'] [b,c]=false:=by with_unfolding_all rfl):QP X κ (.Compare a [op,op'] [b,c] pos) (f3 g g' fa fb fc):=
 (zV ho ho' ha hb hc hm).imp fun _ _ _ h=>uB h
theorem pT{op op':CmpOp}(ho:OpR X (compareOp op) (POp X.K κ g))(ho':OpR X (compareOp op') (POp X.K κ g'))(ha:QV X κ a fa)(hb:QV X κ b fb)(hc:QV X κ c fc)(hm:lastMarks [op,op'] [b,c]=false:=by with_unfolding_all rfl):QT X κ (.Compare a [op,op'] [b,c] pos) (fB (f3 g g' fa fb fc)):=
 (zW ho ho' ha hb hc hm).imp fun σ H Q ⟨ps,k,w,e,q⟩=>uB (Q:=fun x H'=>∃k,x= .bl k/\Q k H') ⟨ps,_,w,vQ e,fun v H' fv s _ _ r=>⟨k,r.is_bl,q H' s⟩⟩
end
structure Mn(K:tz0)(κ:tz9)(C m qual:Str)(st:Stmt)(ps:List Str)(f:Addr)(fd:FuncData):Prop where
 F:Fun K m qual st f fd
 b:mB K fd ps []
 c:Cls K (κ C)
 h:Meth K (κ C) m f
structure Kn(K:tz0)(mg:tzA)(κ:tz9)(C qual:Str)(st:Stmt)(ps:List Str)(f:Addr)(fd:FuncData):Prop where
 F:Fun K "__init__" qual st f fd
 b:mB K fd ps []
 M:Mk K (κ C) f
 m:mg C=some (.ref (κ C))
section
variable{X:Cx}{pins:tzB}{σ:St}{H:Hp}{s:Shared}{a C dx:Addr}{fs:List (Str×V)}
theorem Inv.freeze(I:Inv X pins σ H s)(h:H a=some (.ins C dx fs)):Inv X pins σ (upd H a (.frz (PySem.W.instObj C dx) (.ins C dx fs))) s:=by
 have ne:∀b,H b=none->b≠a:=fun b hb z=>by rw [z,h] at hb;cases hb
 have nt:∀b o,H b=some o->(∀C' dx' fs',o≠ .ins C' dx' fs')->b≠a:=fun b o hb ho z=>by
  rw [z,h] at hb
  cases hb
  exact ho _ _ _ rfl
 refine⟨I.ok,I.os,I.bare,⟨I.base.keep,I.base.slot,fun b o h1 h2 h3=> ?_,I.base.there,fun b xs h1=> ?_,fun b o u h1=> ?_,fun b ps h1=> ?_⟩,I.loc,I.cell,?_,fun x c e=> ?_,fun p hp=> ?_,fun b o e=> ?_,I.len⟩
 ·have:=I.base.free b o h1 h2 h3
  rw [bR (ne b this)];exact this
 ·have:=I.base.tups b xs h1
  rw [bR (nt b _ this fun _ _ _ z=>by cases z)];exact this
 ·have:=I.base.frzs b o u h1
  rw [bR (nt b _ this fun _ _ _ z=>by cases z)];exact this
 ·obtain⟨more,this⟩:=I.base.tbls b ps h1
  exact⟨more,by rw [bR (nt b _ this fun _ _ _ z=>by cases z)];exact this⟩
 ·rw [bR (ne _ I.free)];exact I.free
 ·have:=I.freeC x c e
  rw [bR (ne _ this)];exact this
 ·obtain⟨p1,p2,p3⟩:=I.pin p hp
  exact⟨p1,by rw [bR (ne _ p2)];exact p2,p3⟩
 ·have st:∀{b o},dW X.prog X.w H s.heap b o->dW X.prog X.w (upd H a (.frz (PySem.W.instObj C dx) (.ins C dx fs))) s.heap b o:=fun x=>
   x.stay (fun _ _ _ q=>q) (fun b' hb=>by rw [bR (nt b' _ hb fun _ _ _ z=>by cases z)];exact hb) fun b' xs hb=>by rw [bR (nt b' _ hb fun _ _ _ z=>by cases z)];exact hb
  by_cases z:b=a
  ·subst z
   rw [dJ] at e
   cases e
   have x:=I.hok b _ h
   obtain⟨_,_,_,ob,_⟩:=(show dW X.prog X.w H s.heap b (.ins C dx fs) from x)
   exact⟨ob,st x⟩
  ·rw [bR z] at e
   exact st (I.hok b o e)
end
theorem PE.frz{X:Cx}{e:Expr}{t:TE}(h:PE X e t):PE X e (fun σ H Q=>t σ H fun x H'=>∃a C dx fs,x= .ref a/\H' a=some (.ins C dx fs)/\Q x (upd H' a (.frz (PySem.W.instObj C dx) (.ins C dx fs)))):=by
 intro pins s σ H Q I q
 exact thn (h pins s σ H _ I q) fun v s1 ⟨x,H1,I1,rx,a,C,dx,fs,ex,ea,q1⟩=>⟨x,_,I1.freeze ea,rx,q1⟩
def sS:D->Option (List D)
 | .lst true xs=>if D.imms xs=true then some xs else none
 |_=>none
theorem wV{d:D}{xs:List D}(h:sS d=some xs):d= .lst true xs/\D.imms xs=true:=by
 unfold sS at h
 split at h
 ·obtain⟨h1,h2⟩:=cB h
  cases h2
  exact⟨rfl,h1⟩
 ·cases h
section
variable{X:Cx}{pins:tzB}{σ:St}{H:Hp}{s:Shared}{a:Addr}{xs:List V}
theorem vF(I:Inv X pins σ H s)(h:H a=some (.lst xs)):∃ob,Inv X pins σ (upd H a (.frz ob (.lst xs))) s:=by
 have ne:∀b,H b=none->b≠a:=fun b hb z=>by rw [z,h] at hb;cases hb
 have nt:∀b o,H b=some o->(∀ys,o≠ .lst ys)->b≠a:=fun b o hb ho z=>by
  rw [z,h] at hb
  cases hb
  exact ho _ rfl
 obtain⟨z0,its,n,r,e0⟩:=I.hok a _ h
 generalize ({cls:= .type "list",data:= .seq its.toArray n}:Obj)=ob at e0
 refine⟨ob,I.ok,I.os,I.bare,⟨I.base.keep,I.base.slot,fun b o h1 h2 h3=> ?_,I.base.there,fun b xs h1=> ?_,fun b o u h1=> ?_,fun b ps h1=> ?_⟩,I.loc,I.cell,?_,fun x c e=> ?_,fun p hp=> ?_,fun b o e=> ?_,I.len⟩
 ·have:=I.base.free b o h1 h2 h3
  rw [bR (ne b this)];exact this
 ·have:=I.base.tups b xs h1
  rw [bR (nt b _ this fun _ z=>by cases z)];exact this
 ·have:=I.base.frzs b o u h1
  rw [bR (nt b _ this fun _ z=>by cases z)];exact this
 ·obtain⟨more,this⟩:=I.base.tbls b ps h1
  exact⟨more,by rw [bR (nt b _ this fun _ z=>by cases z)];exact this⟩
 ·rw [bR (ne _ I.free)];exact I.free
 ·have:=I.freeC x c e
  rw [bR (ne _ this)];exact this
 ·obtain⟨p1,p2,p3⟩:=I.pin p hp
  exact⟨p1,by rw [bR (ne _ p2)];exact p2,p3⟩
 ·have st:∀{b o},dW X.prog X.w H s.heap b o->dW X.prog X.w (upd H a (.frz ob (.lst xs))) s.heap b o:=fun x=>
   x.stay (fun _ _ _ q=>q) (fun b' hb=>by rw [bR (nt b' _ hb fun _ z=>by cases z)];exact hb) fun b' xs hb=>by rw [bR (nt b' _ hb fun _ z=>by cases z)];exact hb
  by_cases z:b=a
  ·subst z
   rw [dJ] at e
   cases e
   exact⟨e0,st (I.hok b _ h)⟩
  ·rw [bR z] at e
   exact st (I.hok b o e)
end
theorem zg6{X:Cx}{e:Expr}{t:TE}(h:PE X e t):PE X e (fun σ H Q=>t σ H fun x H'=>∃a xs,x= .ref a/\H' a=some (.lst xs)/\∀ob,Q x (upd H' a (.frz ob (.lst xs)))):=by
 intro pins s σ H Q I q
 refine thn (h pins s σ H _ I q) fun v s1 ⟨x,H1,I1,rx,a,xs,ex,ea,q1⟩=> ?_
 obtain⟨ob,I2⟩:=vF I1 ea
 exact⟨x,_,I2,rx,q1 ob⟩
section
variable{X:Cx}{κ:tz9}{φ:F0}{U:Nat->Prop}{e o:Expr}{es:List Expr}{f:tz2}{g:PSt->Option (List D×PSt)}{pos apos p1:Pos}{j:Nat}{pf:PSt->Option (List Ps1)}
def jP(h:tz6)(fe:tz8):tz8:=fun ps=>(fe ps).bind fun r=>(h [r.1]).bind fun d=>some (d,r.2)
theorem lG{x:Str}{T:String}{h:tz6}{fe:tz8}{p:Pos}(c:cM X (.type T) (PCl X.K κ h))(hg:Gl X x)(hm:X.mg x=none)(hv:bootBuiltins x=some (.type T))(he:QE X κ φ e fe)(hn:x≠"__name__":=by decide)(hdb:(x==("__debug__":Str))=false:=by decide)
  (hs:starEach [e] X.env=(false,eval e X.env)::starEach [] X.env:=by rfl) (hpl:(backTo pos (starEach [] X.env)).any (·.1)=false:=by rfl):QE X κ φ (.Call (.Name x p) [e] [] pos) (jP h fe):=
 (rR c hg hm hv (fF he kD hs) hn hdb hs hpl).imp fun σ H Q hh_=>by
  obtain⟨ps,F,d,ps',R,e,q⟩:=hh_
  obtain⟨⟨d1,p2⟩,e1,e2⟩:=bind_some e
  obtain⟨d2,e3,e4⟩:=bind_some e2
  cases e4
  refine⟨ps,F,d1,p2,R,e1,fun v H1 F1 fv s1 o1 r1=>⟨[d1],fv,_,Reps.one r1,e3,fun w H2 fw s2 n2 nd2 r2=> ?_⟩⟩
  exact q w H2 F1 fw (s1.trans (.same s1.rs s2)) (OwnV.after s1 (OwnV.new s1.rs n2 nd2)) r2
end
theorem dW.get{P:Program}{w:World}{H:Hp}{h:Heap}{a:Addr}{o:HO}(x:dW P w H h a o):∃u,h.get? a=some u:=by
 cases o with
 |lst xs=>obtain⟨_,_,_,_,e⟩:=x;exact⟨_,e⟩
 |tup xs=>obtain⟨_,_,_,_,e,_⟩:=x;exact⟨_,e⟩
 |dK kvs=>obtain⟨_,_,_,_,o,_,_,e,_⟩:=x;exact⟨_,e⟩
 |dT kvs=>obtain⟨_,_,_,_,o,_,_,e,_⟩:=x;exact⟨_,e⟩
 |set S n=>obtain⟨o,_,_,_,e,_⟩:=x;exact⟨_,e⟩
 |ins C dx fs=>obtain⟨_,_,_,e,_⟩:=x;exact⟨_,e⟩
 |own y=>exact x
 |xd fs=>obtain⟨_,⟨_,_,_,e,_⟩,_⟩:=x;exact⟨_,e⟩
 |rng lo hi=>obtain⟨_,_,_,e⟩:=x;exact⟨_,e⟩
 |frz ob u=>obtain⟨e,_⟩:=x;exact⟨_,e⟩
 |tbl ps=>exact⟨_,(show h.get? a=some _ from x)⟩
 |met f y=>exact⟨_,(show h.get? a=some _ from x)⟩
 |ext φ=>obtain⟨_,e,_⟩:=x;exact e
theorem HOk.none_of{P:Program}{w:World}{H:Hp}{h:Heap}(x:HOk P w H h){a:Addr}(e:h.get? a=none):H a=none:=by
 cases q:H a with
 |none=>rfl
 |some o=>obtain⟨u,z⟩:=(x a o q).get;rw [e] at z;cases z
theorem yT{h:Heap}{as:List Addr}{b:Addr}(e:(PySem.W.hideAll h as).get? b=none):b∈as\/h.get? b=none:=by
 cases q:h.get? b with
 |none=>exact .inr rfl
 |some o=>
  by_cases m:b∈as
  ·exact .inl m
  ·rw [PySem.W.hideAll_get as q m] at e;cases e
structure Fly(base:Heap)(C:Addr)(l:List Env)(H:Hp)(h0:Heap)(e T:Addr)(a0:Value)(h:Heap):Prop where
 ne:h0.get? e=none
 nT:h0.get? T=none
 He:H e=none
 HT:H T=none
 st:base.StaysIn h
 be:base.get? e=none
 bT:base.get? T=none
 fr:h.FunFrames base l
 tr:∃oe vs oT ts,h.get? e=some oe/\(oe.cls= .ref C/\vs[0]? =some a0)/\oe.data= .fields vs/\vs[1]? =some (.ref T)/\T≠e/\h.get? T=some oT/\oT.data= .fields ts/\ts[3]? =some .none
abbrev zc8(h:Heap)(l:List Env)(e T:Addr):Heap:=PySem.W.hideAll h (e::T::frs l)
section
variable{base h0 h:Heap}{C e T:Addr}{l:List Env}{H:Hp}{a0:Value}
theorem Fly.base_in(x:Fly base C l H h0 e T a0 h):base.StaysIn (zc8 h l e T):=fun b o q=>by
 refine PySem.W.hideAll_get _ (x.st b o q) fun m=> ?_
 rcases List.mem_cons.mp m with z|m
 ·rw [z,x.be] at q;cases q
 ·rcases List.mem_cons.mp m with z|m
  ·rw [z,x.bT] at q;cases q
  ·rw [(x.fr.mem m).1] at q;cases q
theorem Fly.next{P:Program}{w:World}(x:Fly base C l H h0 e T a0 h)(ok:HOk P w H h)(th:∀b o,h0.get? b=some o->∃o',h.get? b=some o'){h':Heap}{l':List Env}(ups:h.UpToSlots h')(f:Heap.FlyingW (zc8 h l e T) l' e (.ref C) a0 h'):∃T',Fly base C l' H h0 e T' a0 h':=by
 obtain⟨k1,k2,k3,oe,vs,T',oT,ts,h1,h2,h3,h4,h5,h6,h7,h8,h9⟩:=f
 have hT:T'=T\/h.get? T'=none:=by
  rcases yT h5 with m|m
  ·rcases List.mem_cons.mp m with z|m
   ·exact absurd z h6
   ·rcases List.mem_cons.mp m with z|m
    ·exact .inl z
    ·obtain⟨_,o,q1,q2⟩:=x.fr.mem m
     obtain⟨sl,q3⟩:=ups T' o q1 q2
     rw [h7] at q3;cases q3
     exact absurd h8 (q2 _)
  ·exact .inr m
 refine⟨T',x.ne,?_,x.He,?_,fun b o q=>k1 b o (x.base_in b o q),x.be,?_,PySem.W.funFrames_base x.base_in k3,oe,vs,oT,ts,h1,h2,h3,h4,h6,h7,h8,h9⟩
 ·rcases hT with z|z
  ·rw [z];exact x.nT
  ·cases q:h0.get? T' with
   |none=>rfl
   |some o=>obtain⟨o',q'⟩:=th _ _ q;rw [z] at q';cases q'
 ·rcases hT with z|z
  ·rw [z];exact x.HT
  ·exact ok.none_of z
 ·cases q:base.get? T' with
  |none=>rfl
  |some o=>have:=x.base_in T' o q;rw [h5] at this;cases this
theorem Fly.keep(x:Fly base C l H h0 e T a0 h){h':Heap}(st:(zc8 h l e T).StaysIn h'){b:Addr}{o:Obj}(q:h.get? b=some o)(n1:b∉frs l)(n2:b≠e)(n3:b≠T):h'.get? b=some o:=
 st b o (PySem.W.hideAll_get _ q fun m=>by
  rcases List.mem_cons.mp m with z|m
  ·exact n2 z
  ·rcases List.mem_cons.mp m with z|m
   ·exact n3 z
   ·exact n1 m)
end
theorem PS.nox{X:Cx}{st:Stmt}{t:TS}(h:PS X.nox st t):PS X st t:=fun pins s σ H D I hw=>
 wpAny_mono (h pins s σ H D (I.wish _) hw) (fun _ _ q=>q.unwish) fun _ _ z=>False.elim z
theorem PA.nox{X:Cx}{es:List Expr}{t:TA}(h:PA X.nox es t):PA X es t:=fun pos pins s σ H Q I hw=>
 wpAny_mono (h pos pins s σ H Q (I.wish _) hw) (fun _ _ q=>by obtain⟨vs,H',I',r,q⟩:=q;exact⟨vs,H',I'.unwish,r,q⟩) fun _ _ z=>False.elim z
def zr9(d:D):Bool:=match d with
 | .int a=>decide (a.natAbs.log2<1920)
 |_=>false
def ze3:List (tz2)->tz5
 |[],_=>true
 | f::fs,ps=>(match f ps with
   |some d=>zr9 d
   |none=>false)&&ze3 fs ps
def PJ(X:Cx)(κ:tz9)(es:List Expr)(fs:List (tz2)):Prop:=∀(pins:tzB) (s:Shared) (σ:St) (H:Hp) (ps:PSt) (out:Str) (Q:Value->Shared->Prop),Inv X pins σ H s->WS X.K κ H σ ps->ze3 fs ps=true->out.length+2000*es.length<=sizeLine->
 (∀v s' H',Inv X pins σ H' s'->SameK H H'->Q v s')->wpAny (model X.prog X.w) X.A (joinParts out (evalEach es X.env)) Q X.xe s
section
variable{X:Cx}{κ:tz9}{es:List Expr}{fs:List (tz2)}
theorem PJ.nox(h:PJ X.nox κ es fs):PJ X κ es fs:=fun pins s σ H ps out Q I w e hl q=>
 wpAny_mono (h pins s σ H ps out Q (I.wish _) w e hl fun v s' H' I' sm=>q v s' H' I'.unwish sm) (fun _ _ x=>x) fun _ _ z=>False.elim z
end
end L2
namespace L2
section
open PySem PySem.W PySem.Calls PyProof.Rows Builtin Builtin.ObjectAttr Builtin.Getset_descriptor
variable{prog:Program}{w:World}{A:Around}{E:Value->Shared->Prop}{s:Shared}{K:tz0}{x D:Addr}{name:Str}
end
open PySem PySem.Spec PyProof.Rows
structure KExc(K:tz0)(C:Addr):Prop where
 ga:PySem.W.findIn K (.ref C) "__getattribute__"=some (some (.builtin "BaseException.__getattribute__"))
 gt:PySem.W.findIn K (.ref C) "__getattr__"=some none
 a:PySem.W.findIn K (.ref C) "__class__"=some (some (.builtin "object.__class__"))
 n:PySem.W.specialIn K (.builtin "object.__class__") "__get__"=some (some (.builtin "getset_descriptor.__get__"))
 t:PySem.W.takesIn K (.builtin "object.__class__")=some true
 m:PySem.W.mroIn K C (.type "object")=some true
 b:PySem.W.mroIn K C (.type "BaseException")=some true
 c:(PySem.W.clsIn K C).isSome=true
def Cx.pinned(X:Cx)(ea:Addr)(oe:Obj):Cx:={X with pn:=X.pn++[(ea,oe)]}
def fI(f:tz2):tz2:=fun ps=>(f ps).bind fun d=>(sS d).bind fun xs=>some (.lst false xs)
theorem eL{X:Cx}{κ:tz9}{e:Expr}{f:tz2}(h:QP X κ e f):QP X κ e (fI f):=
 (zg6 h).imp fun σ H Q hh_=>by
  obtain⟨ps,d,w,e,q⟩:=hh_
  obtain⟨d0,e1,e2⟩:=bind_some e
  obtain⟨xs,e3,e4⟩:=bind_some e2
  cases e4
  obtain⟨rfl,hi⟩:=wV e3
  refine⟨ps,_,w,e1,fun v H1 fv s1 n1 nd1 r1=> ?_⟩
  obtain⟨l,us,g,rfl,hl,hs,rfl⟩:=r1.lstT_inv
  have eg:=hs.imm hi
  subst eg
  have hln:=n1 l List.mem_cons_self
  have up:∀b o,H b=some o->b≠l:=fun b o hb z=>by rw [z,hln] at hb;cases hb
  refine⟨l,us,rfl,hl,fun ob=>q (.ref l) _ [] ⟨fun b o hb hk=> ?_,fun b hb=> ?_⟩ (fun _ h=>absurd h (by simp)) List.nodup_nil (.lstF dJ (hs.move (fun b o hb ht=> ?_) fun _ h=>absurd h (by simp)))⟩
  ·rw [bR (up b o hb)];exact s1.keep b o hb hk
  ·by_cases z:b=l
   ·rw [z,dJ] at hb;cases hb
   ·rw [bR z] at hb;exact s1.grow b hb
  ·by_cases z:b=l
   ·rw [z,hl] at hb;cases hb;cases ht
   ·rw [bR z];exact hb
def zo3:D->Bool
 | .lst _ _=>true
 | .tup _=>true
 |_=>false
def uZ(x y:D):Option D:=if zo3 x=true then(match y with
 | .tup ds=>(D.strs ds).map fun _=> .bl false
 |_=>none) else dIn x y
theorem sC{K:tz0}{κ:tz9}{H:Hp}:∀{ds:List D} {vs:List V} {fp:List Addr} {zs:List Str},Reps K κ H vs ds fp->D.strs ds=some zs->∀v∈vs,∃z,v= .str z
 |[],_,_,_,.nil,_=>fun v h=>absurd h (by simp)
 | d::ds,_,_,zs,.cons r rs,e=>fun v h=>by
  cases d with
  | str z=>
   rw [D.strs] at e
   cases e2:D.strs ds with
   |none=>rw [e2] at e;cases e
   |some ws=>
    cases r
    rcases List.mem_cons.mp h with rfl|h
    ·exact⟨_,rfl⟩
    ·exact sC rs e2 v h
  |_=>cases e
theorem uC:∀{vs:List V} {us:List Value},bH vs us->(∀v∈vs,∃z,v= .str z)->∀u∈us,∃z t,u= .str z t
 |_,_,.nil,_=>fun u h=>absurd h (by simp)
 | v::vs,u::us,.cons r t,h=>fun w hw=>by
  rcases List.mem_cons.mp hw with rfl|hw
  ·obtain⟨z,rfl⟩:=h v List.mem_cons_self
   obtain⟨k,rfl⟩:=r
   exact⟨_,_,rfl⟩
  ·exact uC t (fun v hv=>h v (List.mem_cons_of_mem _ hv)) w hw
theorem wW{X:Cx}{κ:tz9}(hu0:X.A.units+64<cLine):OpR X (compareOp .In) (POp X.K κ uZ):=by
 rintro pins s σ H x y v u Q I rx ry ⟨dx,dy,d,fx,fy,r1,r2,e,q⟩
 unfold uZ at e
 by_cases hx:zo3 dx=true
 ·rw [if_pos hx] at e
  cases dy with
  | tup ds=>
   obtain⟨zs,e1,e2⟩:=Option.map_eq_some_iff.mp e
   subst e2
   obtain⟨p,us,rfl,hp,hs⟩:=r2.tup_inv
   cases ry
   obtain⟨its,r,pl,hz⟩:=I.tuple hp
   have hstr:=uC r (sC hs e1)
   have eqs:∀w∈its.toArray,SeqAt.EqAt X.A.in1 s w v false:=fun w hw=>by
    have hu:X.A.in1.units<cLine:=by show X.A.units+1<cLine;omega
    obtain⟨z,t,rfl⟩:=hstr w (by simpa using hw)
    cases r1 with
    |tup h _=>
     cases rx
     obtain⟨its2,_,pl2,_⟩:=I.tuple h
     exact SeqAt.EqAt.str_tuple z t pl2 hu
    |lst h _=>
     cases rx
     obtain⟨its2,_,pl2,_⟩:=I.list (.inl (.inl h))
     exact SeqAt.EqAt.str_list z t pl2.isList hu
    |lstF h _=>
     cases rx
     obtain⟨its2,_,pl2,_⟩:=I.list (.inl (.inr ⟨_,h⟩))
     exact SeqAt.EqAt.str_list z t pl2.isList hu
    |_=>cases hx
   refine SeqAt.in_tupleAt (fun _=>false) pl eqs ⟨.bl _,H,I,rfl,?_⟩
   rw [show its.toArray.any (fun _=>false)=false by simp]
   exact q.now (.bl _)
  |_=>cases e
 ·rw [if_neg hx] at e
  exact wS pins s σ H x y v u Q I rx ry ⟨dx,dy,d,fx,fy,r1,r2,e,q⟩
def fMv(i:Nat):tz8:=fun ps=>((ps[i]?).join).bind fun d=>some (d,ps.set i none)
theorem wX{X:Cx}{κ:tz9}{φ:F0}(i:Nat){x:Str}{p:Pos}(hb:φ.bor i=false)(hN:X.N[i]? =some x:=by rfl)(hv:Vis X.env.scope x:=by first|exact Or.inl rfl|exact Or.inr (Or.inl rfl)|exact Or.inr (Or.inr rfl))(hd:(x==("__debug__":Str))=false:=by decide)
  (hcd:(x==("__classdict__":Str))=false:=by decide):QE X κ φ (.Name x p) (fMv i):=(lK hN hv hd hcd).imp fun σ H Q hh_=>by
 obtain⟨ps,F,d,ps',R,e,q⟩:=hh_
 obtain⟨d0,e1,e2⟩:=bind_some e
 cases e2
 obtain⟨v,fp,h1,h2,h3,_⟩:=R.rep i d (join_some e1)
 have h3:=h3 hb
 subst h3
 refine⟨v,h1,q v H (jB F i []) (F i) ⟨⟨fun a o h _ _=>h,fun a h=>h⟩,fun j a h=> ?_,R.drop i,fun _ _=>rfl⟩ ⟨fun a h=> .inl ⟨i,h⟩,R.nd i,fun j a h1 h2=> ?_⟩ h2⟩
 ·rcases fK h with z|z
  ·exact absurd z (by simp)
  ·exact .inl ⟨j,z⟩
 ·rcases fK h1 with z|z
  ·exact absurd z (by simp)
  ·have:=R.dis j i a z h2
   subst this
   rw [cH] at h1;exact absurd h1 (by simp)
end L2
namespace L3
open PySem PySem.Spec PyProof.Rows L2
@[irreducible] def PE:= @L2.PE
@[irreducible] def PT:= @L2.PT
@[irreducible] def PW:= @L2.PW
@[irreducible] def PA:= @L2.PA
@[irreducible] def PS:= @L2.PS
@[irreducible] def PSs:= @L2.PSs
@[irreducible] def PI:= @L2.PI
@[irreducible] def PG:= @L2.PG
@[irreducible] def PTs:= @L2.PTs
@[irreducible] def OpR:= @L2.OpR
@[irreducible] def cM:= @L2.cM
@[irreducible] def MtR:= @L2.MtR
abbrev QV(X:Cx)(κ:tz9)(e:Expr)(f:tz2):Prop:=PE X e (tV X.K κ f)
abbrev QP(X:Cx)(κ:tz9)(e:Expr)(f:tz2):Prop:=PE X e (tP X.K κ f)
abbrev QT(X:Cx)(κ:tz9)(e:Expr)(f:tz4):Prop:=PT X e (tQ X.K κ f)
abbrev QW(X:Cx)(κ:tz9)(e:Expr)(f:tz4):Prop:=PW X e (tQ X.K κ f)
abbrev QVA(X:Cx)(κ:tz9)(es:List Expr)(f:tz3):Prop:=PA X es (tVA X.K κ f)
abbrev QPA(X:Cx)(κ:tz9)(es:List Expr)(f:tz3):Prop:=PA X es (tPA X.K κ f)
abbrev QS(X:Cx)(κ:tz9)(φ:F0)(st:Stmt)(f:tz1):Prop:=PS X st (tS (φ.fx X.K κ) f)
abbrev QSs(X:Cx)(κ:tz9)(φ:F0)(st:List Stmt)(f:tz1):Prop:=PSs X st (tS (φ.fx X.K κ) f)
abbrev QE(X:Cx)(κ:tz9)(φ:F0)(e:Expr)(f:tz8):Prop:=PE X e (tE (φ.fx X.K κ) f)
abbrev QTE(X:Cx)(κ:tz9)(φ:F0)(e:Expr)(f:PSt->Option (Bool×PSt)):Prop:=PT X e (tTE (φ.fx X.K κ) f)
abbrev QIV(X:Cx)(κ:tz9)(tg iter:Expr)(f:tz3):Prop:=PI X tg iter (tIV X.K κ f)
abbrev QIP(X:Cx)(κ:tz9)(tg iter:Expr)(f:tz3):Prop:=PI X tg iter (tIP X.K κ f)
section
variable{X:Cx}{pos:Pos}
theorem jI{i:Nat}{x:Str}(hN:X.N.Nodup)(hi:X.N[i]? =some x)(hx:Loc X.env.scope x)(hf:X.fn x=true\/X.env.scope.names.lookup x=some .local:=by first|exact .inl rfl|exact .inr rfl|assumption):PG X (.Name x pos) (kT i):=by with_unfolding_all exact L2.jI hN hi hx hf
end
section
variable{X:Cx}{κ:tz9}{e a b:Expr}{f fa fb:tz2}
theorem QP.v(h:QP X κ e f):QV X κ e f:=by with_unfolding_all exact L2.QP.v h
theorem QV.p(h:QV X κ e f):QP X κ e (bY f):=by with_unfolding_all exact L2.QV.p h
theorem aE(i:Nat){x:Str}{pos:Pos}(hN:X.N[i]? =some x:=by rfl)(hv:Vis X.env.scope x:=by first|exact Or.inl rfl|exact Or.inr (Or.inl rfl)|exact Or.inr (Or.inr rfl))(hd:(x==("__debug__":Str))=false:=by decide)
  (hcd:(x==("__classdict__":Str))=false:=by decide):QV X κ (.Name x pos) (aD i):=by with_unfolding_all exact L2.aE i hN hv hd hcd
theorem aJ{i j pos}:QP X κ (.Constant (.int i) j pos) (fC (.int i)):=by with_unfolding_all exact L2.aJ
theorem aO{x j pos}:QP X κ (.Constant (.str x) j pos) (fC (.str x)):=by with_unfolding_all exact L2.aO
theorem iP{b j pos}:QP X κ (.Constant (.bool b) j pos) (fC (.bl b)):=by with_unfolding_all exact L2.iP
theorem gY{j pos}:QP X κ (.Constant .none j pos) (fC .non):=by with_unfolding_all exact L2.gY
theorem iL{x:Str}{v:V}{u:Value}{d:D}{pos:Pos}(hg:Gl X x)(hm:X.mg x=some u)(r:cC v u)(hd:∀H,Rep X.K κ H v d [])(hdb:(x==("__debug__":Str))=false:=by decide):QP X κ (.Name x pos) (fC d):=by with_unfolding_all exact L2.iL hg hm r hd hdb
theorem gC{x:Str}{n:String}{pos:Pos}(hg:Gl X x)(hm:X.mg x=none)(hv:bootBuiltins x=some (.type n))(hn:x≠"__name__":=by decide)(hd:(x==("__debug__":Str))=false:=by decide):QP X κ (.Name x pos) (fC (.ty n)):=by with_unfolding_all exact L2.gC hg hm hv hn hd
theorem aY{op:Operator}{g:D->D->Option D}{pos:Pos}(ho:OpR X (binaryOp op) (POp X.K κ g))(ha:QV X κ a fa)(hb:QV X κ b fb):QP X κ (.BinOp a op b pos) (f2 g fa fb):=by with_unfolding_all exact L2.aY ho ha hb
theorem eE{op:CmpOp}{g:D->D->Option D}{pos:Pos}(ho:OpR X (compareOp op) (POp X.K κ g))(ha:QV X κ a fa)(hb:QV X κ b fb)(hm:behindInMarks op b=false):QP X κ (.Compare a [op] [b] pos) (f2 g fa fb):=by with_unfolding_all exact L2.eE ho ha hb hm
theorem bQ{op:CmpOp}{g:D->D->Option D}{pos:Pos}(ho:OpR X (compareOp op) (POp X.K κ g))(ha:QV X κ a fa)(hb:QV X κ b fb)(hm:behindInMarks op b=false):QT X κ (.Compare a [op] [b] pos) (fB (f2 g fa fb)):=by with_unfolding_all exact L2.bQ ho ha hb hm
theorem fV(ha:QV X κ a fa)(he:∀whole,isTrue a X.env whole=(do let v<-whole;standAt a.pos;holding [v] (truthy v)):=by intro _;rfl):QT X κ a (fT fa):=by with_unfolding_all exact L2.fV ha he
variable{pos:Pos}{bC:List Expr}{ta tb:tz4}
theorem jJ(ha:QT X κ a ta):QW X κ (.BoolOp .And [a] pos) ta:=by with_unfolding_all exact L2.jJ ha
end
section
variable{X:Cx}{κ:tz9}{e a b:Expr}{f fa fb:tz2}
variable{pos:Pos}{bC:List Expr}{ta tb:tz4}
theorem kU(ha:QT X κ a ta):QW X κ (.BoolOp .Or [a] pos) ta:=by with_unfolding_all exact L2.kU ha
end
section
variable{X:Cx}{κ:tz9}{e a b:Expr}{f fa fb:tz2}
variable{pos:Pos}{bC:List Expr}{ta tb:tz4}
theorem gZ(ha:QT X κ a ta)(hb:QW X κ (.BoolOp .And (b::bC) pos) tb):QW X κ (.BoolOp .And (a::b::bC) pos) (cA ta tb):=by with_unfolding_all exact L2.gZ ha hb
end
section
variable{X:Cx}{κ:tz9}{e a b:Expr}{f fa fb:tz2}
variable{pos:Pos}{bC:List Expr}{ta tb:tz4}
theorem lE(ha:QT X κ a ta)(hb:QW X κ (.BoolOp .Or (b::bC) pos) tb):QW X κ (.BoolOp .Or (a::b::bC) pos) (eC ta tb):=by with_unfolding_all exact L2.lE ha hb
end
section
variable{X:Cx}{κ:tz9}{e a b:Expr}{f fa fb:tz2}
variable{pos:Pos}{bC:List Expr}{ta tb:tz4}
theorem jW(h:QW X κ a ta):QT X κ a ta:=by with_unfolding_all exact L2.jW h
end
section
variable{X:Cx}{κ:tz9}{e a b:Expr}{f fa fb:tz2}
variable{pos:Pos}{bC:List Expr}{ta tb:tz4}
theorem jO(ha:QT X κ a ta):QT X κ (.UnaryOp .Not a pos) (cW ta):=by with_unfolding_all exact L2.jO ha
end
section
variable{X:Cx}{κ:tz9}{e a b:Expr}{f fa fb:tz2}
variable{pos:Pos}{bC:List Expr}{ta tb:tz4}
theorem hC{op}(h:QP X κ a fa):QP X κ (.BoolOp op [a] pos) fa:=by with_unfolding_all exact L2.hC h
end
section
variable{X:Cx}{κ:tz9}{e a b:Expr}{f fa fb:tz2}
variable{pos:Pos}{bC:List Expr}{ta tb:tz4}
theorem eY(ha:QP X κ a fa)(hb:QP X κ (.BoolOp .And (b::bC) pos) fb):QP X κ (.BoolOp .And (a::b::bC) pos) (dQ fa fb):=by with_unfolding_all exact L2.eY ha hb
end
section
variable{X:Cx}{κ:tz9}{e a b:Expr}{f fa fb:tz2}
variable{pos:Pos}{bC:List Expr}{ta tb:tz4}
theorem tL(ha:QP X κ a fa):QP X κ (.UnaryOp .Not a pos) (rK fa):=by with_unfolding_all exact L2.tL ha
end
section
variable{X:Cx}{κ:tz9}{e a b:Expr}{f fa fb:tz2}
variable{pos:Pos}{bC:List Expr}{ta tb:tz4}
theorem lO(ha:QV X κ a fa):QP X κ (.UnaryOp .USub a pos) (eZ fa):=by with_unfolding_all exact L2.lO ha
end
section
variable{X:Cx}{κ:tz9}
theorem dI:OpR X (binaryOp .Add) (POp X.K κ bP):=by with_unfolding_all exact L2.dI
theorem lX:OpR X (binaryOp .Mult) (POp X.K κ eG):=by with_unfolding_all exact L2.lX
theorem cY:OpR X (binaryOp .Mod) (POp X.K κ bZ):=by with_unfolding_all exact L2.cY
theorem eU:OpR X (binaryOp .FloorDiv) (POp X.K κ dG):=by with_unfolding_all exact L2.eU
theorem kX(hu:X.A.units<cLine):OpR X (compareOp .Lt) (POp X.K κ dLt):=by with_unfolding_all exact L2.kX hu
theorem kM:OpR X (compareOp .LtE) (POp X.K κ dLe):=by with_unfolding_all exact L2.kM
theorem nY:OpR X (compareOp .Gt) (POp X.K κ dGt):=by with_unfolding_all exact L2.nY
theorem dL(hu:X.A.units+64<cLine):OpR X (compareOp .Eq) (POp X.K κ dEq):=by with_unfolding_all exact L2.dL hu
theorem za6(hu:X.A.units+64<cLine):OpR X (compareOp .NotEq) (POp X.K κ dNe):=by with_unfolding_all exact L2.za6 hu
theorem wR:OpR X (compareOp .Is) (POp X.K κ dIs):=by with_unfolding_all exact L2.wR
theorem rA:OpR X (compareOp .IsNot) (POp X.K κ oN):=by with_unfolding_all exact L2.rA
theorem wS:OpR X (compareOp .In) (POp X.K κ dIn):=by with_unfolding_all exact L2.wS
theorem rB:OpR X (compareOp .NotIn) (POp X.K κ mT):=by with_unfolding_all exact L2.rB
end
section
variable{X:Cx}{κ:tz9}{e a b:Expr}{es:List Expr}{f fa fb:tz2}{g:tz3}{pos p2:Pos}
theorem aP:QVA X κ [] aC:=by with_unfolding_all exact L2.aP
theorem aI(ha:QV X κ e f)(hr:QVA X κ es g)(hs:starEach (e::es) X.env=(false,eval e X.env)::starEach es X.env:=by rfl):QVA X κ (e::es) (aA f g):=by with_unfolding_all exact L2.aI ha hr hs
theorem aF:QPA X κ [] aC:=by with_unfolding_all exact L2.aF
theorem aB(ha:QP X κ e f)(hr:QPA X κ es g)(hs:starEach (e::es) X.env=(false,eval e X.env)::starEach es X.env:=by rfl):QPA X κ (e::es) (aA f g):=by with_unfolding_all exact L2.aB ha hr hs
theorem aN{x1}(h:QPA X κ es g):QP X κ (.Tuple es x1 pos) (aQ g):=by with_unfolding_all exact L2.aN h
theorem bL(h:QPA X κ es g):QP X κ (.List es pos) (bA g):=by with_unfolding_all exact L2.bL h
theorem cS(ha:QV X κ a fa)(hb:QV X κ b fb)(hs:kP b:=by exact fun _ _=>rfl):QV X κ (.Subscript a b pos) (f2 dIx fa fb):=by with_unfolding_all exact L2.cS ha hb hs
theorem lY(ha:QP X κ a fa)(hb:QV X κ b fb)(hs:kP b:=by exact fun _ _=>rfl):QP X κ (.Subscript a b pos) (f2 dIx fa fb):=by with_unfolding_all exact L2.lY ha hb hs
theorem bB{x:Str}{id:String}{p:Pos}{h:tz6}(hc:cM X (.builtin id) (PCl X.K κ h))(hg:Gl X x)(hm:X.mg x=none)(hv:bootBuiltins x=some (.builtin id))(ha:QVA X κ (e::es) g)(hn:x≠"__name__":=by decide)(hdb:(x==("__debug__":Str))=false:=by decide)
  (hs:starEach (e::es) X.env=(false,eval e X.env)::starEach es X.env:=by rfl) (hpl:(backTo pos (starEach es X.env)).any (·.1)=false:=by rfl):QP X κ (.Call (.Name x p) (e::es) [] pos) (aK h g):=by with_unfolding_all exact L2.bB hc hg hm hv ha hn hdb hs hpl
theorem eM{x:Str}{T:String}{p:Pos}{h:tz6}(hc:cM X (.type T) (PCl X.K κ h))(hg:Gl X x)(hm:X.mg x=none)(hv:bootBuiltins x=some (.type T))(ha:QVA X κ (e::es) g)(hn:x≠"__name__":=by decide)(hdb:(x==("__debug__":Str))=false:=by decide)
  (hs:starEach (e::es) X.env=(false,eval e X.env)::starEach es X.env:=by rfl) (hpl:(backTo pos (starEach es X.env)).any (·.1)=false:=by rfl):QP X κ (.Call (.Name x p) (e::es) [] pos) (aK h g):=by with_unfolding_all exact L2.eM hc hg hm hv ha hn hdb hs hpl
theorem dY:cM X (.builtin "len") (PCl X.K κ bU):=by with_unfolding_all exact L2.dY
theorem tR(hc:X.calm=true):cM X (.builtin "max") (PCl X.K κ gE):=by with_unfolding_all exact L2.tR hc
theorem tT(hc:X.calm=true):cM X (.builtin "min") (PCl X.K κ gF):=by with_unfolding_all exact L2.tT hc
theorem gD:cM X (.builtin "isinstance") (PCl X.K κ dA):=by with_unfolding_all exact L2.gD
theorem mL:cM X (.type "list") (PCl X.K κ eB):=by with_unfolding_all exact L2.mL
theorem iM:cM X (.type "tuple") (PCl X.K κ cN):=by with_unfolding_all exact L2.iM
theorem qD(hc:X.calm=true):cM X (.builtin "all") (PCl X.K κ mD):=by with_unfolding_all exact L2.qD hc
theorem wT(hc:X.calm=true):cM X (.builtin "sum") (PCl X.K κ oO):=by with_unfolding_all exact L2.wT hc
theorem wU{name:Str}{id:String}{apos:Pos}{h:D->tz6}(slot:Slot "str" name id)(hty:typeOf (.builtin id)=pure (.type "method_descriptor"))(hm:MtR X id (PMt X.K κ h))(ho:QV X κ a fa)(ha:QVA X κ (e::es) g)
  (hbase:attributeBase a name X.env (eval a X.env)=eval a X.env:=by rfl)
  (hfew:((backTo pos (starEach (e::es) X.env)).all (fun x=> !x.1)&&(backToKw pos (keywordEach [] X.env)).all (fun x=>x.1.isSome)
   &&decide ((e::es).length+([]:List Keyword).length+(if ([]:List Keyword).isEmpty then 0 else 1)<30))=true:=by rfl)
  (hline:(apos.endLine==pos.line)=true:=by rfl) (hs:starEach (e::es) X.env=(false,eval e X.env)::starEach es X.env:=by rfl) (hplain:(backTo pos (starEach es X.env)).any (·.1)=false:=by rfl):
  QP X κ (.Call (.Attribute a name apos) (e::es) [] pos) (fMt h fa g):=by with_unfolding_all exact L2.wU slot hty hm ho ha hbase hfew hline hs hplain
theorem tW:MtR X "str.find" (PMt X.K κ sR):=by with_unfolding_all exact L2.tW
end
section
variable{X:Cx}{κ:tz9}{φ:F0}{st:Stmt}{bC:List Stmt}{f g:tz1}{pos:Pos}
theorem bS:QSs X κ φ [] bK:=by with_unfolding_all exact L2.bS
theorem aS(h:QS X κ φ st f):QSs X κ φ [st] f:=by with_unfolding_all exact L2.aS h
theorem aM(h1:QS X κ φ st f)(h2:QSs X κ φ bC g):QSs X κ φ (st::bC) (aR f g):=by with_unfolding_all exact L2.aM h1 h2
theorem QP.e{e:Expr}{f:tz2}(h:PE X e (tP X.K κ f)):QE X κ φ e (aL f):=by with_unfolding_all exact L2.QP.e h
theorem QT.e{e:Expr}{f:tz4}(h:PT X e (tQ X.K κ f)):QTE X κ φ e (aT f):=by with_unfolding_all exact L2.QT.e h
theorem bO(i:Nat){x:Str}{e:Expr}{pos':Pos}{f:tz8}(hN:X.N.Nodup)(hi:X.N[i]? =some x)(hx:Loc X.env.scope x)(hb:φ.bor i=false)(hm:φ.M i=false)(he:QE X κ φ e f)(hs:swapsWith e (some (.Name x pos')) pos.line X.env=pure false:=by rfl)(hf:X.fn x=true\/X.env.scope.names.lookup x=some .local:=by first|exact .inl rfl|exact .inr rfl|assumption):
  QS X κ φ (.Assign [.Name x pos'] e pos) (aX i f):=by with_unfolding_all exact L2.bO i hN hi hx hb hm he hs hf
theorem jK{e:Expr}{f:tz8}(he:QE X κ φ e f)(hs:swapsWith e none pos.line X.env=pure false:=by rfl):QS X κ φ (.Expr e pos) (cP f):=by with_unfolding_all exact L2.jK he hs
theorem bM{e:Expr}{f:tz8}(he:QE X κ φ e f):QS X κ φ (.Return (some e) pos) (bI f):=by with_unfolding_all exact L2.bM he
theorem mM(i:Nat){x:Str}{p:Pos}(hb:φ.bor i=false)(hN:X.N[i]? =some x:=by rfl)(hv:Vis X.env.scope x:=by first|exact Or.inl rfl|exact Or.inr (Or.inl rfl)|exact Or.inr (Or.inr rfl))(hd:(x==("__debug__":Str))=false:=by decide)
  (hcd:(x==("__classdict__":Str))=false:=by decide):QS X κ φ (.Return (some (.Name x p)) pos) (gL i):=by with_unfolding_all exact L2.mM i hb hN hv hd hcd
theorem cI{c:Expr}{a b:List Stmt}{tc:PSt->Option (Bool×PSt)}(hc:QTE X κ φ c tc)(ha:QSs X κ φ a f)(hb:QSs X κ φ b g):QS X κ φ (.If c a b pos) (fIf tc f g):=by with_unfolding_all exact L2.cI hc ha hb
end
section
variable{X:Cx}{φ:Fx}{pos:Pos}{body:List Stmt}{f:tz1}
theorem nA{κ:tz9}{φ:F0}(n:Nat){c:Expr}{tc:PSt->Option (Bool×PSt)}(hp:PassesOwn (model X.prog X.w) X.A X.env X.xe)(hc:QTE X κ φ c tc)(hb:QSs X κ φ body f):QS X κ φ (.While c body [] pos) (eN tc f n):=by with_unfolding_all exact L2.nA n hp hc hb
end
section
theorem QIP.v{X:Cx}{κ:tz9}{tg iter:Expr}{f:tz3}(h:QIP X κ tg iter f):QIV X κ tg iter f:=by with_unfolding_all exact L2.QIP.v h
end
section
variable{X:Cx}{κ:tz9}{tg l a b:Expr}{f:tz2}{g:tz3}{p pos:Pos}
theorem kW(hg:Gl X "range")(hm:X.mg "range"=none)(ha:QVA X κ [a] g)(hs:starEach [a] X.env=[(false,eval a X.env)]:=by rfl):QIP X κ tg (.Call (.Name "range" p) [a] [] pos) (eW g):=by with_unfolding_all exact L2.kW hg hm ha hs
theorem nZ(hg:Gl X "range")(hm:X.mg "range"=none)(ha:QVA X κ [a,b] g)(hs:starEach [a,b] X.env=[(false,eval a X.env),(false,eval b X.env)]:=by rfl)(hs2:starEach [b] X.env=[(false,eval b X.env)]:=by rfl):QIP X κ tg (.Call (.Name "range" p) [a,b] [] pos) (gG g):=by with_unfolding_all exact L2.nZ hg hm ha hs hs2
theorem tX(h:QP X κ l f):QIP X κ tg l (cK f):=by with_unfolding_all exact L2.tX h
theorem oA(h:QV X κ l f):QIV X κ tg l (cK f):=by with_unfolding_all exact L2.oA h
theorem tY(h:QV X κ l f):QIP X κ tg l (mU f):=by with_unfolding_all exact L2.tY h
end
section
variable{X:Cx}{φ:Fx}{pos:Pos}{body:List Stmt}{f:tz1}
theorem lP{κ:tz9}{φ:F0}(i:Nat){x:Str}{px:Pos}{iter:Expr}{fi:tz3}(hp:PassesOwn (model X.prog X.w) X.A X.env X.xe)(hc:X.calm=true)(hN:X.N.Nodup)(hi:X.N[i]? =some x)(hx:Loc X.env.scope x)(hb:φ.bor i=false)(hm:φ.M i=false)
  (hit:PI X (.Name x px) iter (tIP X.K κ fi)) (hbd:QSs X κ φ body f) (hs:∀x,foldedSetIterable iter X.env x=pure x:=by intro _;rfl) (hf:X.fn x=true\/X.env.scope.names.lookup x=some .local:=by first|exact .inl rfl|exact .inr rfl|assumption):
  QS X κ φ (.For (.Name x px) iter body [] pos) (dM i fi f):=by with_unfolding_all exact L2.lP i hp hc hN hi hx hb hm hit hbd hs hf
theorem pD{κ:tz9}{φ:F0}(i j:Nat){x y:Str}{px py:Pos}(hp:PassesOwn (model X.prog X.w) X.A X.env X.xe)(hc:X.calm=true)(hN:X.N.Nodup)(hi:X.N[i]? =some x)(hx:Loc X.env.scope x)(hb:φ.bor i=false)(hm:φ.M i=false)(hj:φ.bor j=true)
  (hbd:QSs X κ φ body f) (hNj:X.N[j]? =some y:=by rfl) (hv:Vis X.env.scope y:=by first|exact Or.inl rfl|exact Or.inr (Or.inl rfl)|exact Or.inr (Or.inr rfl)) (hd:(y==("__debug__":Str))=false:=by decide)
  (hcd:(y==("__classdict__":Str))=false:=by decide) (hs:∀x,foldedSetIterable (.Name y py) X.env x=pure x:=by intro _;rfl) (hf:X.fn x=true\/X.env.scope.names.lookup x=some .local:=by first|exact .inl rfl|exact .inr rfl|assumption):
  QS X κ φ (.For (.Name x px) (.Name y py) body [] pos) (dM i (cK (aD j)) f):=by with_unfolding_all exact L2.pD i j hp hc hN hi hx hb hm hj hbd hNj hv hd hcd hs hf
end
section
variable{P:Program}{w:World}{K:tz0}{mg:tzA}{base:Heap}{κ:tz9}
theorem dN{x qual:Str}{st:Stmt}{f:Addr}{fd:FuncData}{N ps:List Str}{k:Nat}{fb:tz1}(F:Fun K x qual st f fd)(S:FnScope N ps (aV st))
  (hbody:∀(cdv:Value) (A:Around) (outer:List Env) (s:Shared) (H:Hp) (E:XK) (B:Nat->Addr->Prop),Room k (A.deeper (envOfC qual (aV st) s.heap.objs.size f cdv))->
   QSs (oK CX0 P w K mg base N qual (aV st) f cdv A outer s H E).nox κ (f0P ps.length B) (cD st) fb):
  FnOk P w K mg base CX0 (k+1) f fd ps (SpP ps.length K κ (gP ps.length (N.length-ps.length) fb)):=by with_unfolding_all exact L2.dN F S hbody
end
section
variable{X:Cx}{κ:tz9}{e:Expr}{es:List Expr}{g:tz3}{pos p:Pos}
theorem dZ{x:Str}{st:Stmt}{ps:List Str}{f:Addr}{fd:FuncData}{k np:Nat}{h:tz6}(Dd:Dn X.K X.mg x st ps f fd)(G:FnOk X.prog X.w X.K X.mg X.base CX0 k f fd ps (SpP np X.K κ h))(hr:Room k X.A)(hg:Gl X x)(hnp:(e::es).length=np)(ha:QVA X κ (e::es) g)
  (hlen:∀ps ds,g ps=some ds->ds.length=(e::es).length)
  (hdb:(x==("__debug__":Str))=false:=by decide) (he:starEach (e::es) X.env=(false,eval e X.env)::starEach es X.env:=by rfl) (hpl:(backTo pos (starEach es X.env)).any (·.1)=false:=by rfl):
  QP X κ (.Call (.Name x p) (e::es) [] pos) (aK h g):=by with_unfolding_all exact L2.dZ Dd G hr hg hnp ha hlen hdb he hpl
end
section
variable{X:Cx}{κ:tz9}{sc:Scope}{NX N:List Str}{pick:List (Option Nat)}{elt iter:Expr}{ifs:List Expr}{scope:Scope}{pos px:Pos}{x:Str}{fi:tz3}{ft:tz4}{fe:tz2}
theorem lI{X:Cx}:PTs X [] (tQ X.K κ fW):=by with_unfolding_all exact L2.lI
theorem lJ(S:CScope sc NX N pick scope)(hsc:X.env.scope=sc)(hNX:X.N=NX)(hc:X.calm=true)(hi:QIV X κ (.Name x px) iter fi)
  (hg:∀cl fp s H,PG (cxB X N scope cl fp s H) (.Name x px) (kT 0)) (ht:∀cl fp s H,PTs (cxB X N scope cl fp s H) ifs (tQ X.K κ ft)) (he:∀cl fp s H,PE (cxB X N scope cl fp s H) elt (tP X.K κ fe))
  (hs:∀x,foldedSetIterable iter X.env x=pure x:=by intro _;rfl):QP X κ (.ListComp elt [⟨.Name x px,iter,ifs,0⟩] scope pos) (iF pick fi ft fe):=by with_unfolding_all exact L2.lJ S hsc hNX hc hi hg ht he hs
end
section
variable{X:Cx}{φ:F0}{κ:tz9}{K:tz0}{o e a b:Expr}{f fb fe:tz2}{g:tz3}{pf:PSt->Option (List Ps1)}{j:Nat}{pos apos:Pos}
theorem dR(j:Nat){x:Str}(hN:X.N[j]? =some x:=by rfl)(hv:Vis X.env.scope x:=by first|exact Or.inl rfl|exact Or.inr (Or.inl rfl)|exact Or.inr (Or.inr rfl))(hd:(x==("__debug__":Str))=false:=by decide)
  (hcd:(x==("__classdict__":Str))=false:=by decide):PE X (.Name x pos) (iT K κ j bW):=by with_unfolding_all exact L2.dR j hN hv hd hcd
theorem kN(ha:PE X a (iT X.K κ j pf))(hb:QV X κ b fb)(hs:kP b:=by exact fun _ _=>rfl):PE X (.Subscript a b pos) (iT X.K κ j (eD j pf fb)):=by with_unfolding_all exact L2.kN ha hb hs
theorem iW(hb:φ.bor j=false)(ho:PE X o (iT X.K κ j pf))(ha:PA X [e] (tPA X.K κ g))
  (hbase:attributeBase o "append" X.env (eval o X.env)=eval o X.env:=by rfl)
  (hfew:((backTo pos (starEach [e] X.env)).all (fun x=> !x.1)&&(backToKw pos (keywordEach [] X.env)).all (fun x=>x.1.isSome)
   &&decide ([e].length+([]:List Keyword).length+(if ([]:List Keyword).isEmpty then 0 else 1)<30))=true:=by rfl)
  (hline:(apos.endLine==pos.line)=true:=by rfl) (hs:starEach [e] X.env=(false,eval e X.env)::starEach [] X.env:=by rfl) (hplain:(backTo pos (starEach [] X.env)).any (·.1)=false:=by rfl):
  QE X κ φ (.Call (.Attribute o "append" apos) [e] [] pos) (cE j pf g cG):=by with_unfolding_all exact L2.iW hb ho ha hbase hfew hline hs hplain
end
section
variable{X:Cx}{φ:F0}{κ:tz9}{K:tz0}{o e a b:Expr}{f fi fe:tz2}{g:tz3}{pf:PSt->Option (List Ps1)}{j:Nat}{pos apos:Pos}
theorem oD(hb:φ.bor j=false)(ho:PE X o (iT X.K κ j pf))
  (hbase:attributeBase o "pop" X.env (eval o X.env)=eval o X.env:=by rfl) (hline:(apos.endLine==pos.line)=true:=by rfl):QE X κ φ (.Call (.Attribute o "pop" apos) [] [] pos) (cE j pf aC fA):=by with_unfolding_all exact L2.oD hb ho hbase hline
theorem lZ(hb:φ.bor j=false)(ho:PE X o (iT X.K κ j pf))(ha:PA X [e] (tVA X.K κ g))
  (hbase:attributeBase o "extend" X.env (eval o X.env)=eval o X.env:=by rfl)
  (hfew:((backTo pos (starEach [e] X.env)).all (fun x=> !x.1)&&(backToKw pos (keywordEach [] X.env)).all (fun x=>x.1.isSome)
   &&decide ([e].length+([]:List Keyword).length+(if ([]:List Keyword).isEmpty then 0 else 1)<30))=true:=by rfl)
  (hline:(apos.endLine==pos.line)=true:=by rfl) (hs:starEach [e] X.env=(false,eval e X.env)::starEach [] X.env:=by rfl) (hplain:(backTo pos (starEach [] X.env)).any (·.1)=false:=by rfl):
  QE X κ φ (.Call (.Attribute o "extend" apos) [e] [] pos) (cE j pf g cO):=by with_unfolding_all exact L2.lZ hb ho ha hbase hfew hline hs hplain
theorem pS{i:Expr}(hb:φ.bor j=false)(he:PE X e (tP X.K κ fe))(ho:PE X o (iT X.K κ j pf))(hi:PE X i (tV X.K κ fi))(hs:swapsWithSole [.Subscript o i apos] e pos.line X.env=pure false:=by rfl)(hw:swappedStores [.Subscript o i apos] e X.env=pure none:=by rfl)
  (h1:(assignEach [.Subscript o i apos] X.env).map (·.2)=[assign (.Subscript o i apos) X.env]:=by rfl)
  (ha:∀v,assign (.Subscript o i apos) X.env v=(do
   let ov<-holding [v] (eval o X.env)
   let iv<-holding [v,ov] (eval i X.env)
   standAt apos
   holding [v,ov,iv] (setItem ov iv v)
   release [v,ov,iv] []):=by intro _;rfl):QS X κ φ (.Assign [.Subscript o i apos] e pos) (eO j pf fi fe):=by with_unfolding_all exact L2.pS hb he ho hi hs hw h1 ha
end
section
variable{X:Cx}{κ:tz9}{φ:F0}{pos:Pos}{body:List Stmt}{f:tz1}
theorem rD(i j:Nat){x y:Str}{px py:Pos}(hp:PassesOwn (model X.prog X.w) X.A X.env X.xe)(hc:X.calm=true)(hN:X.N.Nodup)(hi:X.N[i]? =some x)(hx:Loc X.env.scope x)(hb:φ.bor i=false)(hm:φ.M i=false)(hij:i≠j)(hj:φ.bor j=false)
  (hbd:∀fp,QSs X κ (φ.lend j fp) body f) (hNj:X.N[j]? =some y:=by rfl) (hv:Vis X.env.scope y:=by first|exact Or.inl rfl|exact Or.inr (Or.inl rfl)|exact Or.inr (Or.inr rfl)) (hd:(y==("__debug__":Str))=false:=by decide)
  (hcd:(y==("__classdict__":Str))=false:=by decide) (hs:∀x,foldedSetIterable (.Name y py) X.env x=pure x:=by intro _;rfl) (hf:X.fn x=true\/X.env.scope.names.lookup x=some .local:=by first|exact .inl rfl|exact .inr rfl|assumption):
  QS X κ φ (.For (.Name x px) (.Name y py) body [] pos) (qP i j f):=by with_unfolding_all exact L2.rD i j hp hc hN hi hx hb hm hij hj hbd hNj hv hd hcd hs hf
end
section
theorem lF{X:Cx}{κ:tz9}{es:List Expr}{ds:List D}(h:AreD es ds):QPA X κ es (fKs ds):=by with_unfolding_all exact L2.lF h
end
section
variable{X:Cx}{κ:tz9}{a b c:Expr}{fa fb fc:tz2}{g g':D->D->Option D}{pos:Pos}
theorem nD{op op':CmpOp}(ho:OpR X (compareOp op) (POp X.K κ g))(ho':OpR X (compareOp op') (POp X.K κ g'))(ha:QV X κ a fa)(hb:QV X κ b fb)(hc:QV X κ c fc)(hm:lastMarks [op,op'] [b,c]=false:=by with_unfolding_all rfl):QP X κ (.Compare a [op,op'] [b,c] pos) (f3 g g' fa fb fc):=by with_unfolding_all exact L2.nD ho ho' ha hb hc hm
theorem pT{op op':CmpOp}(ho:OpR X (compareOp op) (POp X.K κ g))(ho':OpR X (compareOp op') (POp X.K κ g'))(ha:QV X κ a fa)(hb:QV X κ b fb)(hc:QV X κ c fc)(hm:lastMarks [op,op'] [b,c]=false:=by with_unfolding_all rfl):QT X κ (.Compare a [op,op'] [b,c] pos) (fB (f3 g g' fa fb fc)):=by with_unfolding_all exact L2.pT ho ho' ha hb hc hm
end
section
variable{X:Cx}{κ:tz9}{φ:F0}{U:Nat->Prop}{e o:Expr}{es:List Expr}{f:tz2}{g:PSt->Option (List D×PSt)}{pos apos p1:Pos}{j:Nat}{pf:PSt->Option (List Ps1)}
theorem lG{x:Str}{T:String}{h:tz6}{fe:tz8}{p:Pos}(c:cM X (.type T) (PCl X.K κ h))(hg:Gl X x)(hm:X.mg x=none)(hv:bootBuiltins x=some (.type T))(he:QE X κ φ e fe)(hn:x≠"__name__":=by decide)(hdb:(x==("__debug__":Str))=false:=by decide)
  (hs:starEach [e] X.env=(false,eval e X.env)::starEach [] X.env:=by rfl) (hpl:(backTo pos (starEach [] X.env)).any (·.1)=false:=by rfl):QE X κ φ (.Call (.Name x p) [e] [] pos) (jP h fe):=by with_unfolding_all exact L2.lG c hg hm hv he hn hdb hs hpl
end
section
theorem eL{X:Cx}{κ:tz9}{e:Expr}{f:tz2}(h:QP X κ e f):QP X κ e (fI f):=by with_unfolding_all exact L2.eL h
end
section
theorem wW{X:Cx}{κ:tz9}(hu0:X.A.units+64<cLine):OpR X (compareOp .In) (POp X.K κ uZ):=by with_unfolding_all exact L2.wW hu0
end
section
theorem wX{X:Cx}{κ:tz9}{φ:F0}(i:Nat){x:Str}{p:Pos}(hb:φ.bor i=false)(hN:X.N[i]? =some x:=by rfl)(hv:Vis X.env.scope x:=by first|exact Or.inl rfl|exact Or.inr (Or.inl rfl)|exact Or.inr (Or.inr rfl))(hd:(x==("__debug__":Str))=false:=by decide)
  (hcd:(x==("__classdict__":Str))=false:=by decide):QE X κ φ (.Name x p) (fMv i):=by with_unfolding_all exact L2.wX i hb hN hv hd hcd
end
end L3
namespace L3
open PySem PySem.Spec PyProof.Rows L2
def top(i:Nat):Stmt:=PySem.Challenge.pw_linepress_k05_rows_known.main.body.getD i (.Pass ⟨0,0,0,0⟩)
end L3
namespace My
open PySem PySem.Spec PyProof.Rows L2 L3
variable{P:Program}{w:World}{K:tz0}{mg:tzA}{base:Heap}{κ:tz9}
inductive Leaf where
 |word (x:Str)|gap (x:Str)|stop (c:Int)|fin
inductive Tk where
 |leaf (l:Leaf)|opn|cls|hng (n:Int)|bck|eit|orr|don
inductive Pc where
 |leaf (l:Leaf)|group (r:List Pc)|hang (n:Int) (r:List Pc)|either (rs:List (List Pc))
mutual
def zs0:Pc->List Tk
 | .leaf l=>[.leaf l]
 | .group r=> .opn::(nN r++[.cls])
 | .hang n r=> .hng n::(nN r++[.bck])
 | .either rs=> .eit::(zc9 rs++[.don])
def nN:List Pc->List Tk
 |[]=>[]
 |p::r=>zs0 p++nN r
def zc9:List (List Pc)->List Tk
 |[]=>[]
 |r::rs=>nN r++vA rs
def vA:List (List Pc)->List Tk
 |[]=>[]
 |r::rs=> .orr::(nN r++vA rs)
end
def ze4:List (List Pc)->List Tk
 |[]=>[]
 |r::rs=>nN r++ .orr::ze4 rs
structure Fm where
 op:Option Tk
 full:List (List Pc)
 parts:List Pc
def opT:Option Tk->List Tk
 |none=>[]
 |some t=>[t]
def flat:List Fm->List Tk
 |[]=>[]
 |f::fs=>flat fs++(opT f.op++(ze4 f.full++nN f.parts))
def put(f:Fm)(p:Pc):Fm:={f with parts:=f.parts++[p]}
def step:List Fm->Tk->Option (List Fm)
 |f::fs,.leaf l=>some (put f (.leaf l)::fs)
 |fs,.opn=>some (⟨some .opn,[],[]⟩::fs)
 |fs,.hng n=>some (⟨some (.hng n),[],[]⟩::fs)
 |fs,.eit=>some (⟨some .eit,[],[]⟩::fs)
 |⟨some .eit,full,parts⟩::fs,.orr=>some (⟨some .eit,full++[parts],[]⟩::fs)
 |⟨some .opn,_,parts⟩::g::fs,.cls=>some (put g (.group parts)::fs)
 |⟨some (.hng n),_,parts⟩::g::fs,.bck=>some (put g (.hang n parts)::fs)
 |⟨some .eit,full,parts⟩::g::fs,.don=>if full=[] then none else some (put g (.either (full++[parts]))::fs)
 |_,_=>none
def Fm.ok(f:Fm):Prop:=f.op≠some .eit->f.full=[]
def run(fs:List Fm):List Tk->Option (List Fm)
 |[]=>some fs
 |t::ts=>(step fs t).bind fun fs'=>run fs' ts
def gO(c:Nat):Bool:=decide (33<=c)&&decide (c<=126)
def zN(z:Str):Prop:=1<=z.length/\z.length<=12/\z.cps.toList.all gO=true
def zO:Leaf->Prop
 | .word x=>zN x
 | .gap x=>x=""\/x=" "
 | .stop c=>0<=c/\c<=40
 | .fin=>True
end My
namespace My
open PySem PySem.Spec PyProof.Rows L2 L3
variable{P:Program}{w:World}{K:tz0}{mg:tzA}{base:Heap}{κ:tz9}
def oQ(ns:List Int)(k:Int):Int:=ns.getD (k % (ns.length:Int)).toNat 0
def qQ(ns:List Int)(k:Int):Int:=k/(if (ns.length:Int)>1 then(ns.length:Int) else 1)
def zo4(ns:List Int)(k salt:Int):Int:=PySem.Builtin.bitAnd (oQ ns k) 2147483647+1009*k*k+7919*salt*salt+12
def pI(ns:List Int)(k salt:Int):Int:=zo4 ns k salt*48271 % 2147483647
def ze5(ns:List Int)(k salt:Int):Int:=pI ns k salt*pI ns k salt % 2147483629
def nO(ns:List Int)(k salt:Int):Int:=PySem.Builtin.bitAnd (oQ ns k/2^(31*(salt+128*qQ ns k)).toNat+ze5 ns k salt) 2147483647
theorem vG(ns:List Int)(k salt:Int):0<=nO ns k salt/\nO ns k salt<2147483648:=by
 have e:nO ns k salt=(oQ ns k/2^(31*(salt+128*qQ ns k)).toNat+ze5 ns k salt) % 2147483648:=PySem.W.kbt_mask _ 31
 rw [e]
 exact⟨Int.emod_nonneg _ (by decide),Int.emod_lt_of_pos _ (by decide)⟩
def zP(K:tz0):Sp:=fun vs H Q _=>∃(a:Addr) (ns:List Int) (k:Int),vs=[.ref a,.int k]/\SqL K H a (ns.map V.int)/\Q (.int (oQ ns k)) H
def wA(K:tz0):Sp:=fun vs H Q _=>∃(a:Addr) (ns:List Int) (k salt:Int),vs=[.ref a,.int k,.int salt]/\SqL K H a (ns.map V.int)/\ns.length<=63/\(0<=k/\k<1000000)/\(0<=salt/\salt<1000000)/\Q (.int (nO ns k salt)) H
abbrev fX:Stmt:=top 18
theorem uD:FnScope ["_law_script","_law_k"] ["_law_script","_law_k"] (aV fX):=⟨rfl,rfl,rfl,by decide+kernel,rfl,by decide+kernel,by decide+kernel⟩
theorem uE{n:Nat}{f:Addr}{fd:FuncData}(D:Dn K mg "_law_cell_at" fX ["_law_script","_law_k"] f fd)(ab:mg "len"=none):
  FnOk P w K mg base CX0 (n+1) f fd ["_law_script","_law_k"] (zP K):=by
 refine D.F.ok uD (fun vs H Q E h=> ?_) (fun cdv A outer s H vs Q E hr h=> ?_)
 ·obtain⟨a,ns,k,rfl,_⟩:=h
  rfl
 obtain⟨a,ns,k,rfl,hS,q⟩:=h
 refine⟨_,(jV (zd2 (vO wE (lM gX rfl ab boot_len (fF (pv 0) kD)) fU (bE _)) (oZ (nW fU)) vJ)
  (oZ (nW (sP qX (pv 0) (eT pZ (pv 1) (lM gX rfl ab boot_len (fF (pv 0) kD))) (fun _ _=>rfl))))),?_⟩
 have hl:(ns.map V.int).length=ns.length:=List.length_map _
 refine⟨_,rfl,a,_,rfl,.inl hS,rfl,_,rfl,?_⟩
 refine zs1 (fun c=> ?_) (fun c=> ?_)
 ·have e:(((ns.map V.int).length:Nat):Int)=0:=by simpa using c
  have e':ns=[]:=by
   rw [hl] at e
   exact List.eq_nil_of_length_eq_zero (by omega)
  subst e'
  exact q
 ·have e:¬(((ns.map V.int).length:Nat):Int)=0:=by simpa using c
  rw [hl] at e
  have hp:(0:Int)<((ns.map V.int).length:Nat):=by rw [hl];omega
  refine⟨_,rfl,_,rfl,_,rfl,a,_,rfl,.inl hS,_,_,rfl,rfl,hp,a,_,_,_,rfl,rfl,hS,?_,q⟩
  rw [hl]
  have h0:=Int.emod_nonneg k e
  have h1:=Int.emod_lt_of_pos k (show(0:Int)<ns.length by omega)
  have ek:k % (ns.length:Int)=(((k % (ns.length:Int)).toNat:Nat):Int):=by omega
  rw [ek]
  refine vP ?_
  rw [List.getElem?_map,List.getElem?_eq_getElem (by omega)]
  unfold oQ
  rw [List.getD_eq_getElem?_getD,List.getElem?_eq_getElem (by omega)]
  rfl
abbrev gQ:Stmt:=top 19
theorem jL:FnScope ["_law_script","_law_k","_law_salt","_law_cell","_law_lap","_law_near"] ["_law_script","_law_k","_law_salt"] (aV gQ):=⟨rfl,rfl,rfl,by decide+kernel,rfl,by decide+kernel,by decide+kernel⟩
theorem wY{n:Nat}{f f1:Addr}{fd fd1:FuncData}(D:Dn K mg "_law_mixed" gQ ["_law_script","_law_k","_law_salt"] f fd)(cb:Dn K mg "_law_cell_at" fX ["_law_script","_law_k"] f1 fd1)
  (gn:FnOk P w K mg base CX0 n f1 fd1 ["_law_script","_law_k"] (zP K)) (ab:mg "len"=none) (eh:mg "max"=none):
  FnOk P w K mg base CX0 (n+1) f fd ["_law_script","_law_k","_law_salt"] (wA K):=by
 refine D.F.ok jL (fun vs H Q E h=> ?_) (fun cdv A outer s H vs Q E hr h=> ?_)
 ·obtain⟨a,ns,k,salt,rfl,_⟩:=h
  rfl
 obtain⟨a,ns,k,salt,rfl,hS,h63,⟨hk0,hk1⟩,⟨hs0,hs1⟩,q⟩:=h
 refine⟨_,(jV (mH (i:=3) jL.nd rfl (.inl rfl) (zd4 cb gn hr rfl (fF (pv 0) (fF (pv 1) kD))))
  (jV (mH (i:=4) jL.nd rfl (.inl rfl) (eT vK (pv 1) (lM (rM rfl) rfl eh boot_max (fF fU (fF (lM gX rfl ab boot_len (fF (pv 0) kD)) kD)))))
  (jV (mH (i:=5) jL.nd rfl (.inl rfl) (eT mI (eT mI (eT mI (eT xR (pv 3) fU) (eT kC (eT kC fU (pv 1)) (pv 1))) (eT kC (eT kC fU (pv 2)) (pv 2))) fU))
  (jV (mH (i:=5) jL.nd rfl (.inl rfl) (eT pZ (eT kC (pv 5) fU) fU))
  (jV (mH (i:=5) jL.nd rfl (.inl rfl) (eT pZ (eT kC (pv 5) (pv 5)) fU))
  (oZ (nW (eT xR (eT mI (eT zj8 (pv 3) (eT kC fU (eT mI (pv 2) (eT kC fU (pv 4))))) (pv 5)) fU)))))))),?_⟩
 have hl:(ns.map V.int).length=ns.length:=List.length_map _
 have hlap:0<=qQ ns k:=by unfold qQ;exact Int.ediv_nonneg hk0 (by split<;>omega)
 have hn1:0<=pI ns k salt/\pI ns k salt<2147483647:=⟨Int.emod_nonneg _ (by decide),Int.emod_lt_of_pos _ (by decide)⟩
 refine⟨_,rfl,_,rfl,a,ns,k,rfl,hS,?_⟩
 refine⟨_,rfl,_,rfl,a,_,rfl,.inl hS,_,_,rfl,_,_,rfl,rfl,?_,?_⟩
 ·rw [hl];constructor
  ·split<;>omega
  ·split<;>omega
 rw [hl]
 refine⟨_,rfl,_,_,rfl,rfl,_,rfl,_,_,rfl,rfl,.inl ⟨by decide,by decide⟩,_,rfl,_,_,rfl,rfl,.inr ⟨by omega,by omega⟩,_,_,rfl,rfl,_,rfl,_,_,rfl,rfl,.inl ⟨by decide,by decide⟩,_,rfl,_,_,rfl,rfl,.inr ⟨by omega,by omega⟩,_,_,rfl,rfl,_,_,rfl,rfl,?_⟩
 refine⟨_,rfl,_,_,rfl,rfl,.inr ⟨by decide,by decide⟩,_,_,rfl,rfl,(by show(0:Int)<2147483647;decide),?_⟩
 refine⟨_,rfl,_,rfl,_,_,rfl,rfl,.inl ⟨by show-(2^64)<pI ns k salt;omega,by show pI ns k salt<2^64;omega⟩,_,_,rfl,rfl,(by show(0:Int)<2147483629;decide),?_⟩
 refine⟨_,rfl,_,rfl,_,rfl,_,_,rfl,rfl,.inl ⟨by decide,by decide⟩,_,_,rfl,rfl,_,_,rfl,rfl,.inl ⟨by decide,by decide⟩,_,_,rfl,rfl,?_,_,rfl,_,_,rfl,rfl,_,_,rfl,rfl,q⟩
 show 0<=31*(salt+128*qQ ns k)
 omega
end My
namespace L3
open PySem PySem.Spec PyProof.Rows L2 My
variable{P:Program}{w:World}{K:tz0}{mg:tzA}{base:Heap}{κ:tz9}
def lT:tz1:=
 (aR (fIf (aT (cW (fT (aK dA (aA (aD 0) (aA (fC (.ty "str")) aC))))))
  (bI (aL (fC (.bl false))))
  bK)
 (aR (fIf (aT (eC (fB (f2 dLt (aK bU (aA (aD 0) aC)) (fC (.int 1)))) (fB (f2 dGt (aK bU (aA (aD 0) aC)) (fC (.int 12))))))
  (bI (aL (fC (.bl false))))
  bK)
 (bI (aL (aK mD (aA (iF [none] (mU (aD 0)) fW (dQ (f2 dLe (fC (.str "!")) (aD 0)) (f2 dLe (aD 0) (fC (.str "~"))))) aC))))))
abbrev fE:Stmt:=top 2
theorem uF:FnScope ["thing"] ["thing"] (aV fE):=⟨rfl,rfl,rfl,by decide+kernel,rfl,by decide+kernel,by decide+kernel⟩
theorem uG{n:Nat}{f:Addr}{fd:FuncData}{t_LONGEST_WORD:Tok}(bc:Dn K mg "is_word" fE ["thing"] f fd)
  (cv:mg "all"=none)
  (aa:mg "isinstance"=none)
  (cc:mg "str"=none)
  (ab:mg "len"=none)
  (b0:mg "LONGEST_WORD"=some (.int 12 t_LONGEST_WORD)):
  FnOk P w K mg base CX0 (n+1) f fd ["thing"] (SpP 1 K κ (gP 1 0 (lT))):=
 dN bc.F uF fun cdv A outer s H E B hr=>
 (aM (cI (QT.e (jO (fV (QP.v (bB gD rfl aa boot_isinstance (aI (aE 0) (aI (QP.v (gC rfl cc boot_str)) aP)))))))
  (aS (bM (QP.e iP)))
  bS)
 (aM (cI (QT.e (jW (lE (bQ (kX (Room.units0 hr)) (QP.v (bB dY rfl ab boot_len (aI (aE 0) aP))) (QP.v aJ) (bE _)) (kU (bQ nY (QP.v (bB dY rfl ab boot_len (aI (aE 0) aP))) (QP.v (iL (v:= .int 12) (d:= .int 12) rfl b0 ⟨_,rfl⟩ (fun _=> .int 12))) (bE _))))))
  (aS (bM (QP.e iP)))
  bS)
 (aS (bM (QP.e (bB (qD rfl) rfl cv boot_all (aI (QP.v (lJ (sc:=aV fE) (NX:=["thing"]) (N:=["sign"]) (pick:=[none]) ⟨rfl,by decide+kernel,by decide+kernel,by decide+kernel,by decide+kernel,by decide,rfl⟩ rfl rfl rfl (QIP.v (tY (aE 0))) (fun _ _ _ _=>(jI (i:=0) (show(["sign"]:List Str).Nodup by decide) rfl (.inl rfl))) (fun _ _ _ _=>lI) (fun _ _ _ _=>(eY (eE kM (QP.v aO) (aE 0) (bE _)) (hC (eE kM (aE 0) (QP.v aO) (bE _))))))) aP)))))))
def iG:tz1:=
 (aR (fIf (aT (eC (cW (fT (aK dA (aA (aD 0) (aA (fC (.ty "int")) aC))))) (fT (aK dA (aA (aD 0) (aA (fC (.ty "bool")) aC))))))
  (bI (aL (fC (.bl false))))
  bK)
 (bI (aL (dQ (f2 dLe (fC (.int 0)) (aD 0)) (f2 dLe (aD 0) (aD 1))))))
abbrev cT:Stmt:=top 10
theorem nE:FnScope ["thing","most"] ["thing","most"] (aV cT):=⟨rfl,rfl,rfl,by decide+kernel,rfl,by decide+kernel,by decide+kernel⟩
theorem nF{n:Nat}{f:Addr}{fd:FuncData}(ad:Dn K mg "is_number_up_to" cT ["thing","most"] f fd)
  (aa:mg "isinstance"=none)
  (bu:mg "bool"=none)
  (ej:mg "int"=none):
  FnOk P w K mg base CX0 (n+1) f fd ["thing","most"] (SpP 2 K κ (gP 2 0 (iG))):=
 dN ad.F nE fun cdv A outer s H E B hr=>
 (aM (cI (QT.e (jW (lE (jO (fV (QP.v (bB gD rfl aa boot_isinstance (aI (aE 0) (aI (QP.v (gC rfl ej boot_int)) aP)))))) (kU (fV (QP.v (bB gD rfl aa boot_isinstance (aI (aE 0) (aI (QP.v (gC rfl bu boot_bool)) aP)))))))))
  (aS (bM (QP.e iP)))
  bS)
 (aS (bM (QP.e (eY (eE kM (QP.v aJ) (aE 0) (bE _)) (hC (eE kM (aE 0) (aE 1) (bE _))))))))
def kI(cf:(tz6))(ae:(tz6)):tz1:=
 (aR (fIf (aT (fB (f2 dEq (aD 0) (fC (.str "word")))))
  (bI (aL (aK cf (aA (aD 1) aC))))
  bK)
 (aR (fIf (aT (fB (f2 dEq (aD 0) (fC (.str "gap")))))
  (bI (aL (f2 uZ (aD 1) (aQ (aA (fC (.str "")) (aA (fC (.str " ")) aC))))))
  bK)
 (aR (fIf (aT (fB (f2 dEq (aD 0) (fC (.str "stop")))))
  (bI (aL (aK ae (aA (aD 1) (aA (fC (.int 40)) aC)))))
  bK)
 (aR (fIf (aT (fB (f2 dEq (aD 0) (fC (.str "group")))))
  (bI (aL (aK dA (aA (aD 1) (aA (fC (.ty "tuple")) aC)))))
  bK)
 (aR (fIf (aT (fB (f2 dEq (aD 0) (fC (.str "either")))))
  (bI (aL (dQ (aK dA (aA (aD 1) (aA (fC (.ty "tuple")) aC))) (dQ (f2 dLe (fC (.int 2)) (aK bU (aA (aD 1) aC))) (f2 dLe (aK bU (aA (aD 1) aC)) (fC (.int 4)))))))
  bK)
 (bI (aL (fC (.bl false)))))))))
abbrev eI:Stmt:=top 11
theorem qH:FnScope ["kind","thing"] ["kind","thing"] (aV eI):=⟨rfl,rfl,rfl,by decide+kernel,rfl,by decide+kernel,by decide+kernel⟩
theorem qI{n:Nat}{f:Addr}{fd:FuncData}{cf:(tz6)}{eo:Addr}{d7:FuncData}{ae:(tz6)}{aj:Addr}{ai:FuncData}{t_FURTHEST_STOP:Tok}{t_FEWEST_ROWS:Tok}{t_MOST_ROWS:Tok}(ao:Dn K mg "is_content" eI ["kind","thing"] f fd)
  (bc:Dn K mg "is_word" fE ["thing"] eo d7) (dm:FnOk P w K mg base CX0 n eo d7 ["thing"] (SpP 1 K κ cf))
  (ad:Dn K mg "is_number_up_to" cT ["thing","most"] aj ai) (ag:FnOk P w K mg base CX0 n aj ai ["thing","most"] (SpP 2 K κ ae))
  (aa:mg "isinstance"=none)
  (ac:mg "tuple"=none)
  (ab:mg "len"=none)
  (bv:mg "FURTHEST_STOP"=some (.int 40 t_FURTHEST_STOP))
  (cq:mg "FEWEST_ROWS"=some (.int 2 t_FEWEST_ROWS))
  (dq:mg "MOST_ROWS"=some (.int 4 t_MOST_ROWS)):
  FnOk P w K mg base CX0 (n+1) f fd ["kind","thing"] (SpP 2 K κ (gP 2 0 (kI cf ae))):=
 dN ao.F qH fun cdv A outer s H E B hr=>
 (aM (cI (QT.e (bQ (dL (Room.units hr)) (aE 0) (QP.v aO) (bE _)))
  (aS (bM (QP.e (dZ bc dm hr rfl rfl (aI (aE 1) aP) (bG cU)))))
  bS)
 (aM (cI (QT.e (bQ (dL (Room.units hr)) (aE 0) (QP.v aO) (bE _)))
  (aS (bM (QP.e (eE (wW (Room.units hr)) (aE 1) (QP.v (aN (aB aO (aB aO aF)))) (by with_unfolding_all rfl)))))
  bS)
 (aM (cI (QT.e (bQ (dL (Room.units hr)) (aE 0) (QP.v aO) (bE _)))
  (aS (bM (QP.e (dZ ad ag hr rfl rfl (aI (aE 1) (aI (QP.v (iL (v:= .int 40) (d:= .int 40) rfl bv ⟨_,rfl⟩ (fun _=> .int 40))) aP)) (bG (bG cU))))))
  bS)
 (aM (cI (QT.e (bQ (dL (Room.units hr)) (aE 0) (QP.v aO) (bE _)))
  (aS (bM (QP.e (bB gD rfl aa boot_isinstance (aI (aE 1) (aI (QP.v (gC rfl ac boot_tuple)) aP))))))
  bS)
 (aM (cI (QT.e (bQ (dL (Room.units hr)) (aE 0) (QP.v aO) (bE _)))
  (aS (bM (QP.e (eY (bB gD rfl aa boot_isinstance (aI (aE 1) (aI (QP.v (gC rfl ac boot_tuple)) aP))) (eY (eE kM (QP.v (iL (v:= .int 2) (d:= .int 2) rfl cq ⟨_,rfl⟩ (fun _=> .int 2))) (QP.v (bB dY rfl ab boot_len (aI (aE 1) aP))) (bE _)) (hC (eE kM (QP.v (bB dY rfl ab boot_len (aI (aE 1) aP))) (QP.v (iL (v:= .int 4) (d:= .int 4) rfl dq ⟨_,rfl⟩ (fun _=> .int 4))) (bE _))))))))
  bS)
 (aS (bM (QP.e iP))))))))
def hX(ae:(tz6))(bi:(tz6)):tz1:=
 (aR (fIf (aT (eC (cW (fT (aK dA (aA (aD 0) (aA (fC (.ty "tuple")) aC))))) (fB (f2 dEq (aK bU (aA (aD 0) aC)) (fC (.int 0))))))
  (bI (aL (fC (.bl false))))
  bK)
 (aR (aX 1 (aL (bY (f2 dIx (aD 0) (fC (.int 0))))))
 (aR (fIf (aT (fB (f2 dEq (aD 1) (fC (.str "end")))))
  (bI (aL (f2 dEq (aK bU (aA (aD 0) aC)) (fC (.int 1)))))
  bK)
 (aR (fIf (aT (fB (f2 dEq (aD 1) (fC (.str "hang")))))
  (bI (aL (dQ (f2 dEq (aK bU (aA (aD 0) aC)) (fC (.int 3))) (aK ae (aA (f2 dIx (aD 0) (fC (.int 1))) (aA (fC (.int 12)) aC))))))
  bK)
 (bI (aL (dQ (f2 dEq (aK bU (aA (aD 0) aC)) (fC (.int 2))) (aK bi (aA (aD 1) (aA (f2 dIx (aD 0) (fC (.int 1))) aC))))))))))
abbrev dC:Stmt:=top 12
theorem jZ:FnScope ["thing","kind"] ["thing"] (aV dC):=⟨rfl,rfl,rfl,by decide+kernel,rfl,by decide+kernel,by decide+kernel⟩
theorem mN{n:Nat}{f:Addr}{fd:FuncData}{ae:(tz6)}{aj:Addr}{ai:FuncData}{bi:(tz6)}{dt:Addr}{df:FuncData}{t_WIDEST_HANG:Tok}(af:Dn K mg "is_piece_outside" dC ["thing"] f fd)
  (ad:Dn K mg "is_number_up_to" cT ["thing","most"] aj ai) (ag:FnOk P w K mg base CX0 n aj ai ["thing","most"] (SpP 2 K κ ae))
  (ao:Dn K mg "is_content" eI ["kind","thing"] dt df) (b4:FnOk P w K mg base CX0 n dt df ["kind","thing"] (SpP 2 K κ bi))
  (aa:mg "isinstance"=none)
  (ac:mg "tuple"=none)
  (ab:mg "len"=none)
  (cr:mg "WIDEST_HANG"=some (.int 12 t_WIDEST_HANG)):
  FnOk P w K mg base CX0 (n+1) f fd ["thing"] (SpP 1 K κ (gP 1 1 (hX ae bi))):=
 dN af.F jZ fun cdv A outer s H E B hr=>
 (aM (cI (QT.e (jW (lE (jO (fV (QP.v (bB gD rfl aa boot_isinstance (aI (aE 0) (aI (QP.v (gC rfl ac boot_tuple)) aP)))))) (kU (bQ (dL (Room.units hr)) (QP.v (bB dY rfl ab boot_len (aI (aE 0) aP))) (QP.v aJ) (bE _))))))
  (aS (bM (QP.e iP)))
  bS)
 (aM (bO 1 jZ.nd rfl (.inl rfl) rfl rfl (QP.e (QV.p (cS (aE 0) (QP.v aJ)))))
 (aM (cI (QT.e (bQ (dL (Room.units hr)) (aE 1) (QP.v aO) (bE _)))
  (aS (bM (QP.e (eE (dL (Room.units hr)) (QP.v (bB dY rfl ab boot_len (aI (aE 0) aP))) (QP.v aJ) (bE _)))))
  bS)
 (aM (cI (QT.e (bQ (dL (Room.units hr)) (aE 1) (QP.v aO) (bE _)))
  (aS (bM (QP.e (eY (eE (dL (Room.units hr)) (QP.v (bB dY rfl ab boot_len (aI (aE 0) aP))) (QP.v aJ) (bE _)) (hC (dZ ad ag hr rfl rfl (aI (cS (aE 0) (QP.v aJ)) (aI (QP.v (iL (v:= .int 12) (d:= .int 12) rfl cr ⟨_,rfl⟩ (fun _=> .int 12))) aP)) (bG (bG cU))))))))
  bS)
 (aS (bM (QP.e (eY (eE (dL (Room.units hr)) (QP.v (bB dY rfl ab boot_len (aI (aE 0) aP))) (QP.v aJ) (bE _)) (hC (dZ ao b4 hr rfl rfl (aI (aE 1) (aI (cS (aE 0) (QP.v aJ)) aP)) (bG (bG cU))))))))))))
def iO(ak:(tz6)):tz1:=
 (bI (aL (dQ (aK dA (aA (aD 0) (aA (fC (.ty "tuple")) aC))) (aK mD (aA (iF [none] (cK (aD 0)) fW (aK ak (aA (aD 0) aC))) aC)))))
abbrev cX:Stmt:=top 13
theorem nS:FnScope ["thing"] ["thing"] (aV cX):=⟨rfl,rfl,rfl,by decide+kernel,rfl,by decide+kernel,by decide+kernel⟩
theorem nU{n:Nat}{f:Addr}{fd:FuncData}{ak:(tz6)}{bw:Addr}{bq:FuncData}(ah:Dn K mg "is_row_outside" cX ["thing"] f fd)
  (af:Dn K mg "is_piece_outside" dC ["thing"] bw bq) (ax:FnOk P w K mg base CX0 n bw bq ["thing"] (SpP 1 K κ ak))
  (aa:mg "isinstance"=none)
  (ac:mg "tuple"=none)
  (cv:mg "all"=none):
  FnOk P w K mg base CX0 (n+1) f fd ["thing"] (SpP 1 K κ (gP 1 0 (iO ak))):=
 dN ah.F nS fun cdv A outer s H E B hr=>
 (aS (bM (QP.e (eY (bB gD rfl aa boot_isinstance (aI (aE 0) (aI (QP.v (gC rfl ac boot_tuple)) aP))) (hC (bB (qD rfl) rfl cv boot_all (aI (QP.v (lJ (sc:=aV cX) (NX:=["thing"]) (N:=["piece"]) (pick:=[none]) ⟨rfl,by decide+kernel,by decide+kernel,by decide+kernel,by decide+kernel,by decide,rfl⟩ rfl rfl rfl (oA (aE 0)) (fun _ _ _ _=>(jI (i:=0) (show(["piece"]:List Str).Nodup by decide) rfl (.inl rfl))) (fun _ _ _ _=>lI) (fun _ _ _ _=>(dZ af ax hr rfl rfl (aI (aE 0) aP) (bG cU))))) aP)))))))
def lU:tz1:=
 (aR (aX 1 (aL (bY (f2 dIx (aD 0) (fC (.int 0))))))
 (aR (fIf (aT (fB (f2 dEq (aD 1) (fC (.str "group")))))
  (bI (aL (bA (aA (bY (f2 dIx (aD 0) (fC (.int 1)))) aC))))
  bK)
 (aR (fIf (aT (fB (f2 dEq (aD 1) (fC (.str "hang")))))
  (bI (aL (bA (aA (bY (f2 dIx (aD 0) (fC (.int 2)))) aC))))
  bK)
 (aR (fIf (aT (fB (f2 dEq (aD 1) (fC (.str "either")))))
  (bI (aL (aK eB (aA (f2 dIx (aD 0) (fC (.int 1))) aC))))
  bK)
 (bI (aL (bA aC)))))))
abbrev fY:Stmt:=top 14
theorem oF:FnScope ["piece","kind"] ["piece"] (aV fY):=⟨rfl,rfl,rfl,by decide+kernel,rfl,by decide+kernel,by decide+kernel⟩
theorem uH{n:Nat}{f:Addr}{fd:FuncData}(bd:Dn K mg "rows_in" fY ["piece"] f fd)
  (bb:mg "list"=none):
  FnOk P w K mg base CX0 (n+1) f fd ["piece"] (SpP 1 K κ (gP 1 1 (lU))):=
 dN bd.F oF fun cdv A outer s H E B hr=>
 (aM (bO 1 oF.nd rfl (.inl rfl) rfl rfl (QP.e (QV.p (cS (aE 0) (QP.v aJ)))))
 (aM (cI (QT.e (bQ (dL (Room.units hr)) (aE 1) (QP.v aO) (bE _)))
  (aS (bM (QP.e (bL (aB (QV.p (cS (aE 0) (QP.v aJ))) aF)))))
  bS)
 (aM (cI (QT.e (bQ (dL (Room.units hr)) (aE 1) (QP.v aO) (bE _)))
  (aS (bM (QP.e (bL (aB (QV.p (cS (aE 0) (QP.v aJ))) aF)))))
  bS)
 (aM (cI (QT.e (bQ (dL (Room.units hr)) (aE 1) (QP.v aO) (bE _)))
  (aS (bM (QP.e (eM mL rfl bb boot_list (aI (cS (aE 0) (QP.v aJ)) aP)))))
  bS)
 (aS (bM (QP.e (bL aF))))))))
def mC(ci:(tz6)):tz1:=
 (aR (aX 1 (aL (bA aC)))
 (aR (dM 2 (cK (aD 0))
  (dM 3 (cK (bY (aD 2)))
  (cP (cE 1 bW (aA (aK ci (aA (aD 3) aC)) aC) cO))))
 (gL 1)))
abbrev eJ:Stmt:=top 15
theorem iQ:FnScope ["rows","below","row","piece"] ["rows"] (aV eJ):=⟨rfl,rfl,rfl,by decide+kernel,rfl,by decide+kernel,by decide+kernel⟩
theorem qJ{n:Nat}{f:Addr}{fd:FuncData}{ci:(tz6)}{et:Addr}{d8:FuncData}(aq:Dn K mg "rows_below" eJ ["rows"] f fd)
  (bd:Dn K mg "rows_in" fY ["piece"] et d8) (dr:FnOk P w K mg base CX0 n et d8 ["piece"] (SpP 1 K κ ci)):
  FnOk P w K mg base CX0 (n+1) f fd ["rows"] (SpP 1 K κ (gP 1 3 (mC ci))):=
 dN aq.F iQ fun cdv A outer s H E B hr=>
 (aM (bO 1 iQ.nd rfl (.inl rfl) rfl rfl (QP.e (bL aF)))
 (aM (pD 2 0 PassesOwn.never rfl iQ.nd rfl (.inl rfl) rfl rfl rfl
  (aS (lP 3 PassesOwn.never rfl iQ.nd rfl (.inl rfl) rfl rfl (tX (QV.p (aE 2)))
  (aS (jK (lZ (j:=1) rfl (dR 1) (aI (QP.v (dZ bd dr hr rfl rfl (aI (aE 3) aP) (bG cU))) aP)))))))
 (aS (mM 1 rfl))))
def mF(av:(tz6))(bj:(tz6)):tz1:=
 (aR (aX 1 (aL (bA (aA (bY (aD 0)) aC))))
 (aR (aX 2 (aL (fC (.int 0))))
 (aR (aX 3 (aL (fC (.int 0))))
 (aR (eN (aT (fT (aD 1)))
  (aR (fIf (aT (eC (fB (f2 dGt (aD 2) (fC (.int 12)))) (fB (f2 dGt (aD 3) (fC (.int 200))))))
  (bI (aL (fC (.bl false))))
  bK)
 (aR (fIf (aT (cW (fT (aK mD (aA (iF [none] (cK (aD 1)) fW (aK av (aA (aD 0) aC))) aC)))))
  (bI (aL (fC (.bl false))))
  bK)
 (aR (aX 4 (aL (aK bj (aA (aD 1) aC))))
 (aR (aX 3 (aL (f2 bP (f2 bP (aD 3) (aK oO (aA (iF [none] (cK (aD 1)) fW (aK bU (aA (aD 0) aC))) aC))) (aK bU (aA (aD 4) aC)))))
 (aR (aX 2 (aL (f2 bP (aD 2) (fC (.int 1)))))
 (aX 1 (fMv 4))))))) 400)
 (bI (aL (f2 dLe (aD 3) (fC (.int 200)))))))))
abbrev eX:Stmt:=top 16
theorem fP:FnScope ["thing","rows","deep","count","below"] ["thing"] (aV eX):=⟨rfl,rfl,rfl,by decide+kernel,rfl,by decide+kernel,by decide+kernel⟩
theorem vH{n:Nat}{f:Addr}{fd:FuncData}{av:(tz6)}{cj:Addr}{bz:FuncData}{bj:(tz6)}{du:Addr}{dg:FuncData}{t_DEEPEST:Tok}{t_MOST_TOKENS:Tok}(bm:Dn K mg "is_row" eX ["thing"] f fd)
  (ah:Dn K mg "is_row_outside" cX ["thing"] cj bz) (bf:FnOk P w K mg base CX0 n cj bz ["thing"] (SpP 1 K κ av))
  (aq:Dn K mg "rows_below" eJ ["rows"] du dg) (b5:FnOk P w K mg base CX0 n du dg ["rows"] (SpP 1 K κ bj))
  (cv:mg "all"=none)
  (ab:mg "len"=none)
  (gr:mg "sum"=none)
  (d9:mg "DEEPEST"=some (.int 12 t_DEEPEST))
  (bn:mg "MOST_TOKENS"=some (.int 200 t_MOST_TOKENS)):
  FnOk P w K mg base CX0 (n+1) f fd ["thing"] (SpP 1 K κ (gP 1 4 (mF av bj))):=
 dN bm.F fP fun cdv A outer s H E B hr=>
 (aM (bO 1 fP.nd rfl (.inl rfl) rfl rfl (QP.e (bL (aB (QV.p (aE 0)) aF))))
 (aM (bO 2 fP.nd rfl (.inl rfl) rfl rfl (QP.e aJ))
 (aM (bO 3 fP.nd rfl (.inl rfl) rfl rfl (QP.e aJ))
 (aM (nA 400 PassesOwn.never (QT.e (fV (aE 1)))
  (aM (cI (QT.e (jW (lE (bQ nY (aE 2) (QP.v (iL (v:= .int 12) (d:= .int 12) rfl d9 ⟨_,rfl⟩ (fun _=> .int 12))) (bE _)) (kU (bQ nY (aE 3) (QP.v (iL (v:= .int 200) (d:= .int 200) rfl bn ⟨_,rfl⟩ (fun _=> .int 200))) (bE _))))))
  (aS (bM (QP.e iP)))
  bS)
 (aM (cI (QT.e (jO (fV (QP.v (bB (qD rfl) rfl cv boot_all (aI (QP.v (lJ (sc:=aV eX) (NX:=["thing","rows","deep","count","below"]) (N:=["row"]) (pick:=[none]) ⟨rfl,by decide+kernel,by decide+kernel,by decide+kernel,by decide+kernel,by decide,rfl⟩ rfl rfl rfl (oA (aE 1)) (fun _ _ _ _=>(jI (i:=0) (show(["row"]:List Str).Nodup by decide) rfl (.inl rfl))) (fun _ _ _ _=>lI) (fun _ _ _ _=>(dZ ah bf hr rfl rfl (aI (aE 0) aP) (bG cU))))) aP))))))
  (aS (bM (QP.e iP)))
  bS)
 (aM (bO 4 fP.nd rfl (.inl rfl) rfl rfl (QP.e (dZ aq b5 hr rfl rfl (aI (aE 1) aP) (bG cU))))
 (aM (bO 3 fP.nd rfl (.inl rfl) rfl rfl (QP.e (aY dI (QP.v (aY dI (aE 3) (QP.v (bB (wT rfl) rfl gr boot_sum (aI (QP.v (lJ (sc:=aV eX) (NX:=["thing","rows","deep","count","below"]) (N:=["row"]) (pick:=[none]) ⟨rfl,by decide+kernel,by decide+kernel,by decide+kernel,by decide+kernel,by decide,rfl⟩ rfl rfl rfl (oA (aE 1)) (fun _ _ _ _=>(jI (i:=0) (show(["row"]:List Str).Nodup by decide) rfl (.inl rfl))) (fun _ _ _ _=>lI) (fun _ _ _ _=>(bB dY rfl ab boot_len (aI (aE 0) aP))))) aP))))) (QP.v (bB dY rfl ab boot_len (aI (aE 4) aP))))))
 (aM (bO 2 fP.nd rfl (.inl rfl) rfl rfl (QP.e (aY dI (aE 2) (QP.v aJ))))
 (aS (bO 1 fP.nd rfl (.inl rfl) rfl rfl (wX 4 rfl)))))))))
 (aS (bM (QP.e (eE kM (aE 3) (QP.v (iL (v:= .int 200) (d:= .int 200) rfl bn ⟨_,rfl⟩ (fun _=> .int 200))) (bE _)))))))))
def oR:tz1:=
 (aR (aX 1 (aL (fC (.str "abcdefghijklmnopqrstuvwxyzABCDEFGHIJKLMNOPQRSTUVWXYZ0123456789"))))
 (aR (aX 1 (aL (f2 bP (aD 1) (fC (.str "!\"#$&'()*+,-./:;<=>?\x40[\\]^_`{|}~")))))
 (aR (aX 2 (aL (f2 dIx (bA (fKs [.int 1,.int 2,.int 3,.int 4,.int 5,.int 6,.int 7,.int 8,.int 10,.int 11,.int 9,.int 12])) (f2 bZ (aD 0) (fC (.int 12))))))
 (aR (aX 3 (aL (f2 bZ (f2 dG (aD 0) (fC (.int 9000))) (fC (.int 93)))))
 (aR (aX 4 (aL (fC (.str ""))))
 (aR (dM 5 (eW (aA (aD 2) aC))
  (aX 4 (aL (f2 bP (aD 4) (f2 dIx (aD 1) (f2 bZ (f2 bP (f2 dG (aD 0) (fC (.int 12))) (f2 eG (aD 5) (aD 3))) (fC (.int 93))))))))
 (gL 4)))))))
abbrev jC:Stmt:=top 20
theorem iA:FnScope ["_law_number","_law_signs","_law_size","_law_step","_law_word_here","_law_j"] ["_law_number"] (aV jC):=⟨rfl,rfl,rfl,by decide+kernel,rfl,by decide+kernel,by decide+kernel⟩
theorem yU{n:Nat}{f:Addr}{fd:FuncData}(b6:Dn K mg "_law_word" jC ["_law_number"] f fd)
  (ar:mg "range"=none):
  FnOk P w K mg base CX0 (n+1) f fd ["_law_number"] (SpP 1 K κ (gP 1 5 (oR))):=
 dN b6.F iA fun cdv A outer s H E B hr=>
 (aM (bO 1 iA.nd rfl (.inl rfl) rfl rfl (QP.e aO))
 (aM (bO 1 iA.nd rfl (.inl rfl) rfl rfl (QP.e (aY dI (aE 1) (QP.v aO))))
 (aM (bO 2 iA.nd rfl (.inl rfl) rfl rfl (QP.e (lY (bL (lF (.int (.int (.int (.int (.int (.int (.int (.int (.int (.int (.int (.int .nil)))))))))))))) (QP.v (aY cY (aE 0) (QP.v aJ))))))
 (aM (bO 3 iA.nd rfl (.inl rfl) rfl rfl (QP.e (aY cY (QP.v (aY eU (aE 0) (QP.v aJ))) (QP.v aJ))))
 (aM (bO 4 iA.nd rfl (.inl rfl) rfl rfl (QP.e aO))
 (aM (lP 5 PassesOwn.never rfl iA.nd rfl (.inl rfl) rfl rfl (kW rfl ar (aI (aE 2) aP))
  (aS (bO 4 iA.nd rfl (.inl rfl) rfl rfl (QP.e (aY dI (aE 4) (cS (aE 1) (QP.v (aY cY (QP.v (aY dI (QP.v (aY eU (aE 0) (QP.v aJ))) (QP.v (aY lX (aE 5) (aE 3))))) (QP.v aJ)))))))))
 (aS (mM 4 rfl))))))))
def jD(dw:(tz6)):tz1:=
 (aR (aX 1 (aL (f2 dG (aD 0) (fC (.int 16)))))
 (aR (fIf (aT (fB (f2 dLt (f2 bZ (aD 0) (fC (.int 16))) (fC (.int 8)))))
  (bI (aL (aQ (aA (fC (.str "word")) (aA (aK dw (aA (aD 1) aC)) aC)))))
  bK)
 (aR (fIf (aT (fB (f2 dLt (f2 bZ (aD 0) (fC (.int 16))) (fC (.int 13)))))
  (bI (aL (aQ (aA (fC (.str "gap")) (aA (f2 dIx (bA (fKs [.str " ",.str " ",.str " ",.str ""])) (f2 bZ (aD 1) (fC (.int 4)))) aC)))))
  bK)
 (aR (fIf (aT (fB (f2 dEq (f2 bZ (aD 0) (fC (.int 16))) (fC (.int 13)))))
  (bI (aL (aQ (aA (fC (.str "end")) aC))))
  bK)
 (bI (aL (aQ (aA (fC (.str "stop")) (aA (f2 dIx (bA (aA (f2 bZ (f2 dG (aD 1) (fC (.int 2))) (fC (.int 10))) (aA (f2 bZ (f2 dG (aD 1) (fC (.int 2))) (fC (.int 41))) aC))) (f2 bZ (aD 1) (fC (.int 2)))) aC)))))))))
abbrev jE:Stmt:=top 21
theorem sD:FnScope ["_law_number","_law_some"] ["_law_number"] (aV jE):=⟨rfl,rfl,rfl,by decide+kernel,rfl,by decide+kernel,by decide+kernel⟩
theorem yV{n:Nat}{f:Addr}{fd:FuncData}{dw:(tz6)}{gi:Addr}{gc:FuncData}(b7:Dn K mg "_law_leaf" jE ["_law_number"] f fd)
  (b6:Dn K mg "_law_word" jC ["_law_number"] gi gc) (ez:FnOk P w K mg base CX0 n gi gc ["_law_number"] (SpP 1 K κ dw)):
  FnOk P w K mg base CX0 (n+1) f fd ["_law_number"] (SpP 1 K κ (gP 1 1 (jD dw))):=
 dN b7.F sD fun cdv A outer s H E B hr=>
 (aM (bO 1 sD.nd rfl (.inl rfl) rfl rfl (QP.e (aY eU (aE 0) (QP.v aJ))))
 (aM (cI (QT.e (bQ (kX (Room.units0 hr)) (QP.v (aY cY (aE 0) (QP.v aJ))) (QP.v aJ) (bE _)))
  (aS (bM (QP.e (aN (aB aO (aB (dZ b6 ez hr rfl rfl (aI (aE 1) aP) (bG cU)) aF))))))
  bS)
 (aM (cI (QT.e (bQ (kX (Room.units0 hr)) (QP.v (aY cY (aE 0) (QP.v aJ))) (QP.v aJ) (bE _)))
  (aS (bM (QP.e (aN (aB aO (aB (lY (bL (lF (.str (.str (.str (.str .nil)))))) (QP.v (aY cY (aE 1) (QP.v aJ)))) aF))))))
  bS)
 (aM (cI (QT.e (bQ (dL (Room.units hr)) (QP.v (aY cY (aE 0) (QP.v aJ))) (QP.v aJ) (bE _)))
  (aS (bM (QP.e (aN (aB aO aF)))))
  bS)
 (aS (bM (QP.e (aN (aB aO (aB (lY (bL (aB (aY cY (QP.v (aY eU (aE 1) (QP.v aJ))) (QP.v aJ)) (aB (aY cY (QP.v (aY eU (aE 1) (QP.v aJ))) (QP.v aJ)) aF))) (QP.v (aY cY (aE 1) (QP.v aJ)))) aF))))))))))
def pW:tz1:=
 (aR (aX 1 (aL (bA (aA (aQ (aA (fC (.str "word")) (aA (fC (.str "")) aC))) (aA (aQ (aA (fC (.str "word")) (aA (fC (.str "a b")) aC))) (aA (aQ (aA (fC (.str "word")) (aA (fC (.str "thirteensigns")) aC))) (aA (aQ (aA (fC (.str "word")) (aA (fC (.int 7)) aC))) (aA (aQ (aA (fC (.str "word")) aC)) (aA (aQ (aA (fC (.str "gap")) (aA (fC (.str "  ")) aC))) (aA (aQ (aA (fC (.str "gap")) aC)) aC))))))))))
 (aR (aX 1 (aL (f2 bP (aD 1) (bA (aA (aQ (aA (fC (.str "gap")) (aA (fC .non) aC))) (aA (aQ (aA (fC (.str "end")) (aA (fC (.int 1)) aC))) (aA (aQ (aA (fC (.str "stop")) (aA (fC (.int 41)) aC))) (aA (aQ (aA (fC (.str "stop")) (aA (eZ (fC (.int 1))) aC))) (aA (aQ (aA (fC (.str "stop")) (aA (fC (.bl true)) aC))) (aA (aQ (aA (fC (.str "stop")) (aA (fC (.str "3")) aC))) (aA (aQ (aA (fC (.str "stop")) aC)) aC)))))))))))
 (aR (aX 1 (aL (f2 bP (aD 1) (bA (aA (aQ (aA (fC (.str "hang")) (aA (fC (.int 13)) (aA (aQ aC) aC)))) (aA (aQ (aA (fC (.str "hang")) (aA (eZ (fC (.int 1))) (aA (aQ aC) aC)))) (aA (aQ (aA (fC (.str "hang")) (aA (fC (.int 2)) aC))) (aA (aQ (aA (fC (.str "hang")) (aA (aQ aC) (aA (fC (.int 2)) aC)))) (aA (aQ (aA (fC (.str "hang")) (aA (fC (.bl false)) (aA (aQ aC) aC)))) (aA (aQ (aA (fC (.str "group")) aC)) aC))))))))))
 (aR (aX 1 (aL (f2 bP (aD 1) (bA (aA (aQ (aA (fC (.str "group")) (aA (fI (bA aC)) aC))) (aA (aQ (aA (fC (.str "group")) (aA (aQ (aA (fC (.str "end")) aC)) aC))) (aA (aQ (aA (fC (.str "either")) (aA (aQ (aA (aQ aC) aC)) aC))) (aA (aQ (aA (fC (.str "either")) (aA (aQ (aA (aQ aC) (aA (aQ aC) (aA (aQ aC) (aA (aQ aC) (aA (aQ aC) aC)))))) aC))) (aA (aQ (aA (fC (.str "end")) (aA (fC (.str "")) aC))) aC)))))))))
 (aR (aX 1 (aL (f2 bP (aD 1) (bA (aA (aQ (aA (fC (.str "either")) (aA (fI (bA (aA (aQ aC) (aA (aQ aC) aC)))) aC))) (aA (aQ (aA (fC (.str "either")) (aA (aQ (aA (aQ aC) (aA (fC (.int 5)) aC))) aC))) (aA (aQ (aA (fC (.str "either")) (aA (aQ (aA (aQ aC) (aA (aQ aC) (aA (aQ aC) aC)))) (aA (fC (.int 2)) aC)))) (aA (aQ aC) (aA (fC (.str "word")) (aA (fC .non) (aA (fI (bA (aA (fC (.str "end")) aC))) aC)))))))))))
 (aR (aX 1 (aL (f2 bP (aD 1) (bA (aA (aQ (aA (fC (.str "row")) (aA (aQ aC) aC))) (aA (fC (.int 7)) (aA (aQ (aA (aQ (aA (fC (.str "end")) aC)) aC)) (aA (aQ (aA (fC (.str "group")) (aA (aQ aC) (aA (aQ aC) aC)))) (aA (aQ (aA (fC (.str "End")) aC)) (aA (aQ (aA (fC (.str "stop")) (aA (fC (.int 0)) aC))) (aA (aQ (aA (fC (.str "hang")) (aA (fC (.int 0)) (aA (aQ aC) aC)))) (aA (aQ (aA (fC (.str "stop")) (aA (fC (.int 40)) aC))) aC))))))))))))
 (aR (aX 1 (aL (f2 bP (aD 1) (bA (aA (aQ (aA (fI (bA (aA (fC (.str "word")) aC))) (aA (fC (.str "a")) aC))) (aA (aQ (aA (fI (bA aC)) (aA (fC (.int 1)) aC))) (aA (aQ (aA (fC (.str "gap")) (aA (fI (bA aC)) aC))) (aA (aQ (aA (fC (.str "stop")) (aA (fI (bA (aA (fC (.int 3)) aC))) aC))) (aA (aQ (aA (aQ (aA (fC (.str "word")) aC)) (aA (fC (.str "a")) aC))) (aA (aQ (aA (fC (.str "hang")) (aA (fI (bA (aA (fC (.int 1)) aC))) (aA (aQ aC) aC)))) aC))))))))))
 (aR (aX 1 (aL (f2 bP (aD 1) (bA (aA (aQ (aA (fC (.str "either")) (aA (aQ (aA (aQ aC) (aA (aQ (aA (aQ (aA (fC (.str "stop")) (aA (fC (.int 41)) aC))) aC)) aC))) aC))) (aA (aQ (aA (fC (.str "either")) (aA (fI (bA aC)) (aA (aQ aC) aC)))) (aA (aQ (aA (fI (bA (aA (fC (.str "end")) aC))) aC)) (aA (aQ (aA (fC (.str "word")) (aA (fI (bA aC)) aC))) (aA (aQ (aA (fI (bA aC)) (aA (aQ aC) aC))) aC)))))))))
 (bI (aL (bY (f2 dIx (aD 1) (f2 bZ (aD 0) (aK bU (aA (aD 1) aC)))))))))))))))
abbrev jX:Stmt:=top 22
theorem iC:FnScope ["_law_number","_law_some"] ["_law_number"] (aV jX):=⟨rfl,rfl,rfl,by decide+kernel,rfl,by decide+kernel,by decide+kernel⟩
theorem zb2{n:Nat}{f:Addr}{fd:FuncData}(cz:Dn K mg "_law_odd" jX ["_law_number"] f fd)
  (ab:mg "len"=none):
  FnOk P w K mg base CX0 (n+1) f fd ["_law_number"] (SpP 1 K κ (gP 1 1 (pW))):=
 dN cz.F iC fun cdv A outer s H E B hr=>
 (aM (bO 1 iC.nd rfl (.inl rfl) rfl rfl (QP.e (bL (aB (aN (aB aO (aB aO aF))) (aB (aN (aB aO (aB aO aF))) (aB (aN (aB aO (aB aO aF))) (aB (aN (aB aO (aB aJ aF))) (aB (aN (aB aO aF)) (aB (aN (aB aO (aB aO aF))) (aB (aN (aB aO aF)) aF))))))))))
 (aM (bO 1 iC.nd rfl (.inl rfl) rfl rfl (QP.e (aY dI (aE 1) (QP.v (bL (aB (aN (aB aO (aB gY aF))) (aB (aN (aB aO (aB aJ aF))) (aB (aN (aB aO (aB aJ aF))) (aB (aN (aB aO (aB (lO (QP.v aJ)) aF))) (aB (aN (aB aO (aB iP aF))) (aB (aN (aB aO (aB aO aF))) (aB (aN (aB aO aF)) aF))))))))))))
 (aM (bO 1 iC.nd rfl (.inl rfl) rfl rfl (QP.e (aY dI (aE 1) (QP.v (bL (aB (aN (aB aO (aB aJ (aB (aN aF) aF)))) (aB (aN (aB aO (aB (lO (QP.v aJ)) (aB (aN aF) aF)))) (aB (aN (aB aO (aB aJ aF))) (aB (aN (aB aO (aB (aN aF) (aB aJ aF)))) (aB (aN (aB aO (aB iP (aB (aN aF) aF)))) (aB (aN (aB aO aF)) aF)))))))))))
 (aM (bO 1 iC.nd rfl (.inl rfl) rfl rfl (QP.e (aY dI (aE 1) (QP.v (bL (aB (aN (aB aO (aB (eL (bL aF)) aF))) (aB (aN (aB aO (aB (aN (aB aO aF)) aF))) (aB (aN (aB aO (aB (aN (aB (aN aF) aF)) aF))) (aB (aN (aB aO (aB (aN (aB (aN aF) (aB (aN aF) (aB (aN aF) (aB (aN aF) (aB (aN aF) aF)))))) aF))) (aB (aN (aB aO (aB aO aF))) aF))))))))))
 (aM (bO 1 iC.nd rfl (.inl rfl) rfl rfl (QP.e (aY dI (aE 1) (QP.v (bL (aB (aN (aB aO (aB (eL (bL (aB (aN aF) (aB (aN aF) aF)))) aF))) (aB (aN (aB aO (aB (aN (aB (aN aF) (aB aJ aF))) aF))) (aB (aN (aB aO (aB (aN (aB (aN aF) (aB (aN aF) (aB (aN aF) aF)))) (aB aJ aF)))) (aB (aN aF) (aB aO (aB gY (aB (eL (bL (aB aO aF))) aF))))))))))))
 (aM (bO 1 iC.nd rfl (.inl rfl) rfl rfl (QP.e (aY dI (aE 1) (QP.v (bL (aB (aN (aB aO (aB (aN aF) aF))) (aB aJ (aB (aN (aB (aN (aB aO aF)) aF)) (aB (aN (aB aO (aB (aN aF) (aB (aN aF) aF)))) (aB (aN (aB aO aF)) (aB (aN (aB aO (aB aJ aF))) (aB (aN (aB aO (aB aJ (aB (aN aF) aF)))) (aB (aN (aB aO (aB aJ aF))) aF)))))))))))))
 (aM (bO 1 iC.nd rfl (.inl rfl) rfl rfl (QP.e (aY dI (aE 1) (QP.v (bL (aB (aN (aB (eL (bL (aB aO aF))) (aB aO aF))) (aB (aN (aB (eL (bL aF)) (aB aJ aF))) (aB (aN (aB aO (aB (eL (bL aF)) aF))) (aB (aN (aB aO (aB (eL (bL (aB aJ aF))) aF))) (aB (aN (aB (aN (aB aO aF)) (aB aO aF))) (aB (aN (aB aO (aB (eL (bL (aB aJ aF))) (aB (aN aF) aF)))) aF)))))))))))
 (aM (bO 1 iC.nd rfl (.inl rfl) rfl rfl (QP.e (aY dI (aE 1) (QP.v (bL (aB (aN (aB aO (aB (aN (aB (aN aF) (aB (aN (aB (aN (aB aO (aB aJ aF))) aF)) aF))) aF))) (aB (aN (aB aO (aB (eL (bL aF)) (aB (aN aF) aF)))) (aB (aN (aB (eL (bL (aB aO aF))) aF)) (aB (aN (aB aO (aB (eL (bL aF)) aF))) (aB (aN (aB (eL (bL aF)) (aB (aN aF) aF))) aF))))))))))
 (aS (bM (QP.e (QV.p (cS (aE 1) (QP.v (aY cY (aE 0) (QP.v (bB dY rfl ab boot_len (aI (aE 1) aP))))))))))))))))))
def qR(am:(tz6))(en:(tz6))(d3:(tz6)):tz1:=
 (aR (aX 4 (aL (bA (aA (bA aC) aC))))
 (aR (aX 5 (aL (bA aC)))
 (aR (dM 6 (gG (aA (aD 1) (aA (f2 bP (aD 1) (aD 2)) aC)))
  (aR (aX 7 (aL (aK am (aA (aD 0) (aA (aD 6) (aA (fC (.int 31)) aC))))))
 (fIf (aT (cA (fB (f2 dLt (f2 bZ (aD 7) (fC (.int 8))) (fC (.int 2)))) (fB (f2 dLt (aK bU (aA (aD 5) aC)) (fC (.int 4))))))
  (aR (cP (cE 5 bW (aA (f2 dIx (bA (aA (bA (aA (fC (.str "group")) aC)) (aA (bA (aA (fC (.str "hang")) (aA (f2 bZ (f2 dG (aD 7) (fC (.int 8))) (fC (.int 13))) aC))) (aA (bA (aA (fC (.str "either")) aC)) aC)))) (f2 bZ (f2 dG (aD 7) (fC (.int 104))) (fC (.int 3)))) aC) cG))
 (cP (cE 4 bW (aA (bA aC) aC) cG)))
  (fIf (aT (cA (fB (f2 dEq (f2 bZ (aD 7) (fC (.int 8))) (fC (.int 2)))) (fB (f2 dGt (aK bU (aA (aD 5) aC)) (fC (.int 0))))))
  (aR (aX 8 (jP cN (cE 4 bW aC fA)))
 (aR (aX 9 (cE 5 bW aC fA))
 (aR (fIf (aT (fB (f2 dEq (f2 dIx (aD 9) (fC (.int 0))) (fC (.str "either")))))
  (aR (aX 10 (aL (f2 eG (bA (aA (aQ aC) aC)) (f2 bP (fC (.int 2)) (f2 bZ (f2 dG (aD 7) (fC (.int 8))) (fC (.int 3)))))))
 (aR (eO 10 bW (f2 bZ (f2 dG (aD 7) (fC (.int 24))) (aK bU (aA (aD 10) aC))) (bY (aD 8)))
 (aX 8 (aL (aK cN (aA (aD 10) aC))))))
  bK)
 (cP (cE 4 (eD 4 bW (eZ (fC (.int 1)))) (aA (f2 bP (aK cN (aA (aD 9) aC)) (aQ (aA (bY (aD 8)) aC))) aC) cG)))))
  (fIf (aT (cA (fB (f2 dGt (aD 3) (fC (.int 0)))) (fB (f2 dEq (f2 bZ (f2 dG (aD 7) (fC (.int 8))) (fC (.int 6))) (fC (.int 1))))))
  (cP (cE 4 (eD 4 bW (eZ (fC (.int 1)))) (aA (aK en (aA (f2 dG (aD 7) (fC (.int 48))) aC)) aC) cG))
  (cP (cE 4 (eD 4 bW (eZ (fC (.int 1)))) (aA (aK d3 (aA (aK am (aA (aD 0) (aA (aD 6) (aA (fC (.int 32)) aC)))) aC)) aC) cG)))))))
 (aR (eN (aT (fB (f2 dGt (aK bU (aA (aD 4) aC)) (fC (.int 1)))))
  (aR (aX 8 (jP cN (cE 4 bW aC fA)))
 (cP (cE 4 (eD 4 bW (fC (.int 0))) (aA (aK eB (aA (aD 8) aC)) aC) cO))) 400)
 (bI (aL (aK cN (aA (f2 dIx (aD 4) (fC (.int 0))) aC))))))))
abbrev iH:Stmt:=top 23
theorem eV:FnScope ["_law_script","_law_at","_law_many","_law_odd_here","_law_frames","_law_heads","_law_k","_law_number","_law_row","_law_head","_law_some"] ["_law_script","_law_at","_law_many","_law_odd_here"] (aV iH):=⟨rfl,rfl,rfl,by decide+kernel,rfl,by decide+kernel,by decide+kernel⟩
theorem wZ{n:Nat}{f:Addr}{fd:FuncData}{am:(tz6)}{ck:Addr}{bx:FuncData}{en:(tz6)}{gq:Addr}{gj:FuncData}{d3:(tz6)}{gk:Addr}{gd:FuncData}(bg:Dn K mg "_law_shape" iH ["_law_script","_law_at","_law_many","_law_odd_here"] f fd)
  (aw:Dn K mg "_law_mixed" gQ ["_law_script","_law_k","_law_salt"] ck bx) (bh:FnOk P w K mg base CX0 n ck bx ["_law_script","_law_k","_law_salt"] (SpP 3 K κ am))
  (cz:Dn K mg "_law_odd" jX ["_law_number"] gq gj) (gb:FnOk P w K mg base CX0 n gq gj ["_law_number"] (SpP 1 K κ en))
  (b7:Dn K mg "_law_leaf" jE ["_law_number"] gk gd) (fg:FnOk P w K mg base CX0 n gk gd ["_law_number"] (SpP 1 K κ d3))
  (ar:mg "range"=none)
  (ac:mg "tuple"=none)
  (ab:mg "len"=none)
  (bb:mg "list"=none):
  FnOk P w K mg base CX0 (n+1) f fd ["_law_script","_law_at","_law_many","_law_odd_here"] (SpP 4 K κ (gP 4 7 (qR am en d3))):=
 dN bg.F eV fun cdv A outer s H E B hr=>
 (aM (bO 4 eV.nd rfl (.inl rfl) rfl rfl (QP.e (bL (aB (bL aF) aF))))
 (aM (bO 5 eV.nd rfl (.inl rfl) rfl rfl (QP.e (bL aF)))
 (aM (lP 6 PassesOwn.never rfl eV.nd rfl (.inl rfl) rfl rfl (nZ rfl ar (aI (aE 1) (aI (QP.v (aY dI (aE 1) (aE 2))) aP)))
  (aM (bO 7 eV.nd rfl (.inl rfl) rfl rfl (QP.e (dZ aw bh hr rfl rfl (aI (aE 0) (aI (aE 6) (aI (QP.v aJ) aP))) (bG (bG (bG cU))))))
 (aS (cI (QT.e (jW (gZ (bQ (kX (Room.units0 hr)) (QP.v (aY cY (aE 7) (QP.v aJ))) (QP.v aJ) (bE _)) (jJ (bQ (kX (Room.units0 hr)) (QP.v (bB dY rfl ab boot_len (aI (aE 5) aP))) (QP.v aJ) (bE _))))))
  (aM (jK (iW (j:=5) rfl (dR 5) (aB (lY (bL (aB (bL (aB aO aF)) (aB (bL (aB aO (aB (aY cY (QP.v (aY eU (aE 7) (QP.v aJ))) (QP.v aJ)) aF))) (aB (bL (aB aO aF)) aF)))) (QP.v (aY cY (QP.v (aY eU (aE 7) (QP.v aJ))) (QP.v aJ)))) aF)))
 (aS (jK (iW (j:=4) rfl (dR 4) (aB (bL aF) aF)))))
  (aS (cI (QT.e (jW (gZ (bQ (dL (Room.units hr)) (QP.v (aY cY (aE 7) (QP.v aJ))) (QP.v aJ) (bE _)) (jJ (bQ nY (QP.v (bB dY rfl ab boot_len (aI (aE 5) aP))) (QP.v aJ) (bE _))))))
  (aM (bO 8 eV.nd rfl (.inl rfl) rfl rfl (lG iM rfl ac boot_tuple (oD (j:=4) rfl (dR 4))))
 (aM (bO 9 eV.nd rfl (.inl rfl) rfl rfl (oD (j:=5) rfl (dR 5)))
 (aM (cI (QT.e (bQ (dL (Room.units hr)) (cS (aE 9) (QP.v aJ)) (QP.v aO) (bE _)))
  (aM (bO 10 eV.nd rfl (.inl rfl) rfl rfl (QP.e (aY lX (QP.v (bL (aB (aN aF) aF))) (QP.v (aY dI (QP.v aJ) (QP.v (aY cY (QP.v (aY eU (aE 7) (QP.v aJ))) (QP.v aJ))))))))
 (aM (pS (j:=10) rfl (QV.p (aE 8)) (dR 10) (QP.v (aY cY (QP.v (aY eU (aE 7) (QP.v aJ))) (QP.v (bB dY rfl ab boot_len (aI (aE 10) aP))))))
 (aS (bO 8 eV.nd rfl (.inl rfl) rfl rfl (QP.e (eM iM rfl ac boot_tuple (aI (aE 10) aP)))))))
  bS)
 (aS (jK (iW (j:=4) rfl (kN (dR 4) (QP.v (lO (QP.v aJ)))) (aB (aY dI (QP.v (eM iM rfl ac boot_tuple (aI (aE 9) aP))) (QP.v (aN (aB (QV.p (aE 8)) aF)))) aF)))))))
  (aS (cI (QT.e (jW (gZ (bQ nY (aE 3) (QP.v aJ) (bE _)) (jJ (bQ (dL (Room.units hr)) (QP.v (aY cY (QP.v (aY eU (aE 7) (QP.v aJ))) (QP.v aJ))) (QP.v aJ) (bE _))))))
  (aS (jK (iW (j:=4) rfl (kN (dR 4) (QP.v (lO (QP.v aJ)))) (aB (dZ cz gb hr rfl rfl (aI (QP.v (aY eU (aE 7) (QP.v aJ))) aP) (bG cU)) aF))))
  (aS (jK (iW (j:=4) rfl (kN (dR 4) (QP.v (lO (QP.v aJ)))) (aB (dZ b7 fg hr rfl rfl (aI (QP.v (dZ aw bh hr rfl rfl (aI (aE 0) (aI (aE 6) (aI (QP.v aJ) aP))) (bG (bG (bG cU))))) aP) (bG cU)) aF))))))))))))
 (aM (nA 400 PassesOwn.never (QT.e (bQ nY (QP.v (bB dY rfl ab boot_len (aI (aE 4) aP))) (QP.v aJ) (bE _)))
  (aM (bO 8 eV.nd rfl (.inl rfl) rfl rfl (lG iM rfl ac boot_tuple (oD (j:=4) rfl (dR 4))))
 (aS (jK (lZ (j:=4) rfl (kN (dR 4) (QP.v aJ)) (aI (QP.v (eM mL rfl bb boot_list (aI (aE 8) aP))) aP))))))
 (aS (bM (QP.e (eM iM rfl ac boot_tuple (aI (cS (aE 4) (QP.v aJ)) aP)))))))))
def nP(am:(tz6))(cm:(tz6)):tz1:=
 (aR (aX 2 (aL (aK am (aA (aD 0) (aA (aD 1) (aA (fC (.int 50)) aC))))))
 (aR (fIf (aT (fB (f2 dEq (f2 bZ (aD 2) (fC (.int 10))) (fC (.int 1)))))
  (bI (aL (aK cN (aA (f2 eG (bA (aA (aQ (aA (fC (.str "end")) aC)) aC)) (f2 bP (fC (.int 199)) (f2 bZ (f2 dG (aD 2) (fC (.int 10))) (fC (.int 4))))) aC))))
  bK)
 (aR (fIf (aT (fB (f2 dEq (f2 bZ (aD 2) (fC (.int 10))) (fC (.int 2)))))
  (aR (aX 3 (aL (aQ aC)))
 (aR (dM 4 (eW (aA (f2 bP (fC (.int 11)) (f2 bZ (f2 dG (aD 2) (fC (.int 10))) (fC (.int 3)))) aC))
  (aX 3 (aL (aQ (aA (f2 dIx (bA (aA (aQ (aA (fC (.str "group")) (aA (bY (aD 3)) aC))) (aA (aQ (aA (fC (.str "hang")) (aA (bY (aD 4)) (aA (bY (aD 3)) aC)))) (aA (aQ (aA (fC (.str "either")) (aA (aQ (aA (bY (aD 3)) (aA (aQ aC) aC))) aC))) aC)))) (f2 bZ (f2 dG (aD 2) (fC (.int 30))) (fC (.int 3)))) aC)))))
 (gL 3)))
  bK)
 (aR (fIf (aT (fB (f2 dEq (f2 bZ (aD 2) (fC (.int 10))) (fC (.int 3)))))
  (bI (aL (aK cN (aA (f2 eG (bA (aA (aQ (aA (fC (.str "group")) (aA (aQ aC) aC))) aC)) (f2 bP (fC (.int 99)) (f2 bZ (f2 dG (aD 2) (fC (.int 10))) (fC (.int 3))))) aC))))
  bK)
 (aR (fIf (aT (fB (f2 dEq (f2 bZ (aD 2) (fC (.int 10))) (fC (.int 5)))))
  (bI (aL (aK cN (aA (f2 bP (f2 bP (f2 eG (bA (aA (aQ (aA (fC (.str "either")) (aA (aQ (aA (aQ aC) (aA (aQ aC) (aA (aQ aC) (aA (aQ aC) aC))))) aC))) aC)) (fC (.int 39))) (bA (aA (aQ (aA (fC (.str "hang")) (aA (fC (.int 1)) (aA (aQ aC) aC)))) aC))) (f2 eG (bA (aA (aQ (aA (fC (.str "end")) aC)) aC)) (f2 bP (fC (.int 2)) (f2 bZ (f2 dG (aD 2) (fC (.int 10))) (fC (.int 4)))))) aC))))
  bK)
 (aR (fIf (aT (fB (f2 dEq (f2 bZ (aD 2) (fC (.int 10))) (fC (.int 4)))))
  (bI (aL (f2 dIx (bA (aA (fI (aK eB (aA (aK cm (aA (aD 0) (aA (aD 1) (aA (fC (.int 3)) (aA (fC (.int 0)) aC))))) aC))) (aA (fC .non) (aA (fC (.int 7)) (aA (fC (.str "word")) (aA (aQ aC) (aA (fC (.bl true)) (aA (aQ (aA (fC (.str "end")) aC)) (aA (fI (bA (aA (aQ aC) aC))) aC))))))))) (f2 bZ (f2 dG (aD 2) (fC (.int 10))) (fC (.int 8))))))
  bK)
 (bI (aL (aK cm (aA (aD 0) (aA (aD 1) (aA (f2 bP (fC (.int 1)) (f2 bZ (f2 dG (aD 2) (fC (.int 10))) (fC (.int 30)))) (aA (f2 bZ (f2 dG (aD 2) (fC (.int 300))) (fC (.int 2))) aC)))))))))))))
abbrev iI:Stmt:=top 24
theorem kF:FnScope ["_law_script","_law_k","_law_number","_law_row","_law_j"] ["_law_script","_law_k"] (aV iI):=⟨rfl,rfl,rfl,by decide+kernel,rfl,by decide+kernel,by decide+kernel⟩
theorem xA{n:Nat}{f:Addr}{fd:FuncData}{am:(tz6)}{ck:Addr}{bx:FuncData}{cm:(tz6)}{ge:Addr}{fk:FuncData}(br:Dn K mg "_law_thing" iI ["_law_script","_law_k"] f fd)
  (aw:Dn K mg "_law_mixed" gQ ["_law_script","_law_k","_law_salt"] ck bx) (bh:FnOk P w K mg base CX0 n ck bx ["_law_script","_law_k","_law_salt"] (SpP 3 K κ am))
  (bg:Dn K mg "_law_shape" iH ["_law_script","_law_at","_law_many","_law_odd_here"] ge fk) (di:FnOk P w K mg base CX0 n ge fk ["_law_script","_law_at","_law_many","_law_odd_here"] (SpP 4 K κ cm))
  (ac:mg "tuple"=none)
  (ar:mg "range"=none)
  (bb:mg "list"=none):
  FnOk P w K mg base CX0 (n+1) f fd ["_law_script","_law_k"] (SpP 2 K κ (gP 2 3 (nP am cm))):=
 dN br.F kF fun cdv A outer s H E B hr=>
 (aM (bO 2 kF.nd rfl (.inl rfl) rfl rfl (QP.e (dZ aw bh hr rfl rfl (aI (aE 0) (aI (aE 1) (aI (QP.v aJ) aP))) (bG (bG (bG cU))))))
 (aM (cI (QT.e (bQ (dL (Room.units hr)) (QP.v (aY cY (aE 2) (QP.v aJ))) (QP.v aJ) (bE _)))
  (aS (bM (QP.e (eM iM rfl ac boot_tuple (aI (QP.v (aY lX (QP.v (bL (aB (aN (aB aO aF)) aF))) (QP.v (aY dI (QP.v aJ) (QP.v (aY cY (QP.v (aY eU (aE 2) (QP.v aJ))) (QP.v aJ))))))) aP)))))
  bS)
 (aM (cI (QT.e (bQ (dL (Room.units hr)) (QP.v (aY cY (aE 2) (QP.v aJ))) (QP.v aJ) (bE _)))
  (aM (bO 3 kF.nd rfl (.inl rfl) rfl rfl (QP.e (aN aF)))
 (aM (lP 4 PassesOwn.never rfl kF.nd rfl (.inl rfl) rfl rfl (kW rfl ar (aI (QP.v (aY dI (QP.v aJ) (QP.v (aY cY (QP.v (aY eU (aE 2) (QP.v aJ))) (QP.v aJ))))) aP))
  (aS (bO 3 kF.nd rfl (.inl rfl) rfl rfl (QP.e (aN (aB (lY (bL (aB (aN (aB aO (aB (QV.p (aE 3)) aF))) (aB (aN (aB aO (aB (QV.p (aE 4)) (aB (QV.p (aE 3)) aF)))) (aB (aN (aB aO (aB (aN (aB (QV.p (aE 3)) (aB (aN aF) aF))) aF))) aF)))) (QP.v (aY cY (QP.v (aY eU (aE 2) (QP.v aJ))) (QP.v aJ)))) aF))))))
 (aS (mM 3 rfl))))
  bS)
 (aM (cI (QT.e (bQ (dL (Room.units hr)) (QP.v (aY cY (aE 2) (QP.v aJ))) (QP.v aJ) (bE _)))
  (aS (bM (QP.e (eM iM rfl ac boot_tuple (aI (QP.v (aY lX (QP.v (bL (aB (aN (aB aO (aB (aN aF) aF))) aF))) (QP.v (aY dI (QP.v aJ) (QP.v (aY cY (QP.v (aY eU (aE 2) (QP.v aJ))) (QP.v aJ))))))) aP)))))
  bS)
 (aM (cI (QT.e (bQ (dL (Room.units hr)) (QP.v (aY cY (aE 2) (QP.v aJ))) (QP.v aJ) (bE _)))
  (aS (bM (QP.e (eM iM rfl ac boot_tuple (aI (QP.v (aY dI (QP.v (aY dI (QP.v (aY lX (QP.v (bL (aB (aN (aB aO (aB (aN (aB (aN aF) (aB (aN aF) (aB (aN aF) (aB (aN aF) aF))))) aF))) aF))) (QP.v aJ))) (QP.v (bL (aB (aN (aB aO (aB aJ (aB (aN aF) aF)))) aF))))) (QP.v (aY lX (QP.v (bL (aB (aN (aB aO aF)) aF))) (QP.v (aY dI (QP.v aJ) (QP.v (aY cY (QP.v (aY eU (aE 2) (QP.v aJ))) (QP.v aJ))))))))) aP)))))
  bS)
 (aM (cI (QT.e (bQ (dL (Room.units hr)) (QP.v (aY cY (aE 2) (QP.v aJ))) (QP.v aJ) (bE _)))
  (aS (bM (QP.e (lY (bL (aB (eL (eM mL rfl bb boot_list (aI (QP.v (dZ bg di hr rfl rfl (aI (aE 0) (aI (aE 1) (aI (QP.v aJ) (aI (QP.v aJ) aP)))) (bG (bG (bG (bG cU)))))) aP))) (aB gY (aB aJ (aB aO (aB (aN aF) (aB iP (aB (aN (aB aO aF)) (aB (eL (bL (aB (aN aF) aF))) aF))))))))) (QP.v (aY cY (QP.v (aY eU (aE 2) (QP.v aJ))) (QP.v aJ)))))))
  bS)
 (aS (bM (QP.e (dZ bg di hr rfl rfl (aI (aE 0) (aI (aE 1) (aI (QP.v (aY dI (QP.v aJ) (QP.v (aY cY (QP.v (aY eU (aE 2) (QP.v aJ))) (QP.v aJ))))) (aI (QP.v (aY cY (QP.v (aY eU (aE 2) (QP.v aJ))) (QP.v aJ))) aP)))) (bG (bG (bG (bG cU))))))))))))))
def oS:tz1:=
 (bI (aL (dQ (aK dA (aA (aD 0) (aA (fC (.ty "int")) aC))) (dQ (rK (aK dA (aA (aD 0) (aA (fC (.ty "bool")) aC)))) (f3 dLe dLe (fC (.int 0)) (aD 0) (aD 1))))))
abbrev iB:Stmt:=top 25
theorem yW:FnScope ["_law_thing_here","_law_most"] ["_law_thing_here","_law_most"] (aV iB):=⟨rfl,rfl,rfl,by decide+kernel,rfl,by decide+kernel,by decide+kernel⟩
theorem yX{n:Nat}{f:Addr}{fd:FuncData}(ay:Dn K mg "_law_upto" iB ["_law_thing_here","_law_most"] f fd)
  (aa:mg "isinstance"=none)
  (ej:mg "int"=none)
  (bu:mg "bool"=none):
  FnOk P w K mg base CX0 (n+1) f fd ["_law_thing_here","_law_most"] (SpP 2 K κ (gP 2 0 (oS))):=
 dN ay.F yW fun cdv A outer s H E B hr=>
 (aS (bM (QP.e (eY (bB gD rfl aa boot_isinstance (aI (aE 0) (aI (QP.v (gC rfl ej boot_int)) aP))) (eY (tL (bB gD rfl aa boot_isinstance (aI (aE 0) (aI (QP.v (gC rfl bu boot_bool)) aP)))) (hC (nD kM kM (QP.v aJ) (aE 0) (aE 1))))))))
def kR(az:(tz6)):tz1:=
 (aR (fIf (aT (fB (f2 dEq (f2 dIx (aD 0) (fC (.int 0))) (fC (.str "word")))))
  (aR (aX 1 (aL (bY (f2 dIx (aD 0) (fC (.int 1))))))
 (bI (aL (dQ (aK dA (aA (aD 1) (aA (fC (.ty "str")) aC))) (dQ (f3 dLt dLt (fC (.int 0)) (aK bU (aA (aD 1) aC)) (fC (.int 13))) (f2 dLt (fMt sR (aD 1) (aA (fC (.str " ")) aC)) (fC (.int 0))))))))
  bK)
 (aR (fIf (aT (fB (f2 dEq (f2 dIx (aD 0) (fC (.int 0))) (fC (.str "gap")))))
  (bI (aL (dQ (aK dA (aA (f2 dIx (aD 0) (fC (.int 1))) (aA (fC (.ty "str")) aC))) (f2 dIn (f2 dIx (aD 0) (fC (.int 1))) (bA (aA (fC (.str "")) (aA (fC (.str " ")) aC)))))))
  bK)
 (bI (aL (dQ (f2 dEq (f2 dIx (aD 0) (fC (.int 0))) (fC (.str "stop"))) (aK az (aA (f2 dIx (aD 0) (fC (.int 1))) (aA (fC (.int 40)) aC))))))))
abbrev eR:Stmt:=top 26
theorem mO:FnScope ["_law_piece","_law_thing_here"] ["_law_piece"] (aV eR):=⟨rfl,rfl,rfl,by decide+kernel,rfl,by decide+kernel,by decide+kernel⟩
theorem rE{n:Nat}{f:Addr}{fd:FuncData}{az:(tz6)}{da:Addr}{cn:FuncData}(au:Dn K mg "_law_leaf_good" eR ["_law_piece"] f fd)
  (ay:Dn K mg "_law_upto" iB ["_law_thing_here","_law_most"] da cn) (b8:FnOk P w K mg base CX0 n da cn ["_law_thing_here","_law_most"] (SpP 2 K κ az))
  (aa:mg "isinstance"=none)
  (cc:mg "str"=none)
  (ab:mg "len"=none):
  FnOk P w K mg base CX0 (n+1) f fd ["_law_piece"] (SpP 1 K κ (gP 1 1 (kR az))):=
 dN au.F mO fun cdv A outer s H E B hr=>
 (aM (cI (QT.e (bQ (dL (Room.units hr)) (cS (aE 0) (QP.v aJ)) (QP.v aO) (bE _)))
  (aM (bO 1 mO.nd rfl (.inl rfl) rfl rfl (QP.e (QV.p (cS (aE 0) (QP.v aJ)))))
 (aS (bM (QP.e (eY (bB gD rfl aa boot_isinstance (aI (aE 1) (aI (QP.v (gC rfl cc boot_str)) aP))) (eY (nD (kX (Room.units0 hr)) (kX (Room.units0 hr)) (QP.v aJ) (QP.v (bB dY rfl ab boot_len (aI (aE 1) aP))) (QP.v aJ)) (hC (eE (kX (Room.units0 hr)) (QP.v (wU PySem.F.slot_str_find PySem.F.type_str_find tW (aE 1) (aI (QP.v aO) aP))) (QP.v aJ) (bE _)))))))))
  bS)
 (aM (cI (QT.e (bQ (dL (Room.units hr)) (cS (aE 0) (QP.v aJ)) (QP.v aO) (bE _)))
  (aS (bM (QP.e (eY (bB gD rfl aa boot_isinstance (aI (cS (aE 0) (QP.v aJ)) (aI (QP.v (gC rfl cc boot_str)) aP))) (hC (eE wS (cS (aE 0) (QP.v aJ)) (QP.v (bL (aB aO (aB aO aF)))) (by with_unfolding_all rfl)))))))
  bS)
 (aS (bM (QP.e (eY (eE (dL (Room.units hr)) (cS (aE 0) (QP.v aJ)) (QP.v aO) (bE _)) (hC (dZ ay b8 hr rfl rfl (aI (cS (aE 0) (QP.v aJ)) (aI (QP.v aJ) aP)) (bG (bG cU))))))))))
def oU(az:(tz6))(bo:(tz6)):tz1:=
 (aR (fIf (aT (eC (cW (fT (aK dA (aA (aD 0) (aA (fC (.ty "tuple")) aC))))) (eC (fB (f2 dEq (aK bU (aA (aD 0) aC)) (fC (.int 0)))) (cW (fT (aK dA (aA (f2 dIx (aD 0) (fC (.int 0))) (aA (fC (.ty "str")) aC))))))))
  (bI (aL (fC .non)))
  bK)
 (aR (fIf (aT (fB (f2 dEq (aD 0) (aQ (aA (fC (.str "end")) aC)))))
  (bI (aL (bA aC)))
  bK)
 (aR (fIf (aT (cA (fB (f2 dEq (f2 dIx (aD 0) (fC (.int 0))) (fC (.str "group")))) (fB (f2 dEq (aK bU (aA (aD 0) aC)) (fC (.int 2))))))
  (bI (aL (bA (aA (bY (f2 dIx (aD 0) (fC (.int 1)))) aC))))
  bK)
 (aR (fIf (aT (cA (fB (f2 dEq (f2 dIx (aD 0) (fC (.int 0))) (fC (.str "hang")))) (cA (fB (f2 dEq (aK bU (aA (aD 0) aC)) (fC (.int 3)))) (fT (aK az (aA (f2 dIx (aD 0) (fC (.int 1))) (aA (fC (.int 12)) aC)))))))
  (bI (aL (bA (aA (bY (f2 dIx (aD 0) (fC (.int 2)))) aC))))
  bK)
 (aR (fIf (aT (cA (fB (f2 dEq (f2 dIx (aD 0) (fC (.int 0))) (fC (.str "either")))) (cA (fB (f2 dEq (aK bU (aA (aD 0) aC)) (fC (.int 2)))) (cA (fT (aK dA (aA (f2 dIx (aD 0) (fC (.int 1))) (aA (fC (.ty "tuple")) aC)))) (fB (f3 dLt dLt (fC (.int 1)) (aK bU (aA (f2 dIx (aD 0) (fC (.int 1))) aC)) (fC (.int 5))))))))
  (bI (aL (aK eB (aA (f2 dIx (aD 0) (fC (.int 1))) aC))))
  bK)
 (aR (fIf (aT (cA (fB (f2 dEq (aK bU (aA (aD 0) aC)) (fC (.int 2)))) (cA (fB (f2 mT (f2 dIx (aD 0) (fC (.int 0))) (bA (aA (fC (.str "group")) (aA (fC (.str "either")) aC))))) (fT (aK bo (aA (aD 0) aC))))))
  (bI (aL (bA aC)))
  bK)
 (bI (aL (fC .non)))))))))
abbrev jF:Stmt:=top 27
theorem yY:FnScope ["_law_piece"] ["_law_piece"] (aV jF):=⟨rfl,rfl,rfl,by decide+kernel,rfl,by decide+kernel,by decide+kernel⟩
theorem yZ{n:Nat}{f:Addr}{fd:FuncData}{az:(tz6)}{da:Addr}{cn:FuncData}{bo:(tz6)}{d6:Addr}{dv:FuncData}(b9:Dn K mg "_law_rows" jF ["_law_piece"] f fd)
  (ay:Dn K mg "_law_upto" iB ["_law_thing_here","_law_most"] da cn) (b8:FnOk P w K mg base CX0 n da cn ["_law_thing_here","_law_most"] (SpP 2 K κ az))
  (au:Dn K mg "_law_leaf_good" eR ["_law_piece"] d6 dv) (cu:FnOk P w K mg base CX0 n d6 dv ["_law_piece"] (SpP 1 K κ bo))
  (aa:mg "isinstance"=none)
  (ac:mg "tuple"=none)
  (bb:mg "list"=none)
  (ab:mg "len"=none)
  (cc:mg "str"=none):
  FnOk P w K mg base CX0 (n+1) f fd ["_law_piece"] (SpP 1 K κ (gP 1 0 (oU az bo))):=
 dN b9.F yY fun cdv A outer s H E B hr=>
 (aM (cI (QT.e (jW (lE (jO (fV (QP.v (bB gD rfl aa boot_isinstance (aI (aE 0) (aI (QP.v (gC rfl ac boot_tuple)) aP)))))) (lE (bQ (dL (Room.units hr)) (QP.v (bB dY rfl ab boot_len (aI (aE 0) aP))) (QP.v aJ) (bE _)) (kU (jO (fV (QP.v (bB gD rfl aa boot_isinstance (aI (cS (aE 0) (QP.v aJ)) (aI (QP.v (gC rfl cc boot_str)) aP)))))))))))
  (aS (bM (QP.e gY)))
  bS)
 (aM (cI (QT.e (bQ (dL (Room.units hr)) (aE 0) (QP.v (aN (aB aO aF))) (bE _)))
  (aS (bM (QP.e (bL aF))))
  bS)
 (aM (cI (QT.e (jW (gZ (bQ (dL (Room.units hr)) (cS (aE 0) (QP.v aJ)) (QP.v aO) (bE _)) (jJ (bQ (dL (Room.units hr)) (QP.v (bB dY rfl ab boot_len (aI (aE 0) aP))) (QP.v aJ) (bE _))))))
  (aS (bM (QP.e (bL (aB (QV.p (cS (aE 0) (QP.v aJ))) aF)))))
  bS)
 (aM (cI (QT.e (jW (gZ (bQ (dL (Room.units hr)) (cS (aE 0) (QP.v aJ)) (QP.v aO) (bE _)) (gZ (bQ (dL (Room.units hr)) (QP.v (bB dY rfl ab boot_len (aI (aE 0) aP))) (QP.v aJ) (bE _)) (jJ (fV (QP.v (dZ ay b8 hr rfl rfl (aI (cS (aE 0) (QP.v aJ)) (aI (QP.v aJ) aP)) (bG (bG cU))))))))))
  (aS (bM (QP.e (bL (aB (QV.p (cS (aE 0) (QP.v aJ))) aF)))))
  bS)
 (aM (cI (QT.e (jW (gZ (bQ (dL (Room.units hr)) (cS (aE 0) (QP.v aJ)) (QP.v aO) (bE _)) (gZ (bQ (dL (Room.units hr)) (QP.v (bB dY rfl ab boot_len (aI (aE 0) aP))) (QP.v aJ) (bE _)) (gZ (fV (QP.v (bB gD rfl aa boot_isinstance (aI (cS (aE 0) (QP.v aJ)) (aI (QP.v (gC rfl ac boot_tuple)) aP))))) (jJ (pT (kX (Room.units0 hr)) (kX (Room.units0 hr)) (QP.v aJ) (QP.v (bB dY rfl ab boot_len (aI (cS (aE 0) (QP.v aJ)) aP))) (QP.v aJ))))))))
  (aS (bM (QP.e (eM mL rfl bb boot_list (aI (cS (aE 0) (QP.v aJ)) aP)))))
  bS)
 (aM (cI (QT.e (jW (gZ (bQ (dL (Room.units hr)) (QP.v (bB dY rfl ab boot_len (aI (aE 0) aP))) (QP.v aJ) (bE _)) (gZ (bQ rB (cS (aE 0) (QP.v aJ)) (QP.v (bL (aB aO (aB aO aF)))) (by with_unfolding_all rfl)) (jJ (fV (QP.v (dZ au cu hr rfl rfl (aI (aE 0) aP) (bG cU)))))))))
  (aS (bM (QP.e (bL aF))))
  bS)
 (aS (bM (QP.e gY)))))))))
def oV(d4:(tz6))(ba:(tz6)):tz1:=
 (aR (fIf (aT (cW (fT (aK dA (aA (aD 0) (aA (fC (.ty "tuple")) aC))))))
  (bI (aL (fC .non)))
  bK)
 (aR (aX 1 (aL (fC (.int 0))))
 (aR (aX 2 (aL (fC (.int 0))))
 (aR (dM 3 (cK (aD 0))
  (aR (aX 4 (aL (aK d4 (aA (aD 3) aC))))
 (aR (fIf (aT (fB (f2 dIs (aD 4) (fC .non))))
  (bI (aL (fC .non)))
  bK)
 (aR (aX 2 (aL (f2 bP (f2 bP (aD 2) (fC (.int 1))) (aK bU (aA (aD 4) aC)))))
 (qP 5 4
  (aR (aX 6 (aL (aK ba (aA (aD 5) aC))))
 (aR (fIf (aT (fB (f2 dIs (aD 6) (fC .non))))
  (bI (aL (fC .non)))
  bK)
 (aR (aX 1 (aL (aK gE (aA (aD 1) (aA (f2 bP (f2 dIx (aD 6) (fC (.int 0))) (fC (.int 1))) aC)))))
 (aX 2 (aL (f2 bP (aD 2) (f2 dIx (aD 6) (fC (.int 1))))))))))))))
 (bI (aL (aQ (aA (bY (aD 1)) (aA (bY (aD 2)) aC)))))))))
abbrev jG:Stmt:=top 28
theorem fQ:FnScope ["_law_thing_here","_law_high","_law_many","_law_piece","_law_rows_here","_law_row","_law_seen_here"] ["_law_thing_here"] (aV jG):=⟨rfl,rfl,rfl,by decide+kernel,rfl,by decide+kernel,by decide+kernel⟩
theorem zA{n:Nat}{f:Addr}{fd:FuncData}{d4:(tz6)}{gl:Addr}{gf:FuncData}{ba:(tz6)}(bp:Dn K mg "_law_seen" jG ["_law_thing_here"] f fd)
  (b9:Dn K mg "_law_rows" jF ["_law_piece"] gl gf) (fj:FnOk P w K mg base CX0 n gl gf ["_law_piece"] (SpP 1 K κ d4))
  (db:FnOk P w K mg base CX0 n f fd ["_law_thing_here"] (SpP 1 K κ ba))
  (aa:mg "isinstance"=none)
  (ac:mg "tuple"=none)
  (ab:mg "len"=none)
  (eh:mg "max"=none):
  FnOk P w K mg base CX0 (n+1) f fd ["_law_thing_here"] (SpP 1 K κ (gP 1 6 (oV d4 ba))):=
 dN bp.F fQ fun cdv A outer s H E B hr=>
 (aM (cI (QT.e (jO (fV (QP.v (bB gD rfl aa boot_isinstance (aI (aE 0) (aI (QP.v (gC rfl ac boot_tuple)) aP)))))))
  (aS (bM (QP.e gY)))
  bS)
 (aM (bO 1 fQ.nd rfl (.inl rfl) rfl rfl (QP.e aJ))
 (aM (bO 2 fQ.nd rfl (.inl rfl) rfl rfl (QP.e aJ))
 (aM (pD 3 0 PassesOwn.never rfl fQ.nd rfl (.inl rfl) rfl rfl rfl
  (aM (bO 4 fQ.nd rfl (.inl rfl) rfl rfl (QP.e (dZ b9 fj hr rfl rfl (aI (aE 3) aP) (bG cU))))
 (aM (cI (QT.e (bQ wR (aE 4) (QP.v gY) (bE _)))
  (aS (bM (QP.e gY)))
  bS)
 (aM (bO 2 fQ.nd rfl (.inl rfl) rfl rfl (QP.e (aY dI (QP.v (aY dI (aE 2) (QP.v aJ))) (QP.v (bB dY rfl ab boot_len (aI (aE 4) aP))))))
 (aS (rD 5 4 PassesOwn.never rfl fQ.nd rfl (.inl rfl) rfl rfl (by decide) rfl (fun fp=>
  (aM (bO 6 fQ.nd rfl (.inl rfl) rfl rfl (QP.e (dZ bp db hr rfl rfl (aI (aE 5) aP) (bG cU))))
 (aM (cI (QT.e (bQ wR (aE 6) (QP.v gY) (bE _)))
  (aS (bM (QP.e gY)))
  bS)
 (aM (bO 1 fQ.nd rfl (.inl rfl) rfl rfl (QP.e (bB (tR rfl) rfl eh boot_max (aI (aE 1) (aI (QP.v (aY dI (cS (aE 6) (QP.v aJ)) (QP.v aJ))) aP)))))
 (aS (bO 2 fQ.nd rfl (.inl rfl) rfl rfl (QP.e (aY dI (aE 2) (cS (aE 6) (QP.v aJ))))))))))))))))
 (aS (bM (QP.e (aN (aB (QV.p (aE 1)) (aB (QV.p (aE 2)) aF))))))))))
def zQ(dj:(tz6))(ba:(tz6))(cw:(tz6)):tz1:=
 (aR (dM 1 (eW (aA (aK gF (aA (f2 bP (aK bU (aA (aD 0) aC)) (fC (.int 2))) (aA (fC (.int 12)) aC))) aC))
  (aR (aX 2 (aL (aK dj (aA (aD 0) (aA (aD 1) aC)))))
 (aR (aX 3 (aL (aK ba (aA (aD 2) aC))))
 (aR (aX 4 (aL (dQ (f2 oN (aD 3) (fC .non)) (dQ (f2 dLe (f2 dIx (aD 3) (fC (.int 0))) (fC (.int 12))) (f2 dLe (f2 dIx (aD 3) (fC (.int 1))) (fC (.int 200)))))))
 (aR (aX 5 (aL (aK cw (aA (aD 2) aC))))
 (fIf (aT (eC (cW (fT (aK dA (aA (aD 5) (aA (fC (.ty "bool")) aC))))) (fB (f2 dNe (aD 5) (aD 4)))))
  (bI (aL (fC (.bl false))))
  bK))))))
 (bI (aL (fC (.bl true)))))
abbrev kJ:Stmt:=top 29
theorem mP:FnScope ["_law_script","_law_k","_law_thing_here","_law_seen_here","_law_due","_law_found"] ["_law_script"] (aV kJ):=⟨rfl,rfl,rfl,by decide+kernel,rfl,by decide+kernel,by decide+kernel⟩
theorem zl6{n:Nat}{f:Addr}{fd:FuncData}{dj:(tz6)}{gg:Addr}{fm:FuncData}{ba:(tz6)}{gm:Addr}{gh:FuncData}{cw:(tz6)}{fo:Addr}{eu:FuncData}(gu:Dn K mg "law" kJ ["_law_script"] f fd)
  (br:Dn K mg "_law_thing" iI ["_law_script","_law_k"] gg fm) (ee:FnOk P w K mg base CX0 n gg fm ["_law_script","_law_k"] (SpP 2 K κ dj))
  (bp:Dn K mg "_law_seen" jG ["_law_thing_here"] gm gh) (db:FnOk P w K mg base CX0 n gm gh ["_law_thing_here"] (SpP 1 K κ ba))
  (bm:Dn K mg "is_row" eX ["thing"] fo eu) (d5:FnOk P w K mg base CX0 n fo eu ["thing"] (SpP 1 K κ cw))
  (ar:mg "range"=none)
  (gv:mg "min"=none)
  (ab:mg "len"=none)
  (aa:mg "isinstance"=none)
  (bu:mg "bool"=none):
  FnOk P w K mg base CX0 (n+1) f fd ["_law_script"] (SpP 1 K κ (gP 1 5 (zQ dj ba cw))):=
 dN gu.F mP fun cdv A outer s H E B hr=>
 (aM (lP 1 PassesOwn.never rfl mP.nd rfl (.inl rfl) rfl rfl (kW rfl ar (aI (QP.v (bB (tT rfl) rfl gv boot_min (aI (QP.v (aY dI (QP.v (bB dY rfl ab boot_len (aI (aE 0) aP))) (QP.v aJ))) (aI (QP.v aJ) aP)))) aP))
  (aM (bO 2 mP.nd rfl (.inl rfl) rfl rfl (QP.e (dZ br ee hr rfl rfl (aI (aE 0) (aI (aE 1) aP)) (bG (bG cU)))))
 (aM (bO 3 mP.nd rfl (.inl rfl) rfl rfl (QP.e (dZ bp db hr rfl rfl (aI (aE 2) aP) (bG cU))))
 (aM (bO 4 mP.nd rfl (.inl rfl) rfl rfl (QP.e (eY (eE rA (aE 3) (QP.v gY) (bE _)) (eY (eE kM (cS (aE 3) (QP.v aJ)) (QP.v aJ) (bE _)) (hC (eE kM (cS (aE 3) (QP.v aJ)) (QP.v aJ) (bE _)))))))
 (aM (bO 5 mP.nd rfl (.inl rfl) rfl rfl (QP.e (dZ bm d5 hr rfl rfl (aI (aE 2) aP) (bG cU))))
 (aS (cI (QT.e (jW (lE (jO (fV (QP.v (bB gD rfl aa boot_isinstance (aI (aE 5) (aI (QP.v (gC rfl bu boot_bool)) aP)))))) (kU (bQ (za6 (Room.units hr)) (aE 5) (aE 4) (bE _))))))
  (aS (bM (QP.e iP)))
  bS)))))))
 (aS (bM (QP.e iP))))
end L3
namespace My
open PySem PySem.Spec PyProof.Rows L2 L3
def kK:Leaf->D
 | .word x=> .tup [.str "word",.str x]
 | .gap x=> .tup [.str "gap",.str x]
 | .stop c=> .tup [.str "stop",.int c]
 | .fin=> .tup [.str "end"]
theorem vT{α β:Type}(f:α->β)(hf:∀a b,f a=f b->a=b):∀{l m:List α},l.map f=m.map f->l=m
 |[],[],_=>rfl
 |[],_::_,h=>by simp at h
 |_::_,[],h=>by simp at h
 |a::l,b::m,h=>by
  simp only [List.map_cons,List.cons.injEq] at h
  rw [hf a b h.1,vT f hf h.2]
theorem fR(a b:String):(Str.ofString a=Str.ofString b)=(a=b):=by
 refine propext ⟨fun h=> ?_,fun h=>by rw [h]⟩
 rw [Str.ofString_eq_toList,Str.ofString_eq_toList] at h
 have h1:(a.toList.map Char.toNat).toArray=(b.toList.map Char.toNat).toArray:=(Str.mk.inj h)
 have h2:a.toList.map Char.toNat=b.toList.map Char.toNat:=by simpa using congrArg Array.toList h1
 have h3:a.toList=b.toList:=vT _ (fun x y e=>by
  have:Char.ofNat x.toNat=Char.ofNat y.toNat:=by rw [e]
  simpa using this) h2
 exact String.toList_inj.mp h3
theorem hE{α:Type}(a:α)(l:List α):atI (a::l) 0=some a:=by simp [atI,ixN]
theorem hJ{α:Type}(a b:α)(l:List α):atI (a::b::l) 1=some b:=by
 have h:ixN (a::b::l).length 1=some 1:=by unfold ixN;rw [if_pos (by decide),if_pos (by simp only [List.length_cons];omega)];rfl
 simp only [atI,h];rfl
theorem kG{α:Type}(a b c:α)(l:List α):atI (a::b::c::l) 2=some c:=by
 have h:ixN (a::b::c::l).length 2=some 2:=by unfold ixN;rw [if_pos (by decide),if_pos (by simp only [List.length_cons];omega)];rfl
 simp only [atI,h];rfl
theorem sz{n:Nat}(h:n<=1000):n<=sizeLine:=wL h
theorem sz1{n:Nat}(h:n<=1000):n<sizeLine:=rW h
theorem eP(n:Nat):ixN (n+1) (-1)=some n:=by
 unfold ixN
 rw [if_neg (by decide),if_pos (by omega)]
 congr 1
 omega
theorem eQ{α:Type}(l:List α)(a b:α):(l++[a]).set l.length b=l++[b]:=by
 induction l with
 |nil=>rfl
 |cons x l ih=>show x::(l++[a]).set l.length b=_;rw [ih];rfl
theorem kO(n:Nat):ixN (n+1) 0=some 0:=by unfold ixN;rw [if_pos (by decide),if_pos (by omega)];rfl
theorem cV(i j:Int):bZ (.int i) (.int j)=if 0<j then some (.int (i % j)) else none:=by simp [bZ,dII]
theorem dE(i j:Int):dG (.int i) (.int j)=if 0<j/\j<1073741824 then some (.int (i/j)) else none:=by simp [dG,dII]
theorem sL(x y:Str):(x++y).cps.toList=x.cps.toList++y.cps.toList:=by
 show(x.cps++y.cps).toList=_
 simp
theorem sM(x y:Str):(x++y).length=x.length+y.length:=by
 show(x.cps++y.cps).size=x.cps.size+y.cps.size
 simp
def sg:Str:=("abcdefghijklmnopqrstuvwxyzABCDEFGHIJKLMNOPQRSTUVWXYZ0123456789":Str)++("!\"#$&'()*+,-./:;<=>?\x40[\\]^_`{|}~":Str)
theorem zB:sg.cps.toList.length=93:=by decide+kernel
theorem zg7:sg.cps.toList.all gO=true:=by decide+kernel
theorem zg8:sg.length<=sizeLine:=by
 have e:sg.length=sg.cps.toList.length:=by simp [Str.length]
 rw [e,zB];exact sz (by decide)
theorem kA{α:Type}(xs:List α)(i:Int)(h0:0<=i)(h1:i<xs.length):∃v∈xs,atI xs i=some v:=by
 have hn:i.toNat<xs.length:=by omega
 obtain⟨v,hv⟩:∃v,xs[i.toNat]? =some v:=⟨_,List.getElem?_eq_getElem hn⟩
 refine⟨v,List.mem_of_getElem? hv,?_⟩
 have e:i=((i.toNat:Nat):Int):=by omega
 rw [e]
 exact vP hv
theorem zp4(i:Int)(h0:0<=i)(h1:i<93):∃c,atI sg.cps.toList i=some c/\gO c=true:=by
 obtain⟨c,hc,e⟩:=kA sg.cps.toList i h0 (by rw [zB];omega)
 exact⟨c,e,List.all_eq_true.mp zg7 c hc⟩
theorem zC(n:Nat):gM 0 n=((List.range n).map fun(k:Nat)=>(k:Int)).map .int:=by
 unfold gM
 rw [List.map_map]
 refine List.map_congr_left fun k _=> ?_
 show D.int (0+(k:Int))=D.int (k:Int)
 rw [Int.zero_add]
theorem zg9(m:Int):∃s:Int,atI [D.int 1,.int 2,.int 3,.int 4,.int 5,.int 6,.int 7,.int 8,.int 10,.int 11,.int 9,.int 12] (m % 12)=some (.int s)/\1<=s/\s<=12:=by
 have h0:=Int.emod_nonneg m (show(12:Int)≠0 by decide)
 have h1:=Int.emod_lt_of_pos m (show(0:Int)<12 by decide)
 obtain⟨d,hd,e⟩:=kA [D.int 1,.int 2,.int 3,.int 4,.int 5,.int 6,.int 7,.int 8,.int 10,.int 11,.int 9,.int 12] (m % 12) h0 (by simpa using h1)
 simp only [List.mem_cons,List.not_mem_nil,or_false] at hd
 rcases hd with rfl|rfl|rfl|rfl|rfl|rfl|rfl|rfl|rfl|rfl|rfl|rfl<;>exact⟨_,e,by decide,by decide⟩
theorem zl7(k:Int):∃x:Str,atI [D.str (Str.ofString " "),.str (Str.ofString " "),.str (Str.ofString " "),.str (Str.ofString "")] (k % 4)=some (.str x)/\(x=""\/x=" "):=by
 have h0:=Int.emod_nonneg k (show(4:Int)≠0 by decide)
 have h1:=Int.emod_lt_of_pos k (show(0:Int)<4 by decide)
 obtain⟨d,hd,e⟩:=kA [D.str (Str.ofString " "),.str (Str.ofString " "),.str (Str.ofString " "),.str (Str.ofString "")] (k % 4) h0 (by simpa using h1)
 simp only [List.mem_cons,List.not_mem_nil,or_false] at hd
 rcases hd with rfl|rfl|rfl|rfl
 ·exact⟨_,e,.inr rfl⟩
 ·exact⟨_,e,.inr rfl⟩
 ·exact⟨_,e,.inr rfl⟩
 ·exact⟨_,e,.inl rfl⟩
theorem zh0(a b k:Int)(ha:0<=a/\a<=40)(hb:0<=b/\b<=40):∃c:Int,atI [D.int a,.int b] (k % 2)=some (.int c)/\0<=c/\c<=40:=by
 have h0:=Int.emod_nonneg k (show(2:Int)≠0 by decide)
 have h1:=Int.emod_lt_of_pos k (show(0:Int)<2 by decide)
 obtain⟨d,hd,e⟩:=kA [D.int a,.int b] (k % 2) h0 (by simpa using h1)
 simp only [List.mem_cons,List.not_mem_nil,or_false] at hd
 rcases hd with rfl|rfl
 ·exact⟨_,e,ha⟩
 ·exact⟨_,e,hb⟩
theorem zh1{i j:Int}(h1: -1000000<=i)(h2:i<=1000000)(h3: -1000000<=j)(h4:j<=1000000):gW [.int i,.int j]=some (gM i (j-i).toNat):=by
 rw [gW]
 exact if_pos ⟨by omega,by omega,by omega,by omega⟩
theorem zh2{j:Int}(h3: -1000000<=j)(h4:j<=1000000):gN [.int j]=some (gM 0 j.toNat):=by
 rw [gN]
 exact if_pos ⟨by omega,by omega⟩
theorem aH{f g:tz1}{p p':PSt}(h:f p=some (.nx,p')):aR f g p=g p':=by unfold aR;rw [h];rfl
theorem bN{f g:tz1}{p p':PSt}{d:D}(h:f p=some (.ret d,p')):aR f g p=some (.ret d,p'):=by unfold aR;rw [h];rfl
theorem zp5{c:PSt->Option (Bool×PSt)}{f g:tz1}{p p':PSt}(h:c p=some (true,p')):fIf c f g p=f p':=by unfold fIf;rw [h];rfl
theorem nG{c:PSt->Option (Bool×PSt)}{f g:tz1}{p p':PSt}(h:c p=some (false,p')):fIf c f g p=g p':=by unfold fIf;rw [h];rfl
theorem dO{i:Nat}{f:tz2}{p:PSt}{d:D}(h:f p=some d):aX i (aL f) p=some (.nx,p.set i (some d)):=by unfold aX aL;rw [h];rfl
theorem bX{f:tz2}{p:PSt}{d:D}(h:f p=some d):bI (aL f) p=some (.ret d,p):=by unfold bI aL;rw [h];rfl
theorem fN{np n:Nat}{f:tz1}{ds:List D}{d:D}{p:PSt}(hl:ds.length=np)(h:f (ds.map some++List.replicate n none)=some (.ret d,p)):gP np n f ds=some d:=by
 unfold gP;rw [if_pos hl,h];rfl
theorem aW{g:D->D->Option D}{fa fb:tz2}{p:PSt}{x y d:D}(h1:fa p=some x)(h2:fb p=some y)(h3:g x y=some d):f2 g fa fb p=some d:=by unfold f2;rw [h1,h2];exact h3
theorem aZ{h:tz6}{g:tz3}{p:PSt}{ds:List D}{d:D}(h1:g p=some ds)(h2:h ds=some d):aK h g p=some d:=by unfold aK;rw [h1];exact h2
theorem uI{o:Bool}{ys:List D}{n:Nat}(h:D.imms ys=true)(hn:n<=1000)(hl:ys.length*n<=10000):eG (.lst o ys) (.int (n:Int))=some (.lst true (List.replicate n ys).flatten):=by
 have e:((n:Int)).toNat=n:=by omega
 rw [eG]
 rw [if_pos,e]
 have hs:sizeLine=16777216:=sizeLine_eq
 simp only [Bool.and_eq_true,decide_eq_true_eq]
 rw [e]
 exact⟨⟨⟨h,by omega⟩,by omega⟩,by omega⟩
theorem zD{o o':Bool}{ys zs:List D}(h1:D.imms ys=true)(h2:D.imms zs=true)(h:ys.length+zs.length<=1000):bP (.lst o ys) (.lst o' zs)=some (.lst true (ys++zs)):=by
 rw [bP]
 exact if_pos (by rw [h1,h2];simpa using sz h)
theorem aG{f:tz2}{g:tz3}{p:PSt}{d:D}{ds:List D}(h1:f p=some d)(h2:g p=some ds):aA f g p=some (d::ds):=by unfold aA;rw [h1,h2];rfl
theorem hU{g:tz3}{p:PSt}{ds:List D}(h:g p=some ds)(hl:ds.length<=1000):bA g p=some (.lst true ds):=by unfold bA;rw [h];exact if_pos hl
theorem vU(a:Int)(b c:Nat)(hc:0<c):∃n:Nat,(b:Int)+a % (c:Int)=(n:Int)/\n<b+c:=by
 have h1:=Int.emod_nonneg a (show(c:Int)≠0 by omega)
 have h2:=Int.emod_lt_of_pos a (show(0:Int)<c by omega)
 exact⟨(b+a % c).toNat,by omega,by omega⟩
theorem qK(k:Nat)(n:Nat):gM (k:Int) (n+1)= .int k::gM ((k+1:Nat):Int) n:=by
 unfold gM
 rw [List.range_succ_eq_map,List.map_cons,List.map_map]
 congr 1
 ·simp
  intro j _
  omega
theorem zl8{n:Nat}(h:n<=1000):gN [.int (n:Int)]=some (gM ((0:Nat):Int) n):=zh2 (j:=(n:Int)) (by omega) (by omega)
theorem hV{g:tz3}{p:PSt}{ds:List D}(h:g p=some ds)(hi:D.imms ds=true)(hl:ds.length<=1000):aQ g p=some (.tup ds):=by
 unfold aQ
 rw [h]
 exact if_pos (by rw [hi];simpa using hl)
theorem rF{i:Nat}{p:PSt}{d:D}(h:p[i]? =some (some d)):aD i p=some d:=by unfold aD;rw [h];rfl
theorem iD{f:tz4}{p:PSt}{b:Bool}(h:f p=some b):aT f p=some (b,p):=by unfold aT;rw [h];rfl
theorem dS{f:tz2}{p:PSt}{b:Bool}(h:f p=some (.bl b)):fB f p=some b:=by unfold fB;rw [h];rfl
theorem fO{f:tz2}{p:PSt}{b:Bool}(h:f p=some (.bl b)):fT f p=some b:=by unfold fT;rw [h];rfl
theorem hW{f g:tz4}{p:PSt}(h:f p=some false):cA f g p=some false:=by unfold cA;rw [h];rfl
theorem oG{f g:tz4}{p:PSt}{b:Bool}(h:f p=some true)(h2:g p=some b):cA f g p=some b:=by unfold cA;rw [h];exact h2
theorem pE{f g:tz4}{p:PSt}(h:f p=some true):eC f g p=some true:=by unfold eC;rw [h];rfl
theorem iR{f g:tz4}{p:PSt}{b:Bool}(h:f p=some false)(h2:g p=some b):eC f g p=some b:=by unfold eC;rw [h];exact h2
theorem fG{f:tz4}{p:PSt}{b:Bool}(h:f p=some b):cW f p=some (!b):=by unfold cW;rw [h];rfl
theorem aU{c:tz4}{F:tz1}{p:PSt}(h:c p=some false):fIf (aT c) F bK p=some (.nx,p):=(nG (iD h)).trans rfl
theorem bJ{c:tz4}{F G:tz1}{p:PSt}(h:c p=some true):fIf (aT c) F G p=F p:=zp5 (iD h)
theorem nH{f:tz8}{p p':PSt}{d:D}(h:f p=some (d,p')):cP f p=some (.nx,p'):=by unfold cP;rw [h];rfl
theorem fS{f:tz2}{p:PSt}{d:D}(h:f p=some d)(hi:d.imm=true):bY f p=some d:=by unfold bY;rw [h];exact if_pos hi
theorem zp6(t:Str):dA [.str t,.ty "str"]=some (.bl true):=by
 unfold dA
 show(if "str"∈["bool","int","str","list","tuple","dict"] then some (D.bl (lH "str" "str")) else none)=_
 rw [if_pos (by simp)]
 rfl
mutual
def okd:D->Bool
 | .non=>true
 | .bl _=>true
 | .int _=>true
 | .str x=>x.cps.toList.all (fun c=>decide (32<=c)&&decide (c<=126))&&decide (x.length<=100)
 | .tup xs=>bF xs&&decide (xs.length<=1000)
 | .lst o xs=> !o&&bF xs&&decide (xs.length<=1000)
 |_=>false
def bF:List D->Bool
 |[]=>true
 |d::ds=>okd d&&bF ds
end
mutual
def dpt:D->Nat
 | .tup xs=>bD xs+1
 | .lst _ xs=>bD xs+1
 |_=>0
def bD:List D->Nat
 |[]=>0
 |d::ds=>max (dpt d) (bD ds)
end
theorem fL:∀{ds:List D} {d:D},bF ds=true->d∈ds->okd d=true
 |d::ds,x,h,hm=>by
  rw [bF,Bool.and_eq_true] at h
  rcases List.mem_cons.mp hm with rfl|hm
  ·exact h.1
  ·exact fL h.2 hm
theorem gI:∀{ds:List D},(∀d∈ds,okd d=true)->bF ds=true
 |[],_=>by rw [bF]
 |d::ds,h=>by rw [bF,h d List.mem_cons_self,gI fun x hx=>h x (List.mem_cons_of_mem _ hx)];rfl
theorem gT:∀{ds:List D} {d:D},d∈ds->dpt d<=bD ds
 |d::ds,x,hm=>by
  rw [bD]
  rcases List.mem_cons.mp hm with rfl|hm
  ·exact Nat.le_max_left _ _
  ·exact Nat.le_trans (gT hm) (Nat.le_max_right _ _)
theorem kB:∀{ds:List D} {n:Nat},(∀d∈ds,dpt d<=n)->bD ds<=n
 |[],n,_=>by rw [bD];exact Nat.zero_le _
 |d::ds,n,h=>by rw [bD];exact Nat.max_le.mpr ⟨h d List.mem_cons_self,kB fun x hx=>h x (List.mem_cons_of_mem _ hx)⟩
mutual
theorem dU:∀d:D,okd d=true->d.imm=true
 | .non,_=>rfl
 | .bl _,_=>rfl
 | .int _,_=>rfl
 | .str _,_=>rfl
 | .tup xs,h=>by rw [okd,Bool.and_eq_true] at h;rw [D.imm];exact dF xs h.1
 | .lst o xs,h=>by rw [okd,Bool.and_eq_true,Bool.and_eq_true] at h;rw [D.imm,h.1.1,dF xs h.1.2];rfl
 | .ty _,h=>absurd h (by simp [okd])
 | .con _,h=>absurd h (by simp [okd])
 | .dic _ _ _,h=>absurd h (by simp [okd])
 | .obj _ _ _ _,h=>absurd h (by simp [okd])
theorem dF:∀ds:List D,bF ds=true->D.imms ds=true
 |[],_=>rfl
 |d::ds,h=>by rw [bF,Bool.and_eq_true] at h;rw [D.imms,dU d h.1,dF ds h.2];rfl
end
mutual
theorem pU:∀d:D,okd d=true->∃a,d.data=some a/\a.canLay0=true/\a.depth<=dpt d
 | .non,_=>⟨_,rfl,rfl,Nat.le_refl _⟩
 | .bl _,_=>⟨_,rfl,rfl,Nat.le_refl _⟩
 | .int _,_=>⟨_,rfl,rfl,Nat.le_refl _⟩
 | .str x,h=>by
  refine⟨.str x,rfl,?_,Nat.le_refl _⟩
  rw [okd,Bool.and_eq_true] at h
  show x.cps.all (·<0x110000)=true
  rw [Array.all_eq_true]
  intro i hi
  have:=List.all_eq_true.mp h.1 x.cps[i] (by simp)
  simp at this
  simp;omega
 | .tup xs,h=>by
  rw [okd,Bool.and_eq_true] at h
  obtain⟨as,e,h1,h2⟩:=oH xs h.1
  refine⟨.tuple as,by rw [D.data,e];rfl,by rw [PyData.canLay0];exact h1,?_⟩
  rw [PyData.depth,dpt];omega
 | .lst o xs,h=>by
  rw [okd,Bool.and_eq_true,Bool.and_eq_true] at h
  obtain⟨as,e,h1,h2⟩:=oH xs h.1.2
  refine⟨.list as,by rw [D.data,e];rfl,by rw [PyData.canLay0];exact h1,?_⟩
  rw [PyData.depth,dpt];omega
 | .ty _,h=>absurd h (by simp [okd])
 | .con _,h=>absurd h (by simp [okd])
 | .dic _ _ _,h=>absurd h (by simp [okd])
 | .obj _ _ _ _,h=>absurd h (by simp [okd])
theorem oH:∀ds:List D,bF ds=true->∃as,D.datas ds=some as/\PyData.canLayAll0 as=true/\PyData.depthAll as<=bD ds
 |[],_=>⟨[],rfl,rfl,Nat.le_refl _⟩
 |d::ds,h=>by
  rw [bF,Bool.and_eq_true] at h
  obtain⟨a,e1,h1,h2⟩:=pU d h.1
  obtain⟨as,e2,h3,h4⟩:=oH ds h.2
  refine⟨a::as,by rw [D.datas,e1,Option.bind_some,e2];rfl,by rw [PyData.canLayAll0,h1,h3];rfl,?_⟩
  rw [PyData.depthAll,bD];omega
end
def isS(k:D)(z:String):Bool:=match k with
 | .str x=>decide (x=(z:Str))
 |_=>false
theorem zh3(a:PyData)(z:Str)(h:∀x,a≠ .str x):PyData.eqv a (.str z)=false:=by
 cases a with
 |str x=>exact absurd rfl (h x)
 |_=>rfl
theorem zb3(z:String)(h:(z:Str).cps.toList.all (fun c=>decide (32<=c)&&decide (c<=126))=true):PyData.strOk (z:Str)=true:=by
 show(z:Str).cps.all (·<0x110000)=true
 rw [Array.all_eq_true]
 intro i hi
 have:=List.all_eq_true.mp h (z:Str).cps[i] (by simp)
 simp at this
 simp;omega
theorem zb4{k:D}{z:String}(h:okd k=true)(hd:dpt k<=60)(hz:(z:Str).cps.toList.all (fun c=>decide (32<=c)&&decide (c<=126))=true):dEq k (.str z)=some (.bl (isS k z)):=by
 cases k with
 |str x=>rfl
 | _ =>
  obtain⟨a,e1,h1,h2⟩:=pU _ h
  show(lS _ _).map D.bl=_
  unfold lS
  rw [e1,Option.bind_some,show(D.str (z:Str)).data=some (.str z) from rfl,Option.bind_some,if_pos]
  ·rw [zh3]
   ·rfl
   ·intro x ex
    subst ex
    first
     |(cases e1)
     |(obtain⟨_,_,e⟩:=Option.map_eq_some_iff.mp e1;cases e)
  ·rw [h1,show(PyData.str (z:Str)).canLay0=PyData.strOk (z:Str) from rfl,zb3 z hz,decide_eq_true (by omega)];rfl
def hZ:D->Bool
 | .tup _=>true
 |_=>false
def oW:D->Bool
 | .str _=>true
 |_=>false
def num(x:D)(m:Int):Bool:=match x with
 | .int i=>decide (0<=i)&&decide (i<=m)
 |_=>false
def pJ:D->Bool
 | .str x=>decide (1<=x.length)&&decide (x.length<=12)&&x.cps.toList.all gO
 |_=>false
def xG:D->Bool
 | .str x=>decide (x="")||decide (x=" ")
 |_=>false
theorem iX{d:D}(h:okd d=true):dA [d,.ty "tuple"]=some (.bl (hZ d))/\dA [d,.ty "str"]=some (.bl (oW d)):=by
 cases d with
 |ty _=>exact absurd h (by simp [okd])
 |con _=>exact absurd h (by simp [okd])
 |dic _ _ _=>exact absurd h (by simp [okd])
 |obj _ _ _ _=>exact absurd h (by simp [okd])
 |_=>constructor<;>simp [dA,dTy,lH,hZ,oW]
theorem vV{d:D}(h:okd d=true):(∃i,d= .int i)\/(∃b,d= .bl b)\/(dA [d,.ty "int"]=some (.bl false)/\∀m,num d m=false):=by
 cases d with
 |int i=>exact .inl ⟨i,rfl⟩
 |bl b=>exact .inr (.inl ⟨b,rfl⟩)
 |ty _=>exact absurd h (by simp [okd])
 |con _=>exact absurd h (by simp [okd])
 |dic _ _ _=>exact absurd h (by simp [okd])
 |obj _ _ _ _=>exact absurd h (by simp [okd])
 |_=>refine .inr (.inr ⟨?_,fun _=>rfl⟩);simp [dA,dTy,lH]
abbrev pX:tz6:=gP 2 0 iG
abbrev rL(i:Nat)(c:String):tz2:=aK dA (aA (aD i) (aA (fC (.ty c)) aC))
theorem dH{i:Nat}{c:String}{p:PSt}{d r:D}(h:p[i]? =some (some d))(e:dA [d,.ty c]=some r):rL i c p=some r:=aZ (aG (rF h) (aG rfl rfl)) e
theorem pF(i:Int):dA [.int i,.ty "int"]=some (.bl true)/\dA [.int i,.ty "bool"]=some (.bl false):=by
 constructor<;>simp [dA,dTy,lH]
theorem oI(b:Bool):dA [.bl b,.ty "int"]=some (.bl true)/\dA [.bl b,.ty "bool"]=some (.bl true):=by
 constructor<;>simp [dA,dTy,lH]
theorem zE{d:D}{m:Int}(h:okd d=true):pX [d,.int m]=some (.bl (num d m)):=by
 have fin:∀b r,iG [some d,some (.int m)]=some (.ret r,b)->pX [d,.int m]=some r:=fun b r q=>fN rfl q
 rcases vV h with ⟨i,rfl⟩|⟨b,rfl⟩|⟨e,hn⟩
 ·refine fin [some (.int i),some (.int m)] _ ((aH (aU (iR (fG (fO (dH rfl (pF i).1))) (fO (dH rfl (pF i).2))))).trans (bX ?_))
  unfold dQ
  rw [aW (g:=dLe) (d:= .bl (decide (0<=i))) rfl rfl rfl,Option.bind_some]
  cases e:decide (0<=i) with
  |true=>show some (D.bl (decide (i<=m)))=some (D.bl (decide (0<=i)&&decide (i<=m)));rw [e];rfl
  |false=>show some (D.bl false)=some (D.bl (decide (0<=i)&&decide (i<=m)));rw [e];rfl
 ·exact fin [some (.bl b),some (.int m)] _ (bN ((bJ (iR (fG (fO (dH rfl (oI b).1))) (fO (dH rfl (oI b).2)))).trans rfl))
 ·rw [hn m]
  exact fin [some d,some (.int m)] _ (bN ((bJ (pE (fG (fO (dH rfl e))))).trans rfl))
abbrev gUp:tz6:=gP 2 0 oS
theorem zd5{d:D}{m:Int}(h:okd d=true):gUp [d,.int m]=some (.bl (num d m)):=by
 have fin:∀b r,oS [some d,some (.int m)]=some (.ret r,b)->gUp [d,.int m]=some r:=fun b r q=>fN rfl q
 have tr:∀{f g:tz2} {p:PSt},f p=some (.bl true)->dQ f g p=g p:=fun e=>by unfold dQ;rw [e];rfl
 have fa:∀{f g:tz2} {p:PSt},f p=some (.bl false)->dQ f g p=some (.bl false):=fun e=>by unfold dQ;rw [e];rfl
 have nt:∀{f:tz2} {p:PSt} {b:Bool},f p=some (.bl b)->rK f p=some (.bl (!b)):=fun {f p b} e=>by unfold rK;rw [e];cases b<;>rfl
 rcases vV h with ⟨i,rfl⟩|⟨b,rfl⟩|⟨e,hn⟩
 ·refine fin [some (.int i),some (.int m)] _ (bX ((tr (dH rfl (pF i).1)).trans ((tr (nt (dH rfl (pF i).2))).trans ?_)))
  unfold f3
  rw [show fC (.int 0) [some (.int i),some (.int m)]=some (.int 0) from rfl,Option.bind_some,show aD 0 [some (.int i),some (.int m)]=some (.int i) from rfl,Option.bind_some,show dLe (.int 0) (.int i)=some (.bl (decide (0<=i))) from rfl,Option.bind_some,show num (.int i) m=(decide (0<=i)&&decide (i<=m)) from rfl]
  cases e:decide (0<=i) with
  |true=>rfl
  |false=>rfl
 ·exact fin [some (.bl b),some (.int m)] _ (bX ((tr (dH rfl (oI b).1)).trans (fa (nt (dH rfl (oI b).2)))))
 ·rw [hn m]
  exact fin [some d,some (.int m)] _ (bX (fa (dH rfl e)))
theorem zF(a b:Nat):sLt ⟨#[a]⟩ ⟨#[b]⟩=decide (a<b):=by
 unfold sLt
 by_cases h:a<b
 ·rw [decide_eq_true h,decide_eq_true]
  exact List.Lex.rel h
 ·rw [decide_eq_false h,decide_eq_false]
  intro z
  cases z with
  |rel z=>exact h z
  |cons z=>cases z
theorem zs2:("!":Str)=⟨#[33]⟩:=by decide+kernel
theorem zp7:("~":Str)=⟨#[126]⟩:=by decide+kernel
theorem zl9:(" ":Str)=⟨#[32]⟩:=by decide+kernel
def prt(c:Nat):Bool:=decide (32<=c)&&decide (c<=126)
abbrev vB:tz2:=dQ (f2 dLe (fC (.str "!")) (aD 0)) (f2 dLe (aD 0) (fC (.str "~")))
theorem uJ:∀l:List Nat,l.all prt=true->gH [none] fW vB (l.map fun c=>D.str ⟨#[c]⟩)=some (l.map fun c=>D.bl (gO c))
 |[],_=>rfl
 | c::l,h=>by
  rw [List.all_cons,Bool.and_eq_true] at h
  have ih:=uJ l h.2
  have hc:=h.1
  simp only [prt,Bool.and_eq_true,decide_eq_true_eq] at hc
  have e1:f2 dLe (fC (.str "!")) (aD 0) [some (.str ⟨#[c]⟩)]=some (.bl (!decide (c<33))):=aW (x:= .str "!") (y:= .str ⟨#[c]⟩) rfl rfl (by rw [dLe,zs2,zF])
  have e2:f2 dLe (aD 0) (fC (.str "~")) [some (.str ⟨#[c]⟩)]=some (.bl true):=aW (x:= .str ⟨#[c]⟩) (y:= .str "~") rfl rfl (by rw [dLe,zp7,zF,decide_eq_false (by omega)];rfl)
  have e3:vB [some (.str ⟨#[c]⟩)]=some (.bl (gO c)):=by
   unfold vB dQ gO
   rw [e1,Option.bind_some]
   by_cases h33:c<33
   ·rw [decide_eq_true h33,decide_eq_false (show ¬33<=c by omega)];rfl
   ·rw [decide_eq_false h33,decide_eq_true (show 33<=c by omega),decide_eq_true hc.2];exact e2
  rw [List.map_cons,gH]
  show(fW [some (.str ⟨#[c]⟩)]).bind _=_
  show((vB [some (.str ⟨#[c]⟩)]).bind _)=_
  rw [e3,ih];rfl
theorem sE(f:Nat->Bool):∀l:List Nat,D.bools (l.map fun c=>D.bl (f c))=some (l.map f)
 |[]=>rfl
 |c::l=>by
  show D.bools (.bl (f c)::l.map fun c=>D.bl (f c))=_
  rw [D.bools,sE f l];rfl
theorem zG{x:Str}(h:okd (.str x)=true):x.cps.toList.all prt=true/\x.length<=100:=by
 rw [okd,Bool.and_eq_true,decide_eq_true_eq] at h
 exact h
abbrev xH:tz6:=gP 1 0 lT
theorem zm0{d:D}(h:okd d=true):xH [d]=some (.bl (pJ d)):=by
 have fin:∀b r,lT [some d]=some (.ret r,b)->xH [d]=some r:=fun b r q=>fN rfl q
 cases hs:oW d with
 |false=>
  have e:=(iX h).2
  rw [hs] at e
  have hw:pJ d=false:=by cases d<;>first|rfl|cases hs
  rw [hw]
  exact fin [some d] _ (bN ((bJ (fG (fO (dH rfl e)))).trans rfl))
 | true=>
  cases d with
  | str x=>
   obtain⟨h1,h2⟩:=zG h
   have hz:x.length<=sizeLine:=sz (by omega)
   have s1:fIf (aT (cW (fT (rL 0 "str")))) (bI (aL (fC (.bl false)))) bK [some (.str x)]=some (.nx,[some (.str x)]):=aU (fG (b:=true) (fO (dH rfl (zp6 x))))
   have ln:aK bU (aA (aD 0) aC) [some (.str x)]=some (.int (x.length:Int)):=aZ (aG rfl rfl) (if_pos hz)
   have t1:fB (f2 dLt (aK bU (aA (aD 0) aC)) (fC (.int 1))) [some (.str x)]=some (decide ((x.length:Int)<1)):=dS (aW ln rfl rfl)
   have t2:fB (f2 dGt (aK bU (aA (aD 0) aC)) (fC (.int 12))) [some (.str x)]=some (decide ((12:Int)<(x.length:Int))):=dS (aW ln rfl rfl)
   by_cases c:1<=x.length/\x.length<=12
   ·rw [decide_eq_false (by omega)] at t1 t2
    have s3:iF [none] (mU (aD 0)) fW vB [some (.str x)]=some (.lst true (x.cps.toList.map fun c=>D.bl (gO c))):=by
     have e1:mU (aD 0) [some (.str x)]=some (x.cps.toList.map fun c=>D.str ⟨#[c]⟩):=by
      unfold mU
      show uX (.str x)=_
      unfold uX
      refine(if_pos ?_).trans rfl
      rw [Array.all_eq_true]
      intro i hi
      have:=List.all_eq_true.mp h1 x.cps[i] (by simp)
      simp [prt] at this
      simp;omega
     unfold iF
     rw [e1,Option.bind_some,if_pos (by rw [List.length_map];exact hz)]
     show(gH [none] fW _ _).bind _=_
     rw [uJ _ h1];rfl
    refine fin [some (.str x)] _ ((aH s1).trans ((aH (aU (iR t1 t2))).trans (bX (aZ (aG s3 rfl) ?_))))
    rw [mD,sE]
    show some (D.bl ((x.cps.toList.map gO).all id))=some (D.bl (decide (1<=x.length)&&decide (x.length<=12)&&x.cps.toList.all gO))
    rw [decide_eq_true c.1,decide_eq_true c.2,List.all_map];rfl
   ·have hw:pJ (.str x)=false:=by
     show(decide (1<=x.length)&&decide (x.length<=12)&&_)=false
     by_cases c1:1<=x.length
     ·rw [decide_eq_false (show ¬x.length<=12 from fun c2=>c ⟨c1,c2⟩),Bool.and_false,Bool.false_and]
     ·rw [decide_eq_false c1];rfl
    rw [hw]
    refine fin [some (.str x)] _ ((aH s1).trans (bN ((bJ ?_).trans rfl)))
    by_cases c1:(x.length:Int)<1
    ·rw [decide_eq_true c1] at t1;exact pE t1
    ·rw [decide_eq_false c1] at t1
     rw [decide_eq_true (by omega)] at t2
     exact iR t1 t2
  |_=>cases hs
theorem zd6{t:Str}{i:Nat}:StrLaws.At t ⟨#[32]⟩ t.length i↔t.cps.toList[i]? =some 32:=by
 unfold StrLaws.At Builtin.Str.subAt
 show i+1<=t.length/\(t.cps.extract i (i+1)== #[32])=true↔_
 rw [beq_iff_eq,<-Array.toList_inj]
 have hl:t.length=t.cps.toList.length:=by simp [Str.length]
 have e:(t.cps.extract i (i+1)).toList=(t.cps.toList.drop i).take 1:=by simp [Array.toList_extract,List.extract]
 rw [e,hl]
 constructor
 ·intro ⟨h1,h2⟩
  rw [List.getElem?_eq_getElem (by omega)]
  rw [List.drop_eq_getElem_cons (by omega)] at h2
  simpa using h2
 ·intro h
  obtain⟨hi,h2⟩:=List.getElem?_eq_some_iff.mp h
  refine⟨by omega,?_⟩
  rw [List.drop_eq_getElem_cons hi,h2]
  rfl
theorem zh4{x:Str}(h:x.cps.toList.all prt=true):decide (Txt.find x " "<0)=x.cps.toList.all gO:=by
 rw [zl9]
 rcases find_whole x ⟨#[32]⟩ with ⟨e,n⟩|⟨i,e,h1,_⟩
 ·rw [e,decide_eq_true (by decide)]
  symm
  rw [List.all_eq_true]
  intro c hc
  have:=List.all_eq_true.mp h c hc
  simp only [prt,Bool.and_eq_true,decide_eq_true_eq] at this
  have n32:c≠32:=fun z=>by
   subst z
   obtain⟨i,hi⟩:=List.getElem?_of_mem hc
   exact n i (zd6.mpr hi)
  simp only [gO,Bool.and_eq_true,decide_eq_true_eq]
  omega
 ·rw [e,decide_eq_false (by omega)]
  symm
  rw [Bool.eq_false_iff]
  intro z
  have:=List.all_eq_true.mp z 32 (List.mem_of_getElem? (zd6.mp h1))
  simp [gO] at this
theorem zH{d:D}(h:okd d=true):uZ d (.tup [.str "",.str " "])=some (.bl (xG d)):=by
 cases d with
 |str x=>
  show(some (D.bl (inV (.str x) [.str "",.str " "])))=some (D.bl (decide (x="")||decide (x=" ")))
  congr 2
  show(((("":Str)==x)||(((" ":Str)==x)||false)):Bool)=_
  rw [Bool.or_false]
  congr 1
  ·exact Bool.eq_iff_iff.mpr (by rw [beq_iff_eq,decide_eq_true_eq];exact eq_comm)
  ·exact Bool.eq_iff_iff.mpr (by rw [beq_iff_eq,decide_eq_true_eq];exact eq_comm)
 |ty _=>exact absurd h (by simp [okd])
 |con _=>exact absurd h (by simp [okd])
 |dic _ _ _=>exact absurd h (by simp [okd])
 |obj _ _ _ _=>exact absurd h (by simp [okd])
 |_=>rfl
def oX:D->Bool
 | .tup rs=>decide (2<=rs.length)&&decide (rs.length<=4)
 |_=>false
def zo5:D->List D
 | .tup rs=>rs
 |_=>[]
def eK(k x:D):Bool:=if isS k "word"=true then pJ x else if isS k "gap"=true then xG x else if isS k "stop"=true then num x 40 else if isS k "group"=true then hZ x else if isS k "either"=true then oX x else false
def iU(k x:D):List D:=if isS k "group"=true then [x] else if isS k "either"=true then zo5 x else []
def gR(k:D)(ys:List D):Option (List D):=if isS k "end"=true then(match ys with|[]=>some []|_=>none)
 else if isS k "hang"=true then(match ys with|[n,r]=>if num n 12=true then some [r] else none|_=>none)
 else(match ys with|[x]=>if eK k x=true then some (iU k x) else none|_=>none)
def dD:D->Option (List D)
 | .tup (k::ys)=>gR k ys
 |_=>none
theorem rG{k:D}{z:String}(h:isS k z=true):k= .str z:=by
 cases k with
 |str x=>exact congrArg D.str (of_decide_eq_true h)
 |_=>cases h
theorem cZ{k:D}{a b:String}(h:isS k a=true)(hab:decide (a=b)=false):isS k b=false:=by
 rw [rG h]
 show decide ((a:Str)=(b:Str))=false
 rw [decide_eq_false]
 rw [fR]
 exact of_decide_eq_false hab
theorem eqk{k:D}{z:String}{p:PSt}{i:Nat}(hp:p[i]? =some (some k))(h:okd k=true)(hd:dpt k<=60)(hz:(z:Str).cps.toList.all (fun c=>decide (32<=c)&&decide (c<=126))=true):fB (f2 dEq (aD i) (fC (.str z))) p=some (isS k z):=dS (aW (rF hp) rfl (zb4 h hd hz))
theorem iY{f g:tz2}{p:PSt}(h:f p=some (.bl true)):dQ f g p=g p:=by unfold dQ;rw [h];rfl
theorem iZ{f g:tz2}{p:PSt}(h:f p=some (.bl false)):dQ f g p=some (.bl false):=by unfold dQ;rw [h];rfl
abbrev fZ(f:tz2):tz2:=aK bU (aA f aC)
theorem mQ{f:tz2}{p:PSt}{ds:List D}(h:f p=some (.tup ds)):fZ f p=some (.int (ds.length:Int)):=aZ (aG h rfl) rfl
abbrev qS:tz6:=gP 2 0 (kI xH pX)
theorem zh5 {k x:D} (hk:okd k=true) (dk:dpt k<=60) (hx:okd x=true):qS [k,x]=some (.bl (eK k x)):=by
 have fin:∀r,kI xH pX [some k,some x]=some (.ret r,[some k,some x])->qS [k,x]=some r:=fun r q=>fN rfl q
 have t1:=eqk (k:=k) (z:="word") (p:=[some k,some x]) (i:=0) rfl hk dk (by decide+kernel)
 have t2:=eqk (k:=k) (z:="gap") (p:=[some k,some x]) (i:=0) rfl hk dk (by decide+kernel)
 have t3:=eqk (k:=k) (z:="stop") (p:=[some k,some x]) (i:=0) rfl hk dk (by decide+kernel)
 have t4:=eqk (k:=k) (z:="group") (p:=[some k,some x]) (i:=0) rfl hk dk (by decide+kernel)
 have t5:=eqk (k:=k) (z:="either") (p:=[some k,some x]) (i:=0) rfl hk dk (by decide+kernel)
 refine fin _ ?_
 unfold eK
 cases e1:isS k "word" with
 |true=>rw [e1] at t1;rw [if_pos rfl];exact bN ((bJ t1).trans (bX (aZ (aG rfl rfl) (zm0 hx))))
 | false =>
  rw [e1] at t1;rw [if_neg (by decide)]
  refine(aH (aU t1)).trans ?_
  cases e2:isS k "gap" with
  |true=>rw [e2] at t2;rw [if_pos rfl];exact bN ((bJ t2).trans (bX (aW rfl (hV (aG rfl (aG rfl rfl)) rfl (Nat.le_of_ble_eq_true rfl)) (zH hx))))
  | false=>
   rw [e2] at t2;rw [if_neg (by decide)]
   refine(aH (aU t2)).trans ?_
   cases e3:isS k "stop" with
   |true=>rw [e3] at t3;rw [if_pos rfl];exact bN ((bJ t3).trans (bX (aZ (aG rfl (aG rfl rfl)) (zE hx))))
   | false=>
    rw [e3] at t3;rw [if_neg (by decide)]
    refine(aH (aU t3)).trans ?_
    cases e4:isS k "group" with
    |true=>rw [e4] at t4;rw [if_pos rfl];exact bN ((bJ t4).trans (bX (dH rfl (iX hx).1)))
    | false=>
     rw [e4] at t4;rw [if_neg (by decide)]
     refine(aH (aU t4)).trans ?_
     cases e5:isS k "either" with
     | true=>
      rw [e5] at t5;rw [if_pos rfl]
      refine bN ((bJ t5).trans (bX ?_))
      have ty:=(iX hx).1
      cases ht:hZ x with
      |false=>
       rw [ht] at ty
       have:oX x=false:=by cases x<;>first|rfl|cases ht
       rw [this]
       exact iZ (dH rfl ty)
      | true=>
       rw [ht] at ty
       cases x with
       | tup rs=>
        have ln:fZ (aD 1) [some k,some (.tup rs)]=some (.int (rs.length:Int)):=mQ rfl
        refine(iY (dH rfl ty)).trans ?_
        show _=some (D.bl (decide (2<=rs.length)&&decide (rs.length<=4)))
        have a:f2 dLe (fC (.int 2)) (fZ (aD 1)) [some k,some (.tup rs)]=some (.bl (decide ((2:Int)<=(rs.length:Int)))):=aW rfl ln rfl
        have b:f2 dLe (fZ (aD 1)) (fC (.int 4)) [some k,some (.tup rs)]=some (.bl (decide ((rs.length:Int)<=4))):=aW ln rfl rfl
        by_cases c:2<=rs.length
        ·rw [decide_eq_true (show(2:Int)<=(rs.length:Int) by omega)] at a
         rw [decide_eq_true c,Bool.true_and,iY a,b]
         congr 2
         exact decide_eq_decide.mpr (by omega)
        ·rw [decide_eq_false (show ¬(2:Int)<=(rs.length:Int) by omega)] at a
         rw [decide_eq_false c,Bool.false_and,iZ a]
       |_=>cases ht
     |false=>rw [e5] at t5;rw [if_neg (by decide)];exact(aH (aU t5)).trans rfl
abbrev gPO:tz6:=gP 1 1 (hX pX qS)
theorem zp8 {p:D} (h:okd p=true) (hd:dpt p<=60):gPO [p]=some (.bl (dD p).isSome):=by
 have fin:∀q r,hX pX qS [some p,none]=some (.ret r,q)->gPO [p]=some r:=fun q r e=>fN rfl e
 have ty:=(iX h).1
 cases ht:hZ p with
 |false=>
  rw [ht] at ty
  have:dD p=none:=by cases p<;>first|rfl|cases ht
  rw [this]
  exact fin [some p,none] _ (bN ((bJ (pE (fG (fO (dH rfl ty))))).trans rfl))
 | true =>
  rw [ht] at ty
  cases p with
  | tup ps=>
   have l0:fZ (aD 0) [some (.tup ps),none]=some (.int (ps.length:Int)):=mQ rfl
   have l0t:fB (f2 dEq (fZ (aD 0)) (fC (.int 0))) [some (.tup ps),none]=some (decide ((ps.length:Int)=0)):=dS (aW l0 rfl rfl)
   cases ps with
   |nil=>exact fin [some (.tup []),none] _ (bN ((bJ (iR (fG (fO (dH rfl ty))) l0t)).trans rfl))
   | cons k ys=>
    rw [decide_eq_false (by rw [List.length_cons];omega)] at l0t
    rw [okd,Bool.and_eq_true,bF,Bool.and_eq_true] at h
    rw [dpt,bD] at hd
    have dk:dpt k<=60:=by omega
    have s1:aX 1 (aL (bY (f2 dIx (aD 0) (fC (.int 0))))) [some (.tup (k::ys)),none]=some (.nx,[some (.tup (k::ys)),some k]):=dO (fS (aW rfl rfl (hE _ _)) (dU k h.1.1))
    have t1:=eqk (k:=k) (z:="end") (p:=[some (.tup (k::ys)),some k]) (i:=1) rfl h.1.1 dk (by decide+kernel)
    have t2:=eqk (k:=k) (z:="hang") (p:=[some (.tup (k::ys)),some k]) (i:=1) rfl h.1.1 dk (by decide+kernel)
    have ln:fZ (aD 0) [some (.tup (k::ys)),some k]=some (.int ((k::ys).length:Int)):=mQ rfl
    have le:∀c:Int,f2 dEq (fZ (aD 0)) (fC (.int c)) [some (.tup (k::ys)),some k]=some (.bl (decide (((k::ys).length:Int)=c))):=fun c=>aW ln rfl rfl
    refine fin [some (.tup (k::ys)),some k] _ ((aH (aU (iR (fG (b:=true) (fO (dH rfl ty))) l0t))).trans ((aH s1).trans ?_))
    show _=some (Fl.ret (D.bl (gR k ys).isSome),_)
    unfold gR
    cases e1:isS k "end" with
    |true=>
     rw [e1] at t1;rw [if_pos rfl]
     refine bN ((bJ t1).trans (bX ((le 1).trans ?_)))
     cases ys with
     |nil=>rfl
     |cons y ys=>rw [decide_eq_false (by simp only [List.length_cons];omega)];rfl
    | false=>
     rw [e1] at t1;rw [if_neg (by decide)]
     refine(aH (aU t1)).trans ?_
     cases e2:isS k "hang" with
     | true=>
      rw [e2] at t2;rw [if_pos rfl]
      refine bN ((bJ t2).trans (bX ?_))
      have no:decide (((k::ys).length:Int)=3)=false->dQ (f2 dEq (fZ (aD 0)) (fC (.int 3))) (aK pX (aA (f2 dIx (aD 0) (fC (.int 1))) (aA (fC (.int 12)) aC))) [some (.tup (k::ys)),some k]=some (.bl false):=fun e=>iZ ((le 3).trans (by rw [e]))
      cases ys with
      |nil=>exact no rfl
      | cons n ys=>cases ys with
       |nil=>exact no rfl
       | cons r ys=>cases ys with
        |nil=>
         have hn:=h.1.2
         rw [bF,Bool.and_eq_true] at hn
         refine(iY (le 3)).trans ((aZ (aG (aW rfl rfl (hJ _ _ _)) (aG rfl rfl)) (zE hn.1)).trans ?_)
         show some (D.bl (num n 12))=some (D.bl (if num n 12=true then some [r] else none).isSome)
         cases num n 12<;>rfl
        |cons y ys=>exact no (decide_eq_false (by simp only [List.length_cons];omega))
     | false=>
      rw [e2] at t2;rw [if_neg (by decide)]
      refine(aH (aU t2)).trans (bX ?_)
      have no:decide (((k::ys).length:Int)=2)=false->dQ (f2 dEq (fZ (aD 0)) (fC (.int 2))) (aK qS (aA (aD 1) (aA (f2 dIx (aD 0) (fC (.int 1))) aC))) [some (.tup (k::ys)),some k]=some (.bl false):=fun e=>iZ ((le 2).trans (by rw [e]))
      cases ys with
      |nil=>exact no rfl
      | cons x ys=>cases ys with
       |nil=>
        have hn:=h.1.2
        rw [bF,Bool.and_eq_true] at hn
        refine(iY (le 2)).trans ((aZ (aG rfl (aG (aW rfl rfl (hJ _ _ _)) rfl)) (zh5 h.1.1 dk hn.1)).trans ?_)
        show some (D.bl (eK k x))=some (D.bl (if eK k x=true then some (iU k x) else none).isSome)
        cases eK k x<;>rfl
       |cons y ys=>exact no (decide_eq_false (by simp only [List.length_cons];omega))
  |_=>cases ht
theorem sF {p:D} {rs:List D} (h:dD p=some rs):(p= .tup [.str "end"]/\rs=[])\/(∃n r,p= .tup [.str "hang",n,r]/\num n 12=true/\rs=[r])\/(∃k x,p= .tup [k,x]/\isS k "end"=false/\isS k "hang"=false/\eK k x=true/\rs=iU k x):=by
 cases p with
 | tup ps=>
  cases ps with
  |nil=>cases h
  | cons k ys=>
   have h':gR k ys=some rs:=h
   unfold gR at h'
   cases e1:isS k "end" with
   |true=>
    rw [e1,if_pos rfl] at h'
    cases ys with
    |nil=>cases h';rw [rG e1];exact .inl ⟨rfl,rfl⟩
    |cons y ys=>cases h'
   | false=>
    rw [e1,if_neg (by decide)] at h'
    cases e2:isS k "hang" with
    | true=>
     rw [e2,if_pos rfl] at h'
     cases ys with
     |nil=>cases h'
     | cons n ys=>cases ys with
      |nil=>cases h'
      | cons r ys=>cases ys with
       |nil=>
        have h2:(if num n 12=true then some [r] else none)=some rs:=h'
        obtain⟨h3,h4⟩:=cB h2
        cases h4
        rw [rG e2]
        exact .inr (.inl ⟨n,r,rfl,h3,rfl⟩)
       |cons y ys=>cases h'
    | false=>
     rw [e2,if_neg (by decide)] at h'
     cases ys with
     |nil=>cases h'
     | cons x ys=>cases ys with
      |nil=>
       have h2:(if eK k x=true then some (iU k x) else none)=some rs:=h'
       obtain⟨h3,h4⟩:=cB h2
       cases h4
       exact .inr (.inr ⟨k,x,rfl,e1,e2,h3,rfl⟩)
      |cons y ys=>cases h'
 |_=>cases h
theorem eqf{k:D}{z:String}{p:PSt}{f:tz2}(hf:f p=some k)(h:okd k=true)(hd:dpt k<=60)(hz:(z:Str).cps.toList.all (fun c=>decide (32<=c)&&decide (c<=126))=true):fB (f2 dEq f (fC (.str z))) p=some (isS k z):=dS (aW hf rfl (zb4 h hd hz))
abbrev gIn:tz6:=gP 1 1 lU
theorem zp9{p:D}{rs:List D}(h:okd p=true)(hd:dpt p<=60)(hr:dD p=some rs):gIn [p]=some (.lst true rs):=by
 have fin:∀q r,lU [some p,none]=some (.ret r,q)->gIn [p]=some r:=fun q r e=>fN rfl e
 have go:∀(k:D) (ys:List D),p= .tup (k::ys)->(okd k=true/\dpt k<=60)/\bF ys=true:=fun k ys e=>by
  subst e
  rw [okd,Bool.and_eq_true,bF,Bool.and_eq_true] at h
  rw [dpt,bD] at hd
  exact⟨⟨h.1.1,by omega⟩,h.1.2⟩
 have st:∀(k:D) (ys:List D),p= .tup (k::ys)->aX 1 (aL (bY (f2 dIx (aD 0) (fC (.int 0))))) [some p,none]=some (.nx,[some p,some k])/\(∀z:String,(z:Str).cps.toList.all (fun c=>decide (32<=c)&&decide (c<=126))=true->fB (f2 dEq (aD 1) (fC (.str z))) [some p,some k]=some (isS k z)):=fun k ys e=>by
  obtain⟨⟨g1,g2⟩,_⟩:=go k ys e
  subst e
  exact⟨dO (fS (aW rfl rfl (hE _ _)) (dU k g1)),fun z hz=>eqk (p:=[some (.tup (k::ys)),some k]) (i:=1) rfl g1 g2 hz⟩
 have el:∀{d:D} {i:Int} {f:D},bY (f2 dIx (aD 0) (fC (.int i))) [some p,some f]=some d->bA (aA (bY (f2 dIx (aD 0) (fC (.int i)))) aC) [some p,some f]=some (.lst true [d]):=fun e=>hU (aG e rfl) (Nat.le_of_ble_eq_true rfl)
 rcases sF hr with ⟨e,rfl⟩|⟨n,r,e,hn,rfl⟩|⟨k,x,e,e1,e2,e3,rfl⟩
 ·obtain⟨s,t⟩:=st _ _ e
  exact fin _ _ ((aH s).trans ((aH (aU ((t "group" (by decide+kernel)).trans (congrArg some (cZ (a:="end") (b:="group") (by decide+kernel) (by decide)))))).trans ((aH (aU ((t "hang" (by decide+kernel)).trans (congrArg some (cZ (a:="end") (b:="hang") (by decide+kernel) (by decide)))))).trans ((aH (aU ((t "either" (by decide+kernel)).trans (congrArg some (cZ (a:="end") (b:="either") (by decide+kernel) (by decide)))))).trans rfl))))
 ·obtain⟨s,t⟩:=st _ _ e
  obtain⟨_,g⟩:=go _ _ e
  rw [bF,bF,Bool.and_eq_true,Bool.and_eq_true] at g
  have t2:=t "hang" (by decide+kernel)
  rw [show isS (.str "hang") "hang"=true by decide+kernel] at t2
  refine fin [some p,some (.str "hang")] _ ((aH s).trans ((aH (aU ((t "group" (by decide+kernel)).trans (congrArg some (cZ (a:="hang") (b:="group") (by decide+kernel) (by decide)))))).trans (bN ((bJ t2).trans (bX (el ?_))))))
  subst e
  exact fS (aW rfl rfl (kG _ _ _ _)) (dU r g.2.1)
 ·obtain⟨s,t⟩:=st _ _ e
  obtain⟨_,g⟩:=go _ _ e
  rw [bF,Bool.and_eq_true] at g
  have t1:=t "group" (by decide+kernel)
  have t2:=t "hang" (by decide+kernel)
  have t3:=t "either" (by decide+kernel)
  rw [e2] at t2
  unfold iU
  cases c1:isS k "group" with
  |true=>
   rw [c1] at t1;rw [if_pos rfl]
   refine fin [some p,some k] _ ((aH s).trans (bN ((bJ t1).trans (bX (el ?_)))))
   subst e
   exact fS (aW rfl rfl (hJ _ _ _)) (dU x g.1)
  | false=>
   rw [c1] at t1;rw [if_neg (by decide)]
   refine fin [some p,some k] _ ((aH s).trans ((aH (aU t1)).trans ((aH (aU t2)).trans ?_)))
   cases c2:isS k "either" with
   | true=>
    rw [c2] at t3;rw [if_pos rfl]
    refine bN ((bJ t3).trans (bX ?_))
    have ht:eK k x=oX x:=by
     unfold eK
     rw [cZ c2 (by decide),cZ c2 (by decide),cZ c2 (by decide),c1,c2];rfl
    rw [ht] at e3
    cases x with
    |tup rs=>subst e;exact aZ (aG (aW rfl rfl (hJ _ _ _)) rfl) rfl
    |_=>cases e3
   |false=>rw [c2] at t3;rw [if_neg (by decide)];exact(aH (aU t3)).trans rfl
abbrev pK:tz6:=gP 1 1 (kR gUp)
def nQ(k x:D):Bool:=if isS k "word"=true then pJ x else if isS k "gap"=true then xG x else isS k "stop"&&num x 40
theorem zh6{k x:D}(hk:okd k=true)(dk:dpt k<=60)(hx:okd x=true):pK [.tup [k,x]]=some (.bl (nQ k x)):=by
 have fin:∀q r,kR gUp [some (.tup [k,x]),none]=some (.ret r,q)->pK [.tup [k,x]]=some r:=fun q r e=>fN rfl e
 have k0:∀y:Option D,f2 dIx (aD 0) (fC (.int 0)) [some (.tup [k,x]),y]=some k:=fun _=>aW rfl rfl (hE _ _)
 have x1:∀y:Option D,f2 dIx (aD 0) (fC (.int 1)) [some (.tup [k,x]),y]=some x:=fun _=>aW rfl rfl (hJ _ _ _)
 have t1:=eqf (k:=k) (z:="word") (p:=[some (.tup [k,x]),none]) (k0 none) hk dk (by decide+kernel)
 have t2:=eqf (k:=k) (z:="gap") (p:=[some (.tup [k,x]),none]) (k0 none) hk dk (by decide+kernel)
 unfold nQ
 cases e1:isS k "word" with
 | true=>
  rw [e1] at t1;rw [if_pos rfl]
  have s1:aX 1 (aL (bY (f2 dIx (aD 0) (fC (.int 1))))) [some (.tup [k,x]),none]=some (.nx,[some (.tup [k,x]),some x]):=dO (fS (x1 none) (dU x hx))
  refine fin [some (.tup [k,x]),some x] _ (bN ((bJ t1).trans ((aH s1).trans (bX ?_))))
  have ty:=(iX hx).2
  cases hs:oW x with
  |false=>
   rw [hs] at ty
   have hw:pJ x=false:=by cases x<;>first|rfl|cases hs
   rw [hw]
   exact iZ (dH rfl ty)
  | true=>
   rw [hs] at ty
   cases x with
   | str z=>
    obtain⟨h1,h2⟩:=zG hx
    refine(iY (dH rfl ty)).trans ?_
    have ln:fZ (aD 1) [some (.tup [k,.str z]),some (.str z)]=some (.int (z.length:Int)):=aZ (aG rfl rfl) (if_pos (sz (by omega)))
    have a:f3 dLt dLt (fC (.int 0)) (fZ (aD 1)) (fC (.int 13)) [some (.tup [k,.str z]),some (.str z)]=some (.bl (decide (1<=z.length)&&decide (z.length<=12))):=by
     unfold f3
     rw [show fC (.int 0) [some (.tup [k,.str z]),some (.str z)]=some (.int 0) from rfl,Option.bind_some,ln,Option.bind_some,show dLt (.int 0) (.int (z.length:Int))=some (.bl (decide ((0:Int)<(z.length:Int)))) from rfl,Option.bind_some]
     by_cases c:1<=z.length
     ·rw [decide_eq_true (show(0:Int)<(z.length:Int) by omega),decide_eq_true c,Bool.true_and]
      show some (D.bl (decide ((z.length:Int)<13)))=_
      congr 2
      exact decide_eq_decide.mpr (by omega)
     ·rw [decide_eq_false (show ¬(0:Int)<(z.length:Int) by omega),decide_eq_false c];rfl
    show _=some (D.bl (decide (1<=z.length)&&decide (z.length<=12)&&z.cps.toList.all gO))
    cases c:(decide (1<=z.length)&&decide (z.length<=12)) with
    |false=>rw [c] at a;exact iZ a
    |true=>
     rw [c] at a
     refine(iY a).trans ?_
     rw [Bool.true_and,<-zh4 h1]
     refine aW (x:= .int (Txt.find z " ")) ?_ rfl rfl
     unfold fMt
     rw [show aD 1 [some (.tup [k,.str z]),some (.str z)]=some (.str z) from rfl,Option.bind_some,aG (f:=fC (.str " ")) (g:=aC) (d:= .str " ") (ds:=[]) rfl rfl,Option.bind_some];rfl
   |_=>cases hs
 | false=>
  rw [e1] at t1;rw [if_neg (by decide)]
  refine fin [some (.tup [k,x]),none] _ ((aH (aU t1)).trans ?_)
  cases e2:isS k "gap" with
  | true=>
   rw [e2] at t2;rw [if_pos rfl]
   refine bN ((bJ t2).trans (bX ?_))
   have ty:=(iX hx).2
   have tc:aK dA (aA (f2 dIx (aD 0) (fC (.int 1))) (aA (fC (.ty "str")) aC)) [some (.tup [k,x]),none]=some (.bl (oW x)):=aZ (aG (x1 none) (aG rfl rfl)) ty
   cases hs:oW x with
   |false=>
    rw [hs] at tc
    have hw:xG x=false:=by cases x<;>first|rfl|cases hs
    rw [hw]
    exact iZ tc
   |true=>
    rw [hs] at tc
    refine(iY tc).trans ?_
    have:=zH hx
    cases x with
    |str z=>exact aW (x1 none) (hU (aG rfl (aG rfl rfl)) (Nat.le_of_ble_eq_true rfl)) this
    |_=>cases hs
  |false=>
   rw [e2] at t2;rw [if_neg (by decide)]
   refine(aH (aU t2)).trans (bX ?_)
   have t3:f2 dEq (f2 dIx (aD 0) (fC (.int 0))) (fC (.str "stop")) [some (.tup [k,x]),none]=some (.bl (isS k "stop")):=aW (k0 none) rfl (zb4 hk dk (by decide+kernel))
   cases e3:isS k "stop" with
   |true=>rw [e3] at t3;exact(iY t3).trans (aZ (aG (x1 none) (aG rfl rfl)) (zd5 hx))
   |false=>rw [e3] at t3;exact iZ t3
abbrev gA:tz6:=gP 1 0 (oU gUp pK)
theorem zm1{z:Str}{ys:List D}(h:okd (.tup (.str z::ys))=true)(hd:dpt (.tup (.str z::ys))<=60):dEq (.tup (.str z::ys)) (.tup [.str "end"])=some (.bl (decide (z="end")&&ys.isEmpty)):=by
 obtain⟨a,e1,h1,h2⟩:=pU _ h
 show(lS _ _).map D.bl=_
 unfold lS
 rw [e1,Option.bind_some,show(D.tup [.str "end"]).data=some (.tuple [.str "end"]) from rfl,Option.bind_some,if_pos]
 ·rw [D.data,D.datas] at e1
  obtain⟨as,e2,e3⟩:=Option.map_eq_some_iff.mp e1
  subst e3
  rw [show(D.str z).data=some (.str z) from rfl,Option.bind_some] at e2
  obtain⟨bs,e4,e5⟩:=Option.map_eq_some_iff.mp e2
  subst e5
  show some (D.bl ((z==("end":Str))&&PyData.eqvAll bs []))=_
  have hz:(z==("end":Str))=decide (z="end"):=Bool.eq_iff_iff.mpr (by rw [beq_iff_eq,decide_eq_true_eq])
  rw [hz]
  cases ys with
  |nil=>cases e4;rfl
  |cons y ys=>
   rw [D.datas] at e4
   obtain⟨b,e6,e7⟩:=bind_some e4
   obtain⟨cs,e8,e9⟩:=Option.map_eq_some_iff.mp e7
   subst e9;rfl
 ·rw [h1,decide_eq_true (by omega)]
  have:(PyData.tuple [.str ("end":Str)]).canLay0=true:=by decide+kernel
  rw [this];rfl
abbrev k0F:tz2:=f2 dIx (aD 0) (fC (.int 0))
abbrev x1F:tz2:=f2 dIx (aD 0) (fC (.int 1))
theorem zh7{p:D}(h:okd p=true)(hd:dpt p<=60):(∀rs,dD p=some rs->gA [p]=some (.lst true rs))/\(dD p=none->gA [p]=some .non\/∃x,hZ x=false/\okd x=true/\dpt x+1<=dpt p/\gA [p]=some (.lst true [x])):=by
 have fin:∀r,oU gUp pK [some p]=some (.ret r,[some p])->gA [p]=some r:=fun r e=>fN rfl e
 have ty:=(iX h).1
 have tyt:cW (fT (rL 0 "tuple")) [some p]=some (!hZ p):=fG (fO (dH rfl ty))
 have nn:∀{c:Option (List D)},c=none->gA [p]=some .non->dD p=c->(∀rs,dD p=some rs->gA [p]=some (.lst true rs))/\(dD p=none->gA [p]=some .non\/∃x,hZ x=false/\okd x=true/\dpt x+1<=dpt p/\gA [p]=some (.lst true [x])):=fun hc e1 e2=>⟨fun rs e=>(by rw [e2,hc] at e;cases e),fun _=> .inl e1⟩
 cases ht:hZ p with
 |false=>
  rw [ht] at tyt
  refine nn (c:=none) rfl (fin _ (bN ((bJ (pE tyt)).trans rfl))) ?_
  cases p<;>first|rfl|cases ht
 | true =>
  rw [ht] at tyt
  cases p with
  | tup ps=>
   have l0:fZ (aD 0) [some (.tup ps)]=some (.int (ps.length:Int)):=mQ rfl
   have le:∀c:Int,fB (f2 dEq (fZ (aD 0)) (fC (.int c))) [some (.tup ps)]=some (decide ((ps.length:Int)=c)):=fun c=>dS (aW l0 rfl rfl)
   cases ps with
   |nil=>exact nn (c:=none) rfl (fin _ (bN ((bJ (iR tyt (pE (le 0)))).trans rfl))) rfl
   | cons k ys=>
    have ho:=h
    rw [okd,Bool.and_eq_true,bF,Bool.and_eq_true] at ho
    have hk:=ho.1.1
    have hys:=ho.1.2
    have dk:dpt k<=60:=by rw [dpt,bD] at hd;omega
    have k0:k0F [some (.tup (k::ys))]=some k:=aW rfl rfl (hE _ _)
    have ks:cW (fT (aK dA (aA k0F (aA (fC (.ty "str")) aC)))) [some (.tup (k::ys))]=some (!oW k):=fG (fO (aZ (aG k0 (aG rfl rfl)) (iX hk).2))
    have l0f:=le 0
    rw [decide_eq_false (by rw [List.length_cons];omega)] at l0f
    cases hs:oW k with
    | false=>
     rw [hs] at ks
     refine nn (c:=none) rfl (fin _ (bN ((bJ (iR tyt (iR l0f ks))).trans rfl))) ?_
     have ff:∀z,isS k z=false:=fun z=>by cases k<;>first|rfl|cases hs
     show gR k ys=none
     unfold gR
     rw [ff,ff,if_neg (by decide),if_neg (by decide)]
     cases ys with
     |nil=>rfl
     | cons x ys=>cases ys with
      |nil=>
       show(if eK k x=true then some (iU k x) else none)=none
       rw [if_neg]
       unfold eK
       rw [ff,ff,ff,ff,ff];exact(by decide:¬false=true)
      |cons y ys=>rfl
    | true=>
     rw [hs] at ks
     cases k with
     | str z=>
      have s1:fIf (aT (eC (cW (fT (rL 0 "tuple"))) (eC (fB (f2 dEq (fZ (aD 0)) (fC (.int 0)))) (cW (fT (aK dA (aA k0F (aA (fC (.ty "str")) aC)))))))) (bI (aL (fC .non))) bK [some (.tup (.str z::ys))]=some (.nx,[some (.tup (.str z::ys))]):=aU (iR tyt (iR l0f ks))
      have te:fB (f2 dEq (aD 0) (aQ (aA (fC (.str "end")) aC))) [some (.tup (.str z::ys))]=some (decide (z="end")&&ys.isEmpty):=dS (aW rfl (hV (aG rfl rfl) rfl (Nat.le_of_ble_eq_true rfl)) (zm1 h hd))
      have tg:=eqf (z:="group") (p:=[some (.tup (.str z::ys))]) k0 hk dk (by decide+kernel)
      have th:=eqf (z:="hang") (p:=[some (.tup (.str z::ys))]) k0 hk dk (by decide+kernel)
      have tt:=eqf (z:="either") (p:=[some (.tup (.str z::ys))]) k0 hk dk (by decide+kernel)
      have an:∀{a b:tz4} {q:PSt} {x y:Bool},a q=some x->b q=some y->cA a b q=some (x&&y):=fun {a b q x y} e1 e2=>by
       cases x with
       |true=>rw [Bool.true_and];exact oG e1 e2
       |false=>rw [Bool.false_and];exact hW e1
      cases ys with
      | nil=>
       have l2:=le 2
       rw [show decide ((([D.str z]:List D).length:Int)=2)=false from rfl] at l2
       have l3:=le 3
       rw [show decide ((([D.str z]:List D).length:Int)=3)=false from rfl] at l3
       cases ce:decide (z=("end":Str)) with
       |true=>
        have hz:isS (.str z) "end"=true:=ce
        rw [ce] at te
        have hr:dD (.tup [.str z])=some []:=by show gR (.str z) []=_;unfold gR;rw [hz,if_pos rfl]
        refine⟨fun rs e=> ?_,fun e=>by rw [hr] at e;cases e⟩
        rw [hr] at e;cases e
        exact fin _ ((aH s1).trans (bN ((bJ te).trans rfl)))
       | false=>
        have hz:isS (.str z) "end"=false:=ce
        rw [ce] at te
        have hr:dD (.tup [.str z])=none:=by
         show gR (.str z) []=_;unfold gR;rw [hz,if_neg (by decide)]
         cases isS (.str z) "hang"<;>rfl
        refine nn (c:=none) rfl (fin _ ((aH s1).trans ((aH (aU te)).trans ((aH (aU ((an tg l2).trans (by rw [Bool.and_false])))).trans ((aH (aU ?_)).trans ((aH (aU ?_)).trans ((aH (aU (hW l2))).trans rfl))))))) hr
        ·cases c:isS (.str z) "hang" with
         |true=>rw [c] at th;exact oG th (hW l3)
         |false=>rw [c] at th;exact hW th
        ·cases c:isS (.str z) "either" with
         |true=>rw [c] at tt;exact oG tt (hW l2)
         |false=>rw [c] at tt;exact hW tt
      | cons x ys=>
       rw [show(x::ys).isEmpty=false from rfl,Bool.and_false] at te
       rw [bF,Bool.and_eq_true] at hys
       have x1:x1F [some (.tup (.str z::x::ys))]=some x:=aW rfl rfl (hJ _ _ _)
       cases ys with
       | nil =>
        have l2:=le 2
        rw [show decide ((([D.str z,x]:List D).length:Int)=2)=true from rfl] at l2
        have l3:=le 3
        rw [show decide ((([D.str z,x]:List D).length:Int)=3)=false from rfl] at l3
        have s2:=aU (F:=bI (aL (bA aC))) te
        cases cg:isS (.str z) "group" with
        | true=>
         rw [cg] at tg
         have go:gA [.tup [.str z,x]]=some (.lst true [x]):=fin _ ((aH s1).trans ((aH s2).trans (bN ((bJ (an tg l2)).trans (bX (hU (aG (fS x1 (dU x hys.1)) rfl) (Nat.le_of_ble_eq_true rfl)))))))
         have hc:eK (.str z) x=hZ x:=by unfold eK;rw [cZ cg (by decide),cZ cg (by decide),cZ cg (by decide),cg];rfl
         have hr:dD (.tup [.str z,x])=if hZ x=true then some [x] else none:=by
          show gR (.str z) [x]=_
          unfold gR
          rw [cZ cg (by decide),cZ cg (by decide),if_neg (by decide),if_neg (by decide)]
          show(if eK (.str z) x=true then some (iU (.str z) x) else none)=_
          rw [hc]
          unfold iU
          rw [cg,if_pos rfl]
         cases ct:hZ x with
         |true=>
          rw [ct,if_pos rfl] at hr
          exact⟨fun rs e=>by rw [hr] at e;cases e;exact go,fun e=>by rw [hr] at e;cases e⟩
         |false=>
          rw [ct,if_neg (by decide)] at hr
          exact⟨fun rs e=>(by rw [hr] at e;cases e),fun _=> .inr ⟨x,ct,hys.1,by rw [dpt,bD,bD,bD];omega,go⟩⟩
        | false=>
         rw [cg] at tg
         have s3:=aU (F:=bI (aL (bA (aA (bY x1F) aC)))) (hW (g:=fB (f2 dEq (fZ (aD 0)) (fC (.int 2)))) tg)
         have th':cA (fB (f2 dEq k0F (fC (.str "hang")))) (cA (fB (f2 dEq (fZ (aD 0)) (fC (.int 3)))) (fT (aK gUp (aA x1F (aA (fC (.int 12)) aC))))) [some (.tup [.str z,x])]=some false:=(an th (hW l3)).trans (by rw [Bool.and_false])
         have s4:=aU (F:=bI (aL (bA (aA (bY (f2 dIx (aD 0) (fC (.int 2)))) aC)))) th'
         have dl:cA (fT (aK dA (aA x1F (aA (fC (.ty "tuple")) aC)))) (fB (f3 dLt dLt (fC (.int 1)) (fZ x1F) (fC (.int 5)))) [some (.tup [.str z,x])]=some (oX x):=by
          have ti:fT (aK dA (aA x1F (aA (fC (.ty "tuple")) aC))) [some (.tup [.str z,x])]=some (hZ x):=fO (aZ (aG x1 (aG rfl rfl)) (iX hys.1).1)
          cases ct:hZ x with
          |false=>
           rw [ct] at ti
           have:oX x=false:=by cases x<;>first|rfl|cases ct
           rw [this];exact hW ti
          | true=>
           rw [ct] at ti
           cases x with
           | tup rs=>
            have ln:fZ x1F [some (.tup [.str z,.tup rs])]=some (.int (rs.length:Int)):=mQ x1
            refine(oG ti (dS ?_))
            show f3 dLt dLt (fC (.int 1)) (fZ x1F) (fC (.int 5)) _=some (.bl (decide (2<=rs.length)&&decide (rs.length<=4)))
            unfold f3
            rw [show fC (.int 1) [some (.tup [.str z,.tup rs])]=some (.int 1) from rfl,Option.bind_some,ln,Option.bind_some,show dLt (.int 1) (.int (rs.length:Int))=some (.bl (decide ((1:Int)<(rs.length:Int)))) from rfl,Option.bind_some]
            by_cases c:2<=rs.length
            ·rw [decide_eq_true (show(1:Int)<(rs.length:Int) by omega),decide_eq_true c,Bool.true_and]
             show some (D.bl (decide ((rs.length:Int)<5)))=_
             congr 2
             exact decide_eq_decide.mpr (by omega)
            ·rw [decide_eq_false (show ¬(1:Int)<(rs.length:Int) by omega),decide_eq_false c];rfl
           |_=>cases ct
         have te5:=an tt (an l2 dl)
         have ni:fB (f2 mT k0F (bA (aA (fC (.str "group")) (aA (fC (.str "either")) aC)))) [some (.tup [.str z,x])]=some (!(isS (.str z) "group"||isS (.str z) "either")):=by
          refine dS (aW k0 (hU (aG rfl (aG rfl rfl)) (Nat.le_of_ble_eq_true rfl)) ?_)
          show some (D.bl (!(((("group":Str)==z)||(((("either":Str))==z)||false)):Bool)))=some (D.bl (!(decide (z=("group":Str))||decide (z=("either":Str)))))
          rw [Bool.or_false,show(("group":Str)==z)=decide (z=("group":Str)) from Bool.eq_iff_iff.mpr (by rw [beq_iff_eq,decide_eq_true_eq];exact eq_comm),show(("either":Str)==z)=decide (z=("either":Str)) from Bool.eq_iff_iff.mpr (by rw [beq_iff_eq,decide_eq_true_eq];exact eq_comm)]
         rw [cg,Bool.false_or] at ni
         have tgd:fT (aK pK (aA (aD 0) aC)) [some (.tup [.str z,x])]=some (nQ (.str z) x):=fO (aZ (aG rfl rfl) (zh6 hk dk hys.1))
         have t6:=an l2 (an ni tgd)
         rw [Bool.true_and] at t6
         rw [Bool.true_and] at te5
         have hr:dD (.tup [.str z,x])=if isS (.str z) "end"=true then none else if isS (.str z) "hang"=true then none else if eK (.str z) x=true then some (iU (.str z) x) else none:=rfl
         cases ct:isS (.str z) "either" with
         | true=>
          have hc:eK (.str z) x=oX x:=by unfold eK;rw [cZ ct (by decide),cZ ct (by decide),cZ ct (by decide),cg,ct];rfl
          rw [cZ ct (by decide),cZ ct (by decide),if_neg (by decide),if_neg (by decide),hc] at hr
          have hrc:iU (.str z) x=zo5 x:=by unfold iU;rw [cg,ct];rfl
          rw [hrc] at hr
          rw [ct,Bool.true_and] at te5
          rw [ct] at t6
          cases ce:oX x with
          |true=>
           rw [ce,if_pos rfl] at hr
           rw [ce] at te5
           refine⟨fun rs e=> ?_,fun e=>by rw [hr] at e;cases e⟩
           rw [hr] at e;cases e
           cases x with
           |tup rs=>exact fin _ ((aH s1).trans ((aH s2).trans ((aH s3).trans ((aH s4).trans (bN ((bJ te5).trans (bX (aZ (aG x1 rfl) rfl))))))))
           |_=>cases ce
          |false=>
           rw [ce,if_neg (by decide)] at hr
           rw [ce] at te5
           exact nn (c:=none) rfl (fin _ ((aH s1).trans ((aH s2).trans ((aH s3).trans ((aH s4).trans ((aH (aU te5)).trans ((aH (aU t6)).trans rfl))))))) hr
         | false=>
          rw [ct,Bool.false_and] at te5
          rw [ct,Bool.not_false,Bool.true_and] at t6
          have hrc:iU (.str z) x=[]:=by unfold iU;rw [cg,ct];rfl
          have hg:nQ (.str z) x=(!isS (.str z) "end"&& !isS (.str z) "hang"&&eK (.str z) x):=by
           unfold nQ eK
           rw [cg,ct]
           cases c1:isS (.str z) "word" with
           |true=>rw [cZ (b:="end") c1 (by decide),cZ (b:="hang") c1 (by decide)];rfl
           | false=>
            cases c2:isS (.str z) "gap" with
            |true=>rw [cZ (b:="end") c2 (by decide),cZ (b:="hang") c2 (by decide)];rfl
            |false=>
             cases c3:isS (.str z) "stop" with
             |true=>rw [cZ (b:="end") c3 (by decide),cZ (b:="hang") c3 (by decide)];rfl
             |false=>simp
          rw [hrc] at hr
          have hr2:dD (.tup [.str z,x])=if nQ (.str z) x=true then some [] else none:=by
           rw [hr,hg]
           cases isS (.str z) "end"<;>cases isS (.str z) "hang"<;>cases eK (.str z) x<;>rfl
          cases cgd:nQ (.str z) x with
          |true=>
           rw [cgd] at t6
           rw [cgd,if_pos rfl] at hr2
           refine⟨fun rs e=> ?_,fun e=>by rw [hr2] at e;cases e⟩
           rw [hr2] at e;cases e
           exact fin _ ((aH s1).trans ((aH s2).trans ((aH s3).trans ((aH s4).trans ((aH (aU te5)).trans (bN ((bJ t6).trans rfl)))))))
          |false=>
           rw [cgd] at t6
           rw [cgd,if_neg (by decide)] at hr2
           exact nn (c:=none) rfl (fin _ ((aH s1).trans ((aH s2).trans ((aH s3).trans ((aH s4).trans ((aH (aU te5)).trans ((aH (aU t6)).trans rfl))))))) hr2
       | cons y ys=>
        have l2:=le 2
        rw [decide_eq_false (by simp only [List.length_cons];omega)] at l2
        have s2:=aU (F:=bI (aL (bA aC))) te
        have s3:=aU (F:=bI (aL (bA (aA (bY x1F) aC)))) ((an tg l2).trans (by rw [Bool.and_false]))
        have s6:fIf (aT (cA (fB (f2 dEq (fZ (aD 0)) (fC (.int 2)))) (cA (fB (f2 mT k0F (bA (aA (fC (.str "group")) (aA (fC (.str "either")) aC))))) (fT (aK pK (aA (aD 0) aC)))))) (bI (aL (bA aC))) bK [some (.tup (.str z::x::y::ys))]=some (.nx,[some (.tup (.str z::x::y::ys))]):=aU (hW l2)
        have s5:fIf (aT (cA (fB (f2 dEq k0F (fC (.str "either")))) (cA (fB (f2 dEq (fZ (aD 0)) (fC (.int 2)))) (cA (fT (aK dA (aA x1F (aA (fC (.ty "tuple")) aC)))) (fB (f3 dLt dLt (fC (.int 1)) (fZ x1F) (fC (.int 5)))))))) (bI (aL (aK eB (aA x1F aC)))) bK [some (.tup (.str z::x::y::ys))]=some (.nx,[some (.tup (.str z::x::y::ys))]):=aU ((an tt (hW l2)).trans (by rw [Bool.and_false]))
        rw [bF,Bool.and_eq_true] at hys
        cases ys with
        | nil=>
         have l3:=le 3
         rw [show decide ((([D.str z,x,y]:List D).length:Int)=3)=true from rfl] at l3
         have t4:=an th (an l3 (fO (aZ (aG x1 (aG rfl rfl)) (zd5 (m:=12) hys.1)):fT (aK gUp (aA x1F (aA (fC (.int 12)) aC))) [some (.tup [.str z,x,y])]=some (num x 12)))
         rw [Bool.true_and] at t4
         have hr:dD (.tup [.str z,x,y])=if (isS (.str z) "hang"&&num x 12)=true then some [y] else none:=by
          show gR (.str z) [x,y]=_
          unfold gR
          cases c1:isS (.str z) "end" with
          |true=>rw [cZ c1 (by decide)];rfl
          |false=>cases c2:isS (.str z) "hang"<;>rfl
         cases c:(isS (.str z) "hang"&&num x 12) with
         |true=>
          rw [c] at t4
          rw [c,if_pos rfl] at hr
          refine⟨fun rs e=> ?_,fun e=>by rw [hr] at e;cases e⟩
          rw [hr] at e;cases e
          exact fin _ ((aH s1).trans ((aH s2).trans ((aH s3).trans (bN ((bJ t4).trans (bX (hU (aG (fS (aW rfl rfl (kG _ _ _ _)) (dU y (by have:=hys.2.1;exact this))) rfl) (Nat.le_of_ble_eq_true rfl))))))))
         |false=>
          rw [c] at t4
          rw [c,if_neg (by decide)] at hr
          exact nn (c:=none) rfl (fin _ ((aH s1).trans ((aH s2).trans ((aH s3).trans ((aH (aU t4)).trans ((aH s5).trans ((aH s6).trans rfl))))))) hr
        | cons w ys=>
         have l3:=le 3
         rw [decide_eq_false (by simp only [List.length_cons];omega)] at l3
         have hr:dD (.tup (.str z::x::y::w::ys))=none:=by
          show gR (.str z) (x::y::w::ys)=_
          unfold gR
          cases isS (.str z) "end"<;>cases isS (.str z) "hang"<;>rfl
         exact nn (c:=none) rfl (fin _ ((aH s1).trans ((aH s2).trans ((aH s3).trans ((aH (aU ((an th (hW l3)).trans (by rw [Bool.and_false])))).trans ((aH s5).trans ((aH s6).trans rfl))))))) hr
     |_=>cases hs
  |_=>cases ht
def iV:D->Bool
 | .tup ps=>ps.all fun p=>(dD p).isSome
 |_=>false
def eA(ps:List D):List D:=ps.flatMap fun p=>(dD p).getD []
def jY:D->List D
 | .tup ps=>eA ps
 |_=>[]
def lC:D->Nat
 | .tup ps=>ps.length
 |_=>0
def snL(f:D->Option (Nat×Nat)):List D->Option (Nat×Nat)
 |[]=>some (0,0)
 |d::ds=>(f d).bind fun a=>(snL f ds).map fun b=>(max a.1 b.1,a.2+b.2)
def sn:Nat->D->Option (Nat×Nat)
 |0,_=>none
 |n+1,d=>if iV d=true then(snL (sn n) (jY d)).map fun x=>(x.1+1,lC d+(jY d).length+x.2) else none
theorem rH(f:D->Option (Nat×Nat)):∀a b:List D,snL f (a++b)=(snL f a).bind fun x=>(snL f b).map fun y=>(max x.1 y.1,x.2+y.2)
 |[],b=>by
  show snL f b=(some (0,0)).bind _
  rw [Option.bind_some]
  cases snL f b with
  |none=>rfl
  |some y=>show some y=some (max 0 y.1,0+y.2);rw [Nat.zero_max,Nat.zero_add]
 | d::a,b=>by
  rw [List.cons_append,snL,snL,rH f a b]
  cases f d with
  |none=>rfl
  | some x=>
   rw [Option.bind_some,Option.bind_some]
   cases snL f a with
   |none=>rfl
   |some y=>
    rw [Option.bind_some,Option.map_some,Option.bind_some]
    cases snL f b with
    |none=>rfl
    |some z=>show some (max x.1 (max y.1 z.1),x.2+(y.2+z.2))=some (max (max x.1 y.1) z.1,x.2+y.2+z.2);rw [Nat.max_assoc,Nat.add_assoc]
theorem nI(p:D)(ps:List D):eA (p::ps)=(dD p).getD []++eA ps:=by unfold eA;rw [List.flatMap_cons]
theorem pV{p:D}{rs:List D}(h:okd p=true)(hr:dD p=some rs):rs.length<=4/\bF rs=true/\bD rs+1<=dpt p:=by
 rcases sF hr with ⟨rfl,rfl⟩|⟨n,r,rfl,_,rfl⟩|⟨k,x,rfl,_,_,e,rfl⟩
 ·exact⟨by simp,rfl,by rw [bD,dpt];omega⟩
 ·rw [okd,Bool.and_eq_true,bF,bF,bF,Bool.and_eq_true,Bool.and_eq_true,Bool.and_eq_true] at h
  refine⟨by simp,by rw [bF,h.1.2.2.1];rfl,?_⟩
  rw [dpt,bD,bD,bD,bD,bD,bD];omega
 ·rw [okd,Bool.and_eq_true,bF,bF,Bool.and_eq_true,Bool.and_eq_true] at h
  unfold iU
  cases c1:isS k "group" with
  |true=>
   rw [if_pos rfl]
   refine⟨by simp,by rw [bF,h.1.2.1];rfl,?_⟩
   rw [dpt,bD,bD,bD,bD,bD];omega
  | false=>
   rw [if_neg (by decide)]
   cases c2:isS k "either" with
   | true=>
    rw [if_pos rfl]
    have ht:eK k x=oX x:=by
     unfold eK
     rw [cZ c2 (by decide),cZ c2 (by decide),cZ c2 (by decide),c1,c2];rfl
    rw [ht] at e
    cases x with
    |tup rs=>
     have e':(decide (2<=rs.length)&&decide (rs.length<=4))=true:=e
     rw [Bool.and_eq_true,decide_eq_true_eq,decide_eq_true_eq] at e'
     have hx:=h.1.2.1
     rw [okd,Bool.and_eq_true] at hx
     refine⟨e'.2,hx.1,?_⟩
     show bD rs+1<=_
     rw [dpt,bD,bD,bD,dpt];omega
    |_=>cases e
   |false=>rw [if_neg (by decide)];exact⟨by simp,rfl,by rw [bD,dpt];omega⟩
def toD:Option (Nat×Nat)->D
 |none=> .non
 |some x=> .tup [.int ((x.1:Int)-1),.int (x.2:Int)]
abbrev mG(GS:tz6):tz1:=
 aR (aX 6 (aL (aK GS (aA (aD 5) aC)))) (aR (fIf (aT (fB (f2 dIs (aD 6) (fC .non)))) (bI (aL (fC .non))) bK)
 (aR (aX 1 (aL (aK gE (aA (aD 1) (aA (f2 bP (f2 dIx (aD 6) (fC (.int 0))) (fC (.int 1))) aC))))) (aX 2 (aL (f2 bP (aD 2) (f2 dIx (aD 6) (fC (.int 1))))))))
abbrev S5(A:Option D)(hi mn:Nat)(x3 x4 x5 x6:Option D):PSt:=[A,some (.int (hi:Int)),some (.int (mn:Int)),x3,x4,x5,x6]
section
variable{GS:tz6}{f:D->Option (Nat×Nat)}{A x3 x4:Option D}
theorem uK:∀(rs:List D) (hi mn:Nat) (x5 x6:Option D),(∀r∈rs,GS [r]=some (toD (f r))/\∀y,f r=some y->1<=y.1)->
  (snL f rs=none/\∃q,cQ 5 (mG GS) rs (S5 A hi mn x3 x4 x5 x6)=some (.ret .non,q))\/
  ∃a b y5 y6,snL f rs=some (a,b)/\cQ 5 (mG GS) rs (S5 A hi mn x3 x4 x5 x6)=some (.nx,S5 A (max hi a) (mn+b) x3 x4 y5 y6)
 |[],hi,mn,x5,x6,_=> .inr ⟨0,0,x5,x6,rfl,by rw [Nat.max_zero,Nat.add_zero];rfl⟩
 | r::rs,hi,mn,x5,x6,h=>by
  obtain⟨hr,h1⟩:=h r List.mem_cons_self
  have s1:aX 6 (aL (aK GS (aA (aD 5) aC))) (S5 A hi mn x3 x4 (some r) x6)=some (.nx,S5 A hi mn x3 x4 (some r) (some (toD (f r)))):=dO (aZ (aG rfl rfl) hr)
  have lp:cQ 5 (mG GS) (r::rs) (S5 A hi mn x3 x4 x5 x6)=(mG GS (S5 A hi mn x3 x4 (some r) x6)).bind fun q=>match q with
   |(.nx,p)=>cQ 5 (mG GS) rs p
   |(.ct,p)=>cQ 5 (mG GS) rs p
   |(.bk,p)=>some (.nx,p)
   |(.ret d,p)=>some (.ret d,p):=rfl
  rw [lp,snL]
  cases e:f r with
  |none=>
   rw [e] at s1
   refine .inl ⟨rfl,S5 A hi mn x3 x4 (some r) (some (toD none)),?_⟩
   rw [show mG GS (S5 A hi mn x3 x4 (some r) x6)=_ from(aH s1).trans (bN ((bJ (dS (aW rfl rfl rfl))).trans rfl))];rfl
  | some y=>
   rw [e] at s1
   obtain⟨a,b⟩:=y
   have ha:=h1 _ e
   have ha':1<=a:=ha
   have s2:aX 1 (aL (aK gE (aA (aD 1) (aA (f2 bP (f2 dIx (aD 6) (fC (.int 0))) (fC (.int 1))) aC)))) (S5 A hi mn x3 x4 (some r) (some (toD (some (a,b)))))=some (.nx,S5 A (max hi a) mn x3 x4 (some r) (some (toD (some (a,b))))):=by
    refine dO (aZ (aG rfl (aG (aW (aW rfl rfl (hE _ _)) rfl rfl) rfl)) ?_)
    show some (D.int (if (a:Int)-1+1>(hi:Int) then(a:Int)-1+1 else(hi:Int)))=_
    congr 2
    by_cases c:hi<a
    ·rw [if_pos (by omega),Nat.max_eq_right (by omega)];omega
    ·rw [if_neg (by omega),Nat.max_eq_left (by omega)]
   have s3:aX 2 (aL (f2 bP (aD 2) (f2 dIx (aD 6) (fC (.int 1))))) (S5 A (max hi a) mn x3 x4 (some r) (some (toD (some (a,b)))))=some (.nx,S5 A (max hi a) (mn+b) x3 x4 (some r) (some (toD (some (a,b))))):=by
    refine dO (aW rfl (aW rfl rfl (hJ _ _ _)) ?_)
    show some (D.int ((mn:Int)+(b:Int)))=_
    congr 2
   rw [show mG GS (S5 A hi mn x3 x4 (some r) x6)=_ from(aH s1).trans ((aH (aU (dS (aW rfl rfl rfl)))).trans ((aH s2).trans s3))]
   rcases uK rs (max hi a) (mn+b) (some r) (some (toD (some (a,b)))) (fun r hr=>h r (List.mem_cons_of_mem _ hr)) with ⟨e2,q,q2⟩|⟨a2,b2,y5,y6,e2,q2⟩
   ·exact .inl ⟨by rw [e2];rfl,q,q2⟩
   ·refine .inr ⟨max a a2,b+b2,y5,y6,by rw [e2];rfl,?_⟩
    rw [<-Nat.max_assoc,<-Nat.add_assoc]
    exact q2
end
abbrev jU(GS:tz6):tz1:=
 aR (aX 4 (aL (aK gA (aA (aD 3) aC)))) (aR (fIf (aT (fB (f2 dIs (aD 4) (fC .non)))) (bI (aL (fC .non))) bK)
 (aR (aX 2 (aL (f2 bP (f2 bP (aD 2) (fC (.int 1))) (aK bU (aA (aD 4) aC))))) (qP 5 4 (mG GS))))
section
variable{GS:tz6}{f:D->Option (Nat×Nat)}{A:Option D}
theorem zI:∀(ps:List D) (hi mn:Nat) (x3 x4 x5 x6:Option D),bF ps=true->bD ps<=60->(∀r,okd r=true->dpt r+1<=bD ps->GS [r]=some (toD (f r))/\∀y,f r=some y->1<=y.1)->(∀r,hZ r=false->f r=none)->
  ((if (ps.all fun p=>(dD p).isSome)=true then snL f (eA ps) else none)=none/\∃q,cQ 3 (jU GS) ps (S5 A hi mn x3 x4 x5 x6)=some (.ret .non,q))\/
  ∃a b y3 y4 y5 y6,(if (ps.all fun p=>(dD p).isSome)=true then snL f (eA ps) else none)=some (a,b)/\cQ 3 (jU GS) ps (S5 A hi mn x3 x4 x5 x6)=some (.nx,S5 A (max hi a) (mn+(ps.length+(eA ps).length+b)) y3 y4 y5 y6)
 |[],hi,mn,x3,x4,x5,x6,_,_,_,_=> .inr ⟨0,0,x3,x4,x5,x6,rfl,by rw [Nat.max_zero];rfl⟩
 | p ::ps,hi,mn,x3,x4,x5,x6,ho,hd,hG,hT=>by
  rw [bF,Bool.and_eq_true] at ho
  rw [bD] at hd
  have hd1:dpt p<=60:=Nat.le_trans (Nat.le_max_left _ _) hd
  have hd2:bD ps<=60:=Nat.le_trans (Nat.le_max_right _ _) hd
  obtain⟨g1,g2⟩:=zh7 ho.1 hd1
  have lp:cQ 3 (jU GS) (p::ps) (S5 A hi mn x3 x4 x5 x6)=(jU GS (S5 A hi mn (some p) x4 x5 x6)).bind fun q=>match q with
   |(.nx,p)=>cQ 3 (jU GS) ps p
   |(.ct,p)=>cQ 3 (jU GS) ps p
   |(.bk,p)=>some (.nx,p)
   |(.ret d,p)=>some (.ret d,p):=rfl
  have st:∀d,gA [p]=some d->aX 4 (aL (aK gA (aA (aD 3) aC))) (S5 A hi mn (some p) x4 x5 x6)=some (.nx,S5 A hi mn (some p) (some d) x5 x6):=fun d e=>dO (aZ (aG rfl rfl) e)
  have run:∀rs,gA [p]=some (.lst true rs)->D.imms rs=true->jU GS (S5 A hi mn (some p) x4 x5 x6)=(cQ 5 (mG GS) rs (S5 A hi (mn+(1+rs.length)) (some p) (some (.lst true rs)) x5 x6)).bind fun r=>some (r.1,r.2.set 4 (some (.lst true rs))):=fun rs e hi'=>by
   have s2:aX 2 (aL (f2 bP (f2 bP (aD 2) (fC (.int 1))) (aK bU (aA (aD 4) aC)))) (S5 A hi mn (some p) (some (.lst true rs)) x5 x6)=some (.nx,S5 A hi (mn+(1+rs.length)) (some p) (some (.lst true rs)) x5 x6):=by
    refine dO (aW (aW rfl rfl rfl) (aZ (aG rfl rfl) rfl) ?_)
    show some (D.int ((mn:Int)+1+(rs.length:Int)))=_
    congr 2
    omega
   refine(aH (st _ e)).trans ((aH (aU (dS (aW rfl rfl rfl)))).trans ((aH s2).trans ?_))
   unfold qP
   show(iN (.lst true rs)).bind _=_
   rw [show iN (.lst true rs)=some rs from if_pos hi',Option.bind_some]
  rw [lp,List.all_cons,nI]
  cases e:dD p with
  | none=>
   refine .inl ⟨rfl,?_⟩
   rcases g2 e with q|⟨x,tx,ox,dx,q⟩
   ·refine⟨S5 A hi mn (some p) (some .non) x5 x6,?_⟩
    rw [show jU GS (S5 A hi mn (some p) x4 x5 x6)=_ from(aH (st _ q)).trans (bN ((bJ (dS (aW rfl rfl rfl))).trans rfl))];rfl
   ·have fx:=hT x tx
    rw [run [x] q (by rw [D.imms,dU x ox];rfl)]
    rcases uK (GS:=GS) (f:=f) (A:=A) (x3:=some p) (x4:=some (.lst true [x])) [x] hi (mn+(1+1)) x5 x6 (fun r hr=>by
     rw [List.mem_singleton] at hr
     subst hr
     exact hG r ox (by rw [bD];omega)) with ⟨_,q1,q2⟩|⟨a,b,y5,y6,e2,q2⟩
    ·exact⟨_,by rw [show([x]:List D).length=1 from rfl,q2];rfl⟩
    ·rw [snL,fx] at e2;cases e2
  | some rs=>
   obtain⟨o1,o2,o3⟩:=pV ho.1 e
   rw [run rs (g1 rs e) (dF rs o2),Option.isSome_some,Bool.true_and,Option.getD_some,rH]
   rcases uK (GS:=GS) (f:=f) (A:=A) (x3:=some p) (x4:=some (.lst true rs)) rs hi (mn+(1+rs.length)) x5 x6 (fun r hr=>hG r (fL o2 hr) (by have:=gT hr;rw [bD];omega)) with ⟨e2,q1,q2⟩|⟨a,b,y5,y6,e2,q2⟩
   ·refine .inl ⟨?_,_,by rw [q2];rfl⟩
    rw [e2]
    cases(ps.all fun p=>(dD p).isSome)<;>rfl
   ·rw [q2,e2,Option.bind_some]
    show((_=none)/\∃q,cQ 3 (jU GS) ps (S5 A (max hi a) (mn+(1+rs.length)+b) (some p) (some (.lst true rs)) y5 y6)=some (.ret .non,q))\/∃a2 b2 z3 z4 z5 z6,_=some (a2,b2)/\cQ 3 (jU GS) ps (S5 A (max hi a) (mn+(1+rs.length)+b) (some p) (some (.lst true rs)) y5 y6)=some (.nx,_)
    rcases zI ps (max hi a) (mn+(1+rs.length)+b) (some p) (some (.lst true rs)) y5 y6 ho.2 hd2 (fun r hr hdr=>hG r hr (by rw [bD];omega)) hT with ⟨e3,q3,q4⟩|⟨a2,b2,z3,z4,z5,z6,e3,q3⟩
    ·refine .inl ⟨?_,q3,q4⟩
     cases c:(ps.all fun p=>(dD p).isSome) with
     |true=>rw [c,if_pos rfl] at e3;rw [if_pos rfl,e3];rfl
     |false=>rfl
    ·refine .inr ⟨max a a2,b+b2,z3,z4,z5,z6,?_,?_⟩
     ·cases c:(ps.all fun p=>(dD p).isSome) with
      |true=>rw [c,if_pos rfl] at e3;rw [if_pos rfl,e3];rfl
      |false=>rw [c,if_neg (by decide)] at e3;cases e3
     ·rw [q3,<-Nat.max_assoc,List.length_cons,List.length_append]
      congr 2
      have:mn+(1+rs.length)+b+(ps.length+(eA ps).length+b2)=mn+(ps.length+1+(rs.length+(eA ps).length)+(b+b2)):=by omega
      rw [this]
end
def iK:Nat->tz6
 |0=>fun _=>none
 |n+1=>gP 1 6 (oV gA (iK n))
theorem zJ{n:Nat}{d:D}(h:hZ d=false):sn n d=none:=by
 cases n with
 |zero=>rfl
 |succ n=>
  rw [sn,if_neg]
  cases d<;>first|(exact(by decide:¬false=true))|cases h
theorem uL{n:Nat}{d:D}{y:Nat×Nat}(h:sn n d=some y):1<=y.1:=by
 cases n with
 |zero=>cases h
 |succ n=>
  rw [sn] at h
  obtain⟨_,h2⟩:=cB h
  obtain⟨x,_,e⟩:=Option.map_eq_some_iff.mp h2
  rw [<-e];exact Nat.le_add_left 1 _
theorem vW:∀(n:Nat) (d:D),dpt d<n->okd d=true->dpt d<=60->iK n [d]=some (toD (sn n d))
 |0,_,h,_,_=>absurd h (Nat.not_lt_zero _)
 | n +1,d,hn,ho,hd=>by
  have fin:∀q r,oV gA (iK n) [some d,none,none,none,none,none,none]=some (.ret r,q)->iK (n+1) [d]=some r:=fun q r e=>fN rfl e
  have ty:=(iX ho).1
  have tyt:cW (fT (rL 0 "tuple")) [some d,none,none,none,none,none,none]=some (!hZ d):=fG (fO (dH rfl ty))
  cases ht:hZ d with
  |false=>
   rw [ht] at tyt
   rw [zJ ht]
   exact fin _ _ (bN ((bJ tyt).trans rfl))
  | true=>
   rw [ht] at tyt
   cases d with
   | tup ps=>
    have ho':=ho
    rw [okd,Bool.and_eq_true] at ho'
    have hd':=hd
    have hn':=hn
    rw [dpt] at hd' hn'
    have s1:fIf (aT (cW (fT (rL 0 "tuple")))) (bI (aL (fC .non))) bK [some (.tup ps),none,none,none,none,none,none]=some (.nx,[some (.tup ps),none,none,none,none,none,none]):=aU tyt
    have s2:aX 1 (aL (fC (.int 0))) [some (.tup ps),none,none,none,none,none,none]=some (.nx,[some (.tup ps),some (.int 0),none,none,none,none,none]):=rfl
    have s3:aX 2 (aL (fC (.int 0))) [some (.tup ps),some (.int 0),none,none,none,none,none]=some (.nx,S5 (some (.tup ps)) 0 0 none none none none):=rfl
    have lp:dM 3 (cK (aD 0)) (jU (iK n)) (S5 (some (.tup ps)) 0 0 none none none none)=cQ 3 (jU (iK n)) ps (S5 (some (.tup ps)) 0 0 none none none none):=rfl
    have hsn:sn (n+1) (.tup ps)=((if (ps.all fun p=>(dD p).isSome)=true then snL (sn n) (eA ps) else none).map fun x=>(x.1+1,ps.length+(eA ps).length+x.2)):=by
     show(if (ps.all fun p=>(dD p).isSome)=true then(snL (sn n) (eA ps)).map _ else none)=_
     cases(ps.all fun p=>(dD p).isSome)<;>rfl
    rw [hsn]
    rcases zI (GS:=iK n) (f:=sn n) (A:=some (.tup ps)) ps 0 0 none none none none ho'.1 (by omega) (fun r hr hdr=>⟨vW n r (by omega) hr (by omega),fun y hy=>uL hy⟩) (fun r hr=>zJ hr) with ⟨e,q,q2⟩|⟨a,b,y3,y4,y5,y6,e,q2⟩
    ·rw [e]
     exact fin _ _ ((aH s1).trans ((aH s2).trans ((aH s3).trans (bN (lp.trans q2)))))
    ·rw [e,Option.map_some]
     refine fin _ _ ((aH s1).trans ((aH s2).trans ((aH s3).trans ((aH (lp.trans q2)).trans (bX ((hV (aG rfl (aG rfl rfl)) rfl (Nat.le_of_ble_eq_true rfl)).trans ?_))))))
     show some (D.tup [.int ((max 0 a:Nat):Int),.int ((0+(ps.length+(eA ps).length+b):Nat):Int)])=some (D.tup [.int (((a+1:Nat):Int)-1),.int ((ps.length+(eA ps).length+b:Nat):Int)])
     rw [Nat.zero_max,Nat.zero_add,show((a+1:Nat):Int)-1=(a:Int) by omega]
   |_=>cases ht
def cR(rs:List D):List D:=rs.flatMap jY
theorem nJ(r:D)(rs:List D):cR (r::rs)=jY r++cR rs:=by unfold cR;rw [List.flatMap_cons]
def gS(rs:List D):Nat:=(rs.map lC).sum
theorem qL(r:D)(rs:List D):gS (r::rs)=lC r+gS rs:=by unfold gS;rw [List.map_cons,List.sum_cons]
theorem uM(n:Nat):∀(rs:List D),rs≠[]->snL (sn (n+1)) rs=if rs.all iV=true then(snL (sn n) (cR rs)).map fun x=>(x.1+1,gS rs+(cR rs).length+x.2) else none
 |[],h=>absurd rfl h
 | r ::rs,_=>by
  rw [snL,sn,List.all_cons,nJ,qL,List.length_append,rH]
  cases c:iV r with
  |false=>rfl
  | true=>
   rw [if_pos rfl,Bool.true_and]
   cases e:snL (sn n) (jY r) with
   |none=>
    show none=_
    cases rs.all iV<;>rfl
   | some x=>
    rw [Option.map_some,Option.bind_some,Option.bind_some]
    cases rs with
    |nil=>
     show some (max (x.1+1) 0,lC r+(jY r).length+x.2+0)=some (max x.1 0+1,lC r+0+((jY r).length+0)+(x.2+0))
     congr 2
     ·omega
    | cons r2 rs=>
     rw [uM n (r2::rs) (by simp)]
     cases c2:(r2::rs).all iV with
     |false=>rfl
     | true=>
      rw [if_pos rfl]
      cases e2:snL (sn n) (cR (r2::rs)) with
      |none=>rfl
      |some y=>
       show some (max (x.1+1) (y.1+1),lC r+(jY r).length+x.2+(gS (r2::rs)+(cR (r2::rs)).length+y.2))=some (max x.1 y.1+1,lC r+gS (r2::rs)+((jY r).length+(cR (r2::rs)).length)+(x.2+y.2))
       congr 2
       ·omega
       ·omega
theorem vX{r:D}(h:okd r=true):bF (jY r)=true/\(∀k∈jY r,dpt k+2<=dpt r)/\(jY r).length<=4000:=by
 cases r with
 | tup ps=>
  rw [okd,Bool.and_eq_true,decide_eq_true_eq] at h
  have go:∀(qs:List D),bF qs=true->bF (eA qs)=true/\(∀k∈eA qs,dpt k+1<=bD qs)/\(eA qs).length<=4*qs.length:=fun qs=>by
   induction qs with
   |nil=>intro _;exact⟨rfl,fun k hk=>absurd hk (by simp [eA]),Nat.le_refl _⟩
   | cons q qs ih=>
    intro hq
    rw [bF,Bool.and_eq_true] at hq
    obtain⟨i1,i2,i3⟩:=ih hq.2
    rw [nI,bD,List.length_append,List.length_cons]
    cases e:dD q with
    |none=>
     refine⟨i1,fun k hk=> ?_,?_⟩
     ·have:=i2 k (by simpa using hk);omega
     ·show 0+_<=_;omega
    | some rs=>
     obtain⟨o1,o2,o3⟩:=pV hq.1 e
     rw [Option.getD_some]
     refine⟨gI fun d hd=> ?_,fun k hk=> ?_,by omega⟩
     ·rcases List.mem_append.mp hd with z|z
      ·exact fL o2 z
      ·exact fL i1 z
     ·rcases List.mem_append.mp hk with z|z
      ·have:=gT z;omega
      ·have:=i2 k z;omega
  obtain⟨g1,g2,g3⟩:=go ps h.1
  refine⟨g1,fun k hk=> ?_,?_⟩
  ·rw [dpt];have:=g2 k hk;omega
  ·show(eA ps).length<=4000;omega
 |_=>exact⟨rfl,fun k hk=>absurd hk (by simp [jY]),by simp [jY]⟩
theorem uN:∀(rs:List D),bF rs=true->bF (cR rs)=true/\(∀k∈cR rs,∃r∈rs,dpt k+2<=dpt r)/\(cR rs).length<=4000*rs.length
 |[],_=>⟨rfl,fun k hk=>absurd hk (by simp [cR]),Nat.le_refl _⟩
 | r::rs,h=>by
  rw [bF,Bool.and_eq_true] at h
  obtain⟨a1,a2,a3⟩:=vX h.1
  obtain⟨b1,b2,b3⟩:=uN rs h.2
  rw [nJ,List.length_append,List.length_cons]
  refine⟨gI fun d hd=> ?_,fun k hk=> ?_,by omega⟩
  ·rcases List.mem_append.mp hd with z|z
   ·exact fL a1 z
   ·exact fL b1 z
  ·rcases List.mem_append.mp hk with z|z
   ·exact⟨r,List.mem_cons_self,a2 k z⟩
   ·obtain⟨q,hq,e⟩:=b2 k z;exact⟨q,List.mem_cons_of_mem _ hq,e⟩
theorem sG(f:D->Bool):∀l:List D,D.bools (l.map fun d=>D.bl (f d))=some (l.map f)
 |[]=>rfl
 |c::l=>by
  show D.bools (.bl (f c)::l.map fun c=>D.bl (f c))=_
  rw [D.bools,sG f l];rfl
theorem sH{G:tz6}{f:D->D}:∀ds:List D,(∀d∈ds,G [d]=some (f d))->gH [none] fW (aK G (aA (aD 0) aC)) ds=some (ds.map f)
 |[],_=>rfl
 |d::ds,h=>by
  have ih:=sH ds fun x hx=>h x (List.mem_cons_of_mem _ hx)
  have st:gH [none] fW (aK G (aA (aD 0) aC)) (d::ds)=(aK G (aA (aD 0) aC) [some d]).bind fun r=>(gH [none] fW (aK G (aA (aD 0) aC)) ds).bind fun rs=>some (r::rs):=rfl
  rw [st,aZ (aG rfl rfl) (h d List.mem_cons_self),Option.bind_some,ih];rfl
theorem uO{G:tz6}{f:D->Bool}{fi:tz3}{p:PSt}{ds:List D}(hi:fi p=some ds)(hl:ds.length<=sizeLine)(h:∀d∈ds,G [d]=some (.bl (f d))):aK mD (aA (iF [none] fi fW (aK G (aA (aD 0) aC))) aC) p=some (.bl (ds.all f)):=by
 refine aZ (ds:=[.lst true (ds.map fun d=>D.bl (f d))]) (aG ?_ rfl) ?_
 ·unfold iF
  rw [hi,Option.bind_some,if_pos hl]
  show(gH [none] fW _ ds).bind _=_
  rw [sH (f:=fun d=>D.bl (f d)) ds h];rfl
 ·rw [mD,sG]
  show some (D.bl ((ds.map f).all id))=_
  rw [List.all_map];rfl
abbrev gRO:tz6:=gP 1 0 (iO gPO)
theorem zq0{d:D}(h:okd d=true)(hd:dpt d<=60):gRO [d]=some (.bl (iV d)):=by
 have fin:∀q r,iO gPO [some d]=some (.ret r,q)->gRO [d]=some r:=fun q r e=>fN rfl e
 have ty:=(iX h).1
 cases ht:hZ d with
 |false=>
  rw [ht] at ty
  have:iV d=false:=by cases d<;>first|rfl|cases ht
  rw [this]
  exact fin [some d] _ (bX (iZ (dH rfl ty)))
 | true=>
  rw [ht] at ty
  cases d with
  |tup ps=>
   rw [okd,Bool.and_eq_true,decide_eq_true_eq] at h
   rw [dpt] at hd
   refine fin [some (.tup ps)] _ (bX ((iY (dH rfl ty)).trans ?_))
   exact uO (f:=fun p=>(dD p).isSome) (fi:=cK (aD 0)) rfl (sz h.2) fun p hp=>zp8 (fL h.1 hp) (by have:=gT hp;omega)
  |_=>cases ht
theorem zm2{A x2 x3:Option D}{f:tz2}{xs ys:List D}(h:f [A,some (.lst true xs),x2,x3]=some (.lst true ys))(hi:D.imms ys=true)(hl:xs.length+ys.length<=sizeLine):cP (cE 1 bW (aA f aC) cO) [A,some (.lst true xs),x2,x3]=some (.nx,[A,some (.lst true (xs++ys)),x2,x3]):=by
 refine nH (d:= .non) ?_
 unfold cE
 show((some (.lst true xs):Option D).bind _)=_
 rw [Option.bind_some]
 show(some []).bind _=_
 rw [Option.bind_some,aG h (show aC _=some [] from rfl),Option.bind_some]
 show((cO [.lst true ys] (.lst true xs)).bind _)=_
 rw [show cO [.lst true ys] (.lst true xs)=some (.non,.lst true (xs++ys)) from if_pos ⟨hi,hl⟩];rfl
abbrev pY:tz1:=cP (cE 1 bW (aA (aK gIn (aA (aD 3) aC)) aC) cO)
theorem vY{A x2:Option D}:∀(ps acc:List D) (x3:Option D),bF ps=true->bD ps<=60->(ps.all fun p=>(dD p).isSome)=true->acc.length+4*ps.length<=sizeLine->∃y3,cQ 3 pY ps [A,some (.lst true acc),x2,x3]=some (.nx,[A,some (.lst true (acc++eA ps)),x2,y3])
 |[],acc,x3,_,_,_,_=>⟨x3,by rw [show eA []=[] from rfl,List.append_nil];rfl⟩
 |p::ps,acc,x3,ho,hd,ha,hl=>by
  rw [bF,Bool.and_eq_true] at ho
  rw [bD] at hd
  rw [List.all_cons,Bool.and_eq_true] at ha
  rw [List.length_cons] at hl
  obtain⟨rs,e⟩:=Option.isSome_iff_exists.mp ha.1
  obtain⟨o1,o2,o3⟩:=pV ho.1 e
  have s:pY [A,some (.lst true acc),x2,some p]=some (.nx,[A,some (.lst true (acc++rs)),x2,some p]):=zm2 (aZ (aG rfl rfl) (zp9 ho.1 (by omega) e)) (dF rs o2) (by omega)
  obtain⟨y3,q⟩:=vY ps (acc++rs) (some p) ho.2 (by omega) ha.2 (by rw [List.length_append];omega)
  refine⟨y3,?_⟩
  rw [nI,e,Option.getD_some,<-List.append_assoc,cQ]
  show((pY [A,some (.lst true acc),x2,some p]).bind _)=_
  rw [s];exact q
theorem uP{A:Option D}:∀(rs acc:List D) (x2 x3:Option D),bF rs=true->bD rs<=60->rs.all iV=true->acc.length+4000*rs.length<=sizeLine->∃y2 y3,cQ 2 (dM 3 (cK (bY (aD 2))) pY) rs [A,some (.lst true acc),x2,x3]=some (.nx,[A,some (.lst true (acc++cR rs)),y2,y3])
 |[],acc,x2,x3,_,_,_,_=>⟨x2,x3,by rw [show cR []=[] from rfl,List.append_nil];rfl⟩
 | r::rs,acc,x2,x3,ho,hd,ha,hl=>by
  rw [bF,Bool.and_eq_true] at ho
  rw [bD] at hd
  rw [List.all_cons,Bool.and_eq_true] at ha
  rw [List.length_cons] at hl
  cases r with
  | tup ps=>
   have ho1:=ho.1
   rw [okd,Bool.and_eq_true,decide_eq_true_eq] at ho1
   have hd1:bD ps<=60:=by rw [dpt] at hd;omega
   obtain⟨_,_,k3⟩:=vX ho.1
   obtain⟨y3,q⟩:=vY (A:=A) (x2:=some (.tup ps)) ps acc x3 ho1.1 hd1 ha.1 (by omega)
   have k3':(eA ps).length<=4000:=k3
   obtain⟨z2,z3,q2⟩:=uP (A:=A) rs (acc++eA ps) (some (.tup ps)) y3 ho.2 (by omega) ha.2 (by rw [List.length_append];omega)
   refine⟨z2,z3,?_⟩
   rw [nJ,show jY (.tup ps)=eA ps from rfl,<-List.append_assoc,cQ]
   have s:dM 3 (cK (bY (aD 2))) pY [A,some (.lst true acc),some (.tup ps),x3]=some (.nx,[A,some (.lst true (acc++eA ps)),some (.tup ps),y3]):=by
    unfold dM cK
    rw [fS (f:=aD 2) (d:= .tup ps) rfl (dU _ ho.1),Option.bind_some,show iN (.tup ps)=some ps from rfl,Option.bind_some]
    exact q
   show((dM 3 (cK (bY (aD 2))) pY [A,some (.lst true acc),some (.tup ps),x3]).bind _)=_
   rw [s];exact q2
  |_=>cases ha.1
abbrev vC:tz6:=gP 1 3 (mC gIn)
theorem zm3{rs:List D}(ho:bF rs=true)(hd:bD rs<=60)(ha:rs.all iV=true)(hl:rs.length<=1000):vC [.lst true rs]=some (.lst true (cR rs)):=by
 have hs:sizeLine=16777216:=sizeLine_eq
 obtain⟨y2,y3,q⟩:=uP (A:=some (.lst true rs)) rs [] none none ho hd ha (by show 0+_<=_;omega)
 have s1:dM 2 (cK (aD 0)) (dM 3 (cK (bY (aD 2))) pY) [some (.lst true rs),some (.lst true []),none,none]=some (.nx,[some (.lst true rs),some (.lst true (cR rs)),y2,y3]):=by
  unfold dM
  rw [show cK (aD 0) [some (.lst true rs),some (.lst true []),none,none]=some rs from if_pos (dF rs ho),Option.bind_some]
  exact q
 exact fN rfl ((aH (show aX 1 (aL (bA aC)) [some (.lst true rs),none,none,none]=some (.nx,[some (.lst true rs),some (.lst true []),none,none]) from rfl)).trans ((aH s1).trans rfl))
abbrev lvT:tz4:=eC (fB (f2 dGt (aD 2) (fC (.int 12)))) (fB (f2 dGt (aD 3) (fC (.int 200))))
abbrev alT:tz4:=cW (fT (aK mD (aA (iF [none] (cK (aD 1)) fW (aK gRO (aA (aD 0) aC))) aC)))
def lvB:tz1:=
 aR (fIf (aT lvT) (bI (aL (fC (.bl false)))) bK)
 (aR (fIf (aT alT) (bI (aL (fC (.bl false)))) bK)
 (aR (aX 4 (aL (aK vC (aA (aD 1) aC))))
 (aR (aX 3 (aL (f2 bP (f2 bP (aD 3) (aK oO (aA (iF [none] (cK (aD 1)) fW (aK bU (aA (aD 0) aC))) aC))) (aK bU (aA (aD 4) aC)))))
 (aR (aX 2 (aL (f2 bP (aD 2) (fC (.int 1))))) (aX 1 (fMv 4))))))
def bV(n:Nat)(rs:List D)(k c:Nat):Bool:=match snL (sn n) rs with
 |none=>false
 |some x=>decide (k+x.1<=13)&&decide (c+x.2<=200)
theorem zh8{n:Nat}:∀{rs:List D} {x:Nat×Nat},rs≠[]->snL (sn n) rs=some x->1<=x.1
 |[],_,h,_=>absurd rfl h
 |r::rs,x,_,h=>by
  rw [snL] at h
  obtain⟨a,h1,h2⟩:=bind_some h
  obtain⟨b,h3,h4⟩:=Option.map_eq_some_iff.mp h2
  have:=uL h1
  rw [<-h4]
  show 1<=max a.1 b.1
  omega
theorem uQ:∀(rs:List D),rs.all iV=true->gH [none] fW (aK bU (aA (aD 0) aC)) rs=some (rs.map fun r=> .int (lC r:Int))/\D.ints (rs.map fun r=> .int (lC r:Int))=some (rs.map fun r=>(lC r:Int))/\(rs.map fun r=>(lC r:Int)).sum=(gS rs:Int)
 |[],_=>⟨rfl,rfl,rfl⟩
 | r::rs,h=>by
  rw [List.all_cons,Bool.and_eq_true] at h
  obtain⟨a,b,c⟩:=uQ rs h.2
  cases r with
  | tup ps=>
   refine⟨?_,?_,?_⟩
   ·have st:gH [none] fW (aK bU (aA (aD 0) aC)) (.tup ps::rs)=(aK bU (aA (aD 0) aC) [some (.tup ps)]).bind fun r=>(gH [none] fW (aK bU (aA (aD 0) aC)) rs).bind fun rs=>some (r::rs):=rfl
    rw [st,a];rfl
   ·rw [List.map_cons,D.ints,b];rfl
   ·rw [List.map_cons,List.sum_cons,c,qL];omega
  |_=>cases h.1
abbrev L5(A:Option D)(rs:List D)(k c:Nat)(x4:Option D):PSt:=[A,some (.lst true rs),some (.int (k:Int)),some (.int (c:Int)),x4]
theorem zm4{A x4:Option D}{rs:List D}{k c:Nat}(ho:bF rs=true)(hd:bD rs<=60)(hl:rs.length<=1+c)(hk:k<=12)(hc:c<=200):
  (rs.all iV=false/\∃q,lvB (L5 A rs k c x4)=some (.ret (.bl false),q))\/(rs.all iV=true/\∃y4,lvB (L5 A rs k c x4)=some (.nx,L5 A (cR rs) (k+1) (c+(gS rs+(cR rs).length)) y4)):=by
 have hz:rs.length<=sizeLine:=sz (by omega)
 have s1:fIf (aT lvT) (bI (aL (fC (.bl false)))) bK (L5 A rs k c x4)=some (.nx,L5 A rs k c x4):=by
  have a1:fB (f2 dGt (aD 2) (fC (.int 12))) (L5 A rs k c x4)=some (decide ((12:Int)<(k:Int))):=dS (aW rfl rfl rfl)
  have a2:fB (f2 dGt (aD 3) (fC (.int 200))) (L5 A rs k c x4)=some (decide ((200:Int)<(c:Int))):=dS (aW rfl rfl rfl)
  rw [decide_eq_false (by omega)] at a1 a2
  exact aU (iR a1 a2)
 have sq:cK (aD 1) (L5 A rs k c x4)=some rs:=if_pos (dF rs ho)
 have al:=uO (G:=gRO) (f:=iV) (fi:=cK (aD 1)) (p:=L5 A rs k c x4) sq hz fun r hr=>zq0 (fL ho hr) (by have:=gT hr;omega)
 cases ca:rs.all iV with
 |false=>
  rw [ca] at al
  exact .inl ⟨rfl,_,(aH s1).trans (bN ((bJ (fG (fO al))).trans rfl))⟩
 | true=>
  rw [ca] at al
  refine .inr ⟨rfl,none,?_⟩
  obtain⟨w1,w2,w3⟩:=uQ rs ca
  have s3:aX 4 (aL (aK vC (aA (aD 1) aC))) (L5 A rs k c x4)=some (.nx,L5 A rs k c (some (.lst true (cR rs)))):=dO (aZ (aG rfl rfl) (zm3 ho hd ca (by omega)))
  have sm:aK oO (aA (iF [none] (cK (aD 1)) fW (aK bU (aA (aD 0) aC))) aC) (L5 A rs k c (some (.lst true (cR rs))))=some (.int (gS rs:Int)):=by
   refine aZ (ds:=[.lst true (rs.map fun r=> .int (lC r:Int))]) (aG ?_ rfl) ?_
   ·unfold iF
    rw [show cK (aD 1) (L5 A rs k c (some (.lst true (cR rs))))=some rs from if_pos (dF rs ho),Option.bind_some,if_pos hz]
    show(gH [none] fW _ rs).bind _=_
    rw [w1];rfl
   ·rw [oO,w2,<-w3];rfl
  have s4:aX 3 (aL (f2 bP (f2 bP (aD 3) (aK oO (aA (iF [none] (cK (aD 1)) fW (aK bU (aA (aD 0) aC))) aC))) (aK bU (aA (aD 4) aC)))) (L5 A rs k c (some (.lst true (cR rs))))=some (.nx,L5 A rs k (c+(gS rs+(cR rs).length)) (some (.lst true (cR rs)))):=by
   refine dO (aW (aW rfl sm rfl) (aZ (aG rfl rfl) rfl) ?_)
   show some (D.int ((c:Int)+(gS rs:Int)+((cR rs).length:Int)))=_
   congr 2
   omega
  have s5:aX 2 (aL (f2 bP (aD 2) (fC (.int 1)))) (L5 A rs k (c+(gS rs+(cR rs).length)) (some (.lst true (cR rs))))=some (.nx,L5 A rs (k+1) (c+(gS rs+(cR rs).length)) (some (.lst true (cR rs)))):=rfl
  exact(aH s1).trans ((aH (aU (fG (b:=true) (fO al)))).trans ((aH s3).trans ((aH s4).trans ((aH s5).trans rfl))))
theorem zK{A:Option D}:∀(n:Nat) (rs:List D) (k c m:Nat) (x4:Option D),bF rs=true->(∀r∈rs,dpt r<n)->bD rs<=60->rs.length<=1+c->k<=13->n<m->
  (bV n rs k c=false/\∃q,eN (aT (fT (aD 1))) lvB m (L5 A rs k c x4)=some (.ret (.bl false),q))\/
  ∃k' c' y4,eN (aT (fT (aD 1))) lvB m (L5 A rs k c x4)=some (.nx,L5 A [] k' c' y4)/\bV n rs k c=decide (c'<=200)
 |n,rs,k,c,0,x4,_,_,_,_,_,h=>absurd h (Nat.not_lt_zero _)
 |n,[],k,c,m+1,x4,_,_,_,_,hk,_=>by
  refine .inr ⟨k,c,x4,rfl,?_⟩
  show(decide (k+0<=13)&&decide (c+0<=200))=_
  rw [decide_eq_true (by omega)];rfl
 |0,r::rs,k,c,m+1,x4,_,hn,_,_,_,_=>absurd (hn r List.mem_cons_self) (Nat.not_lt_zero _)
 | n + 1,r::rs,k,c,m+1,x4,ho,hn,hd,hl,hk,hm=>by
  have lp:eN (aT (fT (aD 1))) lvB (m+1) (L5 A (r::rs) k c x4)=(lvB (L5 A (r::rs) k c x4)).bind fun q=>match q with
   |(.nx,p)=>eN (aT (fT (aD 1))) lvB m p
   |(.ct,p)=>eN (aT (fT (aD 1))) lvB m p
   |(.bk,p)=>some (.nx,p)
   |(.ret d,p)=>some (.ret d,p):=rfl
  rw [lp]
  have early:(12<k\/200<c)->lvB (L5 A (r::rs) k c x4)=some (.ret (.bl false),L5 A (r::rs) k c x4):=fun h=>by
   have a1:fB (f2 dGt (aD 2) (fC (.int 12))) (L5 A (r::rs) k c x4)=some (decide ((12:Int)<(k:Int))):=dS (aW rfl rfl rfl)
   have a2:fB (f2 dGt (aD 3) (fC (.int 200))) (L5 A (r::rs) k c x4)=some (decide ((200:Int)<(c:Int))):=dS (aW rfl rfl rfl)
   refine bN ((bJ ?_).trans rfl)
   by_cases h12:12<k
   ·rw [decide_eq_true (by omega)] at a1;exact pE a1
   ·rw [decide_eq_false (by omega)] at a1
    rw [decide_eq_true (by omega)] at a2
    exact iR a1 a2
  by_cases h12:12<k
  ·rw [early (.inl h12)]
   refine .inl ⟨?_,_,rfl⟩
   unfold bV
   cases e:snL (sn (n+1)) (r::rs) with
   |none=>rfl
   |some x=>
    have:=zh8 (by simp) e
    show(decide (k+x.1<=13)&&_)=false
    rw [decide_eq_false (by omega)];rfl
  ·by_cases h200:200<c
   ·rw [early (.inr h200)]
    refine .inl ⟨?_,_,rfl⟩
    unfold bV
    cases e:snL (sn (n+1)) (r::rs) with
    |none=>rfl
    |some x=>
     show(_&&decide (c+x.2<=200))=false
     rw [decide_eq_false (show ¬c+x.2<=200 by omega),Bool.and_false]
   ·have lev:=uM n (r::rs) (by simp)
    rcases zm4 (A:=A) (x4:=x4) ho hd hl (k:=k) (by omega) (by omega) with ⟨ca,q,e⟩|⟨ca,y4,e⟩
    ·rw [e]
     refine .inl ⟨?_,q,rfl⟩
     unfold bV
     rw [lev,ca];rfl
    ·rw [e]
     obtain⟨b1,b2,b3⟩:=uN (r::rs) ho
     have hb:bV (n+1) (r::rs) k c=bV n (cR (r::rs)) (k+1) (c+(gS (r::rs)+(cR (r::rs)).length)):=by
      unfold bV
      rw [lev,ca,if_pos rfl]
      cases e2:snL (sn n) (cR (r::rs)) with
      |none=>rfl
      |some x=>
       show(decide (k+(x.1+1)<=13)&&decide (c+(gS (r::rs)+(cR (r::rs)).length+x.2)<=200))=(decide (k+1+x.1<=13)&&decide (c+(gS (r::rs)+(cR (r::rs)).length)+x.2<=200))
       congr 1
       ·exact decide_eq_decide.mpr (by omega)
       ·exact decide_eq_decide.mpr (by omega)
     rw [hb]
     refine zK n (cR (r::rs)) (k+1) (c+(gS (r::rs)+(cR (r::rs)).length)) m y4 b1 (fun d hd'=> ?_) (kB fun d hd'=> ?_) (by omega) (by omega) (by omega)
     ·obtain⟨s,hs,e3⟩:=b2 d hd'
      have:=hn s hs;omega
     ·obtain⟨s,hs,e3⟩:=b2 d hd'
      have:=gT hs;omega
abbrev mV:tz6:=gP 1 4 (mF gRO vC)
def kS(n:Nat)(d:D):Bool:=match sn n d with
 |none=>false
 |some x=>decide (x.1<=13)&&decide (x.2<=200)
theorem zb5{n:Nat}{d:D}(ho:okd d=true)(hn:dpt d<n)(h60:dpt d<=60)(h4:n<400):mV [d]=some (.bl (kS n d)):=by
 have fin:∀q r,mF gRO vC [some d,none,none,none,none]=some (.ret r,q)->mV [d]=some r:=fun q r e=>fN rfl e
 have s1:aX 1 (aL (bA (aA (bY (aD 0)) aC))) [some d,none,none,none,none]=some (.nx,[some d,some (.lst true [d]),none,none,none]):=dO (hU (aG (fS rfl (dU d ho)) rfl) (Nat.le_of_ble_eq_true rfl))
 have s2:aX 2 (aL (fC (.int 0))) [some d,some (.lst true [d]),none,none,none]=some (.nx,[some d,some (.lst true [d]),some (.int 0),none,none]):=rfl
 have s3:aX 3 (aL (fC (.int 0))) [some d,some (.lst true [d]),some (.int 0),none,none]=some (.nx,L5 (some d) [d] 0 0 none):=rfl
 have hb:bV n [d] 0 0=kS n d:=by
  unfold bV kS
  rw [snL]
  cases sn n d with
  |none=>rfl
  |some x=>
   show(decide (0+max x.1 0<=13)&&decide (0+(x.2+0)<=200))=_
   rw [Nat.max_zero,Nat.zero_add,Nat.zero_add,Nat.add_zero]
 rcases zK (A:=some d) n [d] 0 0 400 none (by rw [bF,ho];rfl) (fun r hr=>by rw [List.mem_singleton.mp hr];exact hn) (by rw [bD,bD];omega) (by simp) (by decide) h4 with ⟨e,q,w⟩|⟨k',c',y4,w,e⟩
 ·rw [<-hb,e]
  exact fin _ _ ((aH s1).trans ((aH s2).trans ((aH s3).trans (bN w))))
 ·rw [<-hb,e]
  refine fin _ _ ((aH s1).trans ((aH s2).trans ((aH s3).trans ((aH w).trans (bX (aW rfl rfl ?_))))))
  show some (D.bl (decide ((c':Int)<=200)))=_
  congr 2
  exact decide_eq_decide.mpr (by omega)
theorem uR(m st:Int)(hs0:0<=st)(hs1:st<93):∀(l:List Int) (w:Str) (x0 x2 x5:Option D),(∀j∈l,0<=j/\j<100)->w.length+l.length<=100->w.cps.toList.all gO=true->
  ∃w' x5',cQ 5 (aX 4 (aL (f2 bP (aD 4) (f2 dIx (aD 1) (f2 bZ (f2 bP (f2 dG (aD 0) (fC (.int 12))) (f2 eG (aD 5) (aD 3))) (fC (.int 93))))))) (l.map .int) [some (.int m),some (.str sg),x2,some (.int st),some (.str w),x5]
   =some (.nx,[some (.int m),some (.str sg),x2,some (.int st),some (.str w'),x5'])/\w'.length=w.length+l.length/\w'.cps.toList.all gO=true
 |[],w,x0,x2,x5,_,_,hw=>⟨w,x5,by simp [gP,aR,bK,aX,jS,aL,fIf,aT,fB,f2,aD,fC,bY,bI,gL,jT,cP,cE,bW,dX,eH,aA,aC,bA,aQ,fKs,aK,dEq,dNe,eqB,dB,dIx,bU,cG,cO,fA,iJ,dM,cK,iN,jQ,gJ,fSl,D.imm,D.imms,eB,cN,bP,lA,fT,jN,fR,hE,hJ,kG,eD,eO,fD,eZ,dIn,inB,gU,D.flat,D.flats,inV,eqV,lB,kQ,kH,jR,dSl,cA,eC,cW,cV,dE,eG,gK,dLt,dLe,dGt,dGe,eW,gG,gN,gW,gF,gE,eP,eQ,kO,L2.fJ,cQ],rfl,hw⟩
 |j::l,w,x0,x2,x5,hj,hl,hw=>by
  rw [List.length_cons] at hl
  have hj0:=hj j List.mem_cons_self
  obtain⟨c,hc,hg⟩:=zp4 ((m/12+j*st) % 93) (Int.emod_nonneg _ (by decide)) (Int.emod_lt_of_pos _ (by decide))
  have hw1:(w++(⟨#[c]⟩:Str)).length=w.length+1:=by rw [sM];rfl
  obtain⟨w',x5',q1,q2,q3⟩:=uR m st hs0 hs1 l (w++⟨#[c]⟩) x0 x2 (some (.int j)) (fun i hi=>hj i (List.mem_cons_of_mem _ hi)) (by rw [hw1];omega) (by rw [sL,List.all_append,hw];simp [gP,aR,bK,aX,jS,aL,fIf,aT,fB,f2,aD,fC,bY,bI,gL,jT,cP,cE,bW,dX,eH,aA,aC,bA,aQ,fKs,aK,dEq,dNe,eqB,dB,dIx,bU,cG,cO,fA,iJ,dM,cK,iN,jQ,gJ,fSl,D.imm,D.imms,eB,cN,bP,lA,fT,jN,fR,hE,hJ,kG,eD,eO,fD,eZ,dIn,inB,gU,D.flat,D.flats,inV,eqV,lB,kQ,kH,jR,dSl,cA,eC,cW,cV,dE,eG,gK,dLt,dLe,dGt,dGe,eW,gG,gN,gW,gF,gE,eP,eQ,kO,L2.fJ,hg])
  refine⟨w',x5',?_,by rw [q2,hw1,List.length_cons];omega,q3⟩
  rw [<-q1]
  have hz:w.length+(⟨#[c]⟩:Str).length<=sizeLine:=sz (by show w.length+1<=1000;omega)
  have b1:(-18446744073709551616<j/\j<18446744073709551616):=by omega
  simp [gP,aR,bK,aX,jS,aL,fIf,aT,fB,f2,aD,fC,bY,bI,gL,jT,cP,cE,bW,dX,eH,aA,aC,bA,aQ,fKs,aK,dEq,dNe,eqB,dB,dIx,bU,cG,cO,fA,iJ,dM,cK,iN,jQ,gJ,fSl,D.imm,D.imms,eB,cN,bP,lA,fT,jN,fR,hE,hJ,kG,eD,eO,fD,eZ,dIn,inB,gU,D.flat,D.flats,inV,eqV,lB,kQ,kH,jR,dSl,cA,eC,cW,cV,dE,eG,gK,dLt,dLe,dGt,dGe,eW,gG,gN,gW,gF,gE,eP,eQ,kO,L2.fJ,cQ,hc,zg8,hz,b1]
abbrev sT:tz6:=gP 1 5 oR
theorem zh9{m:Int}(hm:0<=m):∃z,sT [.int m]=some (.str z)/\zN z:=by
 obtain⟨s,hs,h1,h2⟩:=zg9 m
 obtain⟨w,x5,q1,q2,q3⟩:=uR m (m/9000 % 93) (Int.emod_nonneg _ (by decide)) (Int.emod_lt_of_pos _ (by decide)) ((List.range s.toNat).map fun(k:Nat)=>(k:Int)) "" none (some (.int s)) none
  (fun j hj=>by obtain⟨k,hk,rfl⟩:=List.mem_map.mp hj;have:=List.mem_range.mp hk;omega) (by rw [List.length_map,List.length_range];show 0+_<=100;omega) (by decide+kernel)
 rw [<-zC] at q1
 rw [List.length_map,List.length_range] at q2
 have q2':w.length=s.toNat:=by rw [q2];show 0+_=_;omega
 refine⟨w,?_,by omega,by omega,q3⟩
 have hz:(Str.ofString "abcdefghijklmnopqrstuvwxyzABCDEFGHIJKLMNOPQRSTUVWXYZ0123456789").length+(Str.ofString "!\"#$&'()*+,-./:;<=>?\x40[\\]^_`{|}~").length<=sizeLine:=by decide+kernel
 have e1:Str.ofString "abcdefghijklmnopqrstuvwxyzABCDEFGHIJKLMNOPQRSTUVWXYZ0123456789"++Str.ofString "!\"#$&'()*+,-./:;<=>?\x40[\\]^_`{|}~"=sg:=rfl
 have b1:(-4611686018427387904<=s/\s<4611686018427387904):=by omega
 simp [gP,aR,bK,aX,jS,aL,fIf,aT,fB,f2,aD,fC,bY,bI,gL,jT,cP,cE,bW,dX,eH,aA,aC,bA,aQ,fKs,aK,dEq,dNe,eqB,dB,dIx,bU,cG,cO,fA,iJ,dM,cK,iN,jQ,gJ,fSl,D.imm,D.imms,eB,cN,bP,lA,fT,jN,fR,hE,hJ,kG,eD,eO,fD,eZ,dIn,inB,gU,D.flat,D.flats,inV,eqV,lB,kQ,kH,jR,dSl,cA,eC,cW,cV,dE,eG,gK,dLt,dLe,dGt,dGe,eW,gG,gN,gW,gF,gE,eP,eQ,kO,L2.fJ,oR,hz,e1,hs,q1,b1]
abbrev sU:tz6:=gP 1 1 (jD sT)
theorem zi0{m:Int}(hm:0<=m):∃l,sU [.int m]=some (kK l)/\zO l:=by
 have hd:0<=m/16:=Int.ediv_nonneg hm (by decide)
 by_cases c1:m % 16<8
 ·obtain⟨z,q,hz⟩:=zh9 hd
  refine⟨.word z,?_,hz⟩
  show gP 1 1 (jD sT) _=_
  generalize sT=G at q
  simp [gP,aR,bK,aX,jS,aL,fIf,aT,fB,f2,aD,fC,bY,bI,gL,jT,cP,cE,bW,dX,eH,aA,aC,bA,aQ,fKs,aK,dEq,dNe,eqB,dB,dIx,bU,cG,cO,fA,iJ,dM,cK,iN,jQ,gJ,fSl,D.imm,D.imms,eB,cN,bP,lA,fT,jN,fR,hE,hJ,kG,eD,eO,fD,eZ,dIn,inB,gU,D.flat,D.flats,inV,eqV,lB,kQ,kH,jR,dSl,cA,eC,cW,cV,dE,eG,gK,dLt,dLe,dGt,dGe,eW,gG,gN,gW,gF,gE,eP,eQ,kO,L2.fJ,jD,c1,q,kK]
 ·by_cases c2:m % 16<13
  ·obtain⟨x,q,hx⟩:=zl7 (m/16)
   exact⟨.gap x,by simp [gP,aR,bK,aX,jS,aL,fIf,aT,fB,f2,aD,fC,bY,bI,gL,jT,cP,cE,bW,dX,eH,aA,aC,bA,aQ,fKs,aK,dEq,dNe,eqB,dB,dIx,bU,cG,cO,fA,iJ,dM,cK,iN,jQ,gJ,fSl,D.imm,D.imms,eB,cN,bP,lA,fT,jN,fR,hE,hJ,kG,eD,eO,fD,eZ,dIn,inB,gU,D.flat,D.flats,inV,eqV,lB,kQ,kH,jR,dSl,cA,eC,cW,cV,dE,eG,gK,dLt,dLe,dGt,dGe,eW,gG,gN,gW,gF,gE,eP,eQ,kO,L2.fJ,jD,c1,c2,q,kK],hx⟩
  ·by_cases c3:m % 16=13
   ·exact⟨.fin,by simp [gP,aR,bK,aX,jS,aL,fIf,aT,fB,f2,aD,fC,bY,bI,gL,jT,cP,cE,bW,dX,eH,aA,aC,bA,aQ,fKs,aK,dEq,dNe,eqB,dB,dIx,bU,cG,cO,fA,iJ,dM,cK,iN,jQ,gJ,fSl,D.imm,D.imms,eB,cN,bP,lA,fT,jN,fR,hE,hJ,kG,eD,eO,fD,eZ,dIn,inB,gU,D.flat,D.flats,inV,eqV,lB,kQ,kH,jR,dSl,cA,eC,cW,cV,dE,eG,gK,dLt,dLe,dGt,dGe,eW,gG,gN,gW,gF,gE,eP,eQ,kO,L2.fJ,jD,c1,c2,c3,kK],trivial⟩
   ·have ha:=Int.emod_nonneg (m/16/2) (show(10:Int)≠0 by decide)
    have hb:=Int.emod_lt_of_pos (m/16/2) (show(0:Int)<10 by decide)
    have hc:=Int.emod_nonneg (m/16/2) (show(41:Int)≠0 by decide)
    have hd:=Int.emod_lt_of_pos (m/16/2) (show(0:Int)<41 by decide)
    obtain⟨c,q,h1,h2⟩:=zh0 (m/16/2 % 10) (m/16/2 % 41) (m/16) (by omega) (by omega)
    exact⟨.stop c,by simp [gP,aR,bK,aX,jS,aL,fIf,aT,fB,f2,aD,fC,bY,bI,gL,jT,cP,cE,bW,dX,eH,aA,aC,bA,aQ,fKs,aK,dEq,dNe,eqB,dB,dIx,bU,cG,cO,fA,iJ,dM,cK,iN,jQ,gJ,fSl,D.imm,D.imms,eB,cN,bP,lA,fT,jN,fR,hE,hJ,kG,eD,eO,fD,eZ,dIn,inB,gU,D.flat,D.flats,inV,eqV,lB,kQ,kH,jR,dSl,cA,eC,cW,cV,dE,eG,gK,dLt,dLe,dGt,dGe,eW,gG,gN,gW,gF,gE,eP,eQ,kO,L2.fJ,jD,c1,c2,c3,q,kK],h1,h2⟩
theorem zb6{l:Leaf}(h:zO l):okd (kK l)=true/\dpt (kK l)<=1:=by
 have kd:∀(z:String),(z:Str).cps.toList.all (fun c=>decide (32<=c)&&decide (c<=126))=true->(z:Str).length<=100->okd (.str z)=true:=fun z h1 h2=>by rw [okd,h1,decide_eq_true h2];rfl
 cases l with
 | word x=>
  refine⟨?_,by simp [gP,aR,bK,aX,jS,aL,fIf,aT,fB,f2,aD,fC,bY,bI,gL,jT,cP,cE,bW,dX,eH,aA,aC,bA,aQ,fKs,aK,dEq,dNe,eqB,dB,dIx,bU,cG,cO,fA,iJ,dM,cK,iN,jQ,gJ,fSl,D.imm,D.imms,eB,cN,bP,lA,fT,jN,fR,hE,hJ,kG,eD,eO,fD,eZ,dIn,inB,gU,D.flat,D.flats,inV,eqV,lB,kQ,kH,jR,dSl,cA,eC,cW,cV,dE,eG,gK,dLt,dLe,dGt,dGe,eW,gG,gN,gW,gF,gE,eP,eQ,kO,L2.fJ,kK,dpt,bD]⟩
  have hx:okd (.str x)=true:=by
   rw [okd,decide_eq_true (show x.length<=100 by have:=h.2.1;omega),Bool.and_true,List.all_eq_true]
   intro c hc
   have:=List.all_eq_true.mp h.2.2 c hc
   simp only [gO,Bool.and_eq_true,decide_eq_true_eq] at this
   rw [decide_eq_true (show 32<=c by omega),decide_eq_true this.2];rfl
  show okd (.tup [.str "word",.str x])=true
  rw [okd,bF,bF,bF,kd "word" (by decide+kernel) (by decide+kernel),hx];rfl
 | gap x=>
  refine⟨?_,by simp [gP,aR,bK,aX,jS,aL,fIf,aT,fB,f2,aD,fC,bY,bI,gL,jT,cP,cE,bW,dX,eH,aA,aC,bA,aQ,fKs,aK,dEq,dNe,eqB,dB,dIx,bU,cG,cO,fA,iJ,dM,cK,iN,jQ,gJ,fSl,D.imm,D.imms,eB,cN,bP,lA,fT,jN,fR,hE,hJ,kG,eD,eO,fD,eZ,dIn,inB,gU,D.flat,D.flats,inV,eqV,lB,kQ,kH,jR,dSl,cA,eC,cW,cV,dE,eG,gK,dLt,dLe,dGt,dGe,eW,gG,gN,gW,gF,gE,eP,eQ,kO,L2.fJ,kK,dpt,bD]⟩
  have hx:okd (.str x)=true:=by
   rcases h with rfl|rfl
   ·exact kd "" (by decide+kernel) (by decide+kernel)
   ·exact kd " " (by decide+kernel) (by decide+kernel)
  show okd (.tup [.str "gap",.str x])=true
  rw [okd,bF,bF,bF,kd "gap" (by decide+kernel) (by decide+kernel),hx];rfl
 |stop c=>
  refine⟨?_,by simp [gP,aR,bK,aX,jS,aL,fIf,aT,fB,f2,aD,fC,bY,bI,gL,jT,cP,cE,bW,dX,eH,aA,aC,bA,aQ,fKs,aK,dEq,dNe,eqB,dB,dIx,bU,cG,cO,fA,iJ,dM,cK,iN,jQ,gJ,fSl,D.imm,D.imms,eB,cN,bP,lA,fT,jN,fR,hE,hJ,kG,eD,eO,fD,eZ,dIn,inB,gU,D.flat,D.flats,inV,eqV,lB,kQ,kH,jR,dSl,cA,eC,cW,cV,dE,eG,gK,dLt,dLe,dGt,dGe,eW,gG,gN,gW,gF,gE,eP,eQ,kO,L2.fJ,kK,dpt,bD]⟩
  show okd (.tup [.str "stop",.int c])=true
  rw [okd,bF,bF,bF,kd "stop" (by decide+kernel) (by decide+kernel)];rfl
 |fin=>exact⟨by decide+kernel,by simp [gP,aR,bK,aX,jS,aL,fIf,aT,fB,f2,aD,fC,bY,bI,gL,jT,cP,cE,bW,dX,eH,aA,aC,bA,aQ,fKs,aK,dEq,dNe,eqB,dB,dIx,bU,cG,cO,fA,iJ,dM,cK,iN,jQ,gJ,fSl,D.imm,D.imms,eB,cN,bP,lA,fT,jN,fR,hE,hJ,kG,eD,eO,fD,eZ,dIn,inB,gU,D.flat,D.flats,inV,eqV,lB,kQ,kH,jR,dSl,cA,eC,cW,cV,dE,eG,gK,dLt,dLe,dGt,dGe,eW,gG,gN,gW,gF,gE,eP,eQ,kO,L2.fJ,kK,dpt,bD]⟩
def pL:List D:=[.tup [.str "word",.str ""],.tup [.str "word",.str "a b"],.tup [.str "word",.str "thirteensigns"],.tup [.str "word",.int 7],.tup [.str "word"],.tup [.str "gap",.str "  "],.tup [.str "gap"],.tup [.str "gap",.non],.tup [.str "end",.int 1],.tup [.str "stop",.int 41],.tup [.str "stop",.int (-1)],.tup [.str "stop",.bl true],.tup [.str "stop",.str "3"],.tup [.str "stop"],.tup [.str "hang",.int 13,.tup []],.tup [.str "hang",.int (-1),.tup []],.tup [.str "hang",.int 2],.tup [.str "hang",.tup [],.int 2],.tup [.str "hang",.bl false,.tup []],.tup [.str "group"],.tup [.str "group",.lst false []],.tup [.str "group",.tup [.str "end"]],.tup [.str "either",.tup [.tup []]],.tup [.str "either",.tup [.tup [],.tup [],.tup [],.tup [],.tup []]],.tup [.str "end",.str ""],.tup [.str "either",.lst false [.tup [],.tup []]],.tup [.str "either",.tup [.tup [],.int 5]],.tup [.str "either",.tup [.tup [],.tup [],.tup []],.int 2],.tup [],.str "word",.non,.lst false [.str "end"],.tup [.str "row",.tup []],.int 7,.tup [.tup [.str "end"]],.tup [.str "group",.tup [],.tup []],.tup [.str "End"],.tup [.str "stop",.int 0],.tup [.str "hang",.int 0,.tup []],.tup [.str "stop",.int 40],.tup [.lst false [.str "word"],.str "a"],.tup [.lst false [],.int 1],.tup [.str "gap",.lst false []],.tup [.str "stop",.lst false [.int 3]],.tup [.tup [.str "word"],.str "a"],.tup [.str "hang",.lst false [.int 1],.tup []],.tup [.str "either",.tup [.tup [],.tup [.tup [.str "stop",.int 41]]]],.tup [.str "either",.lst false [],.tup []],.tup [.lst false [.str "end"]],.tup [.str "word",.lst false []],.tup [.lst false [],.tup []]]
theorem zi1:pL.all (fun d=>okd d&&decide (dpt d<=7))=true:=by decide+kernel
theorem uS:pL.length=51:=by decide+kernel
abbrev xI:tz6:=gP 1 1 pW
theorem zm5(m:Int):pW [some (.int m),none]=bI (aL (bY (f2 dIx (aD 1) (f2 bZ (aD 0) (aK bU (aA (aD 1) aC)))))) [some (.int m),some (.lst true pL)]:=by rfl
theorem zm6(m:Int):∃d,xI [.int m]=some d/\okd d=true/\dpt d<=7:=by
 have h0:=Int.emod_nonneg m (show(51:Int)≠0 by decide)
 have h1:=Int.emod_lt_of_pos m (show(0:Int)<51 by decide)
 obtain⟨d,hd,e⟩:=kA pL (m % 51) h0 (by rw [uS];exact h1)
 have o:=List.all_eq_true.mp zi1 d hd
 rw [Bool.and_eq_true,decide_eq_true_eq] at o
 refine⟨d,fN rfl ((zm5 m).trans (bX (fS (aW (x:= .lst true pL) (y:= .int (m % 51)) rfl (aW rfl (aZ (d:= .int 51) (aG rfl rfl) ?_) ((cV _ _).trans (if_pos (by decide)))) e) (dU d o.1)))),o.1,o.2⟩
 show some (D.int (pL.length:Int))=_
 rw [uS];rfl
def frD(fs:List (List D)):List D:=fs.map fun l=> .lst true l
theorem iE(fs:List (List D))(l:List D):frD (fs++[l])=frD fs++[.lst true l]:=by simp [frD]
theorem pG(fs:List (List D)):(frD fs).length=fs.length:=by simp [frD]
theorem zm7{j:Nat}{g:tz3}{h:List D->D->Option (D×D)}{p:PSt}{d r d':D}{ys:List D}(hp:p[j]? =some (some d))(hg:g p=some ys)(hh:h ys d=some (r,d')):cE j bW g h p=some (r,p.set j (some d')):=by
 unfold cE
 rw [hp,Option.join_some,Option.bind_some]
 show(some []).bind _=_
 rw [Option.bind_some,hg,Option.bind_some]
 show((h ys d).bind _)=_
 rw [hh];rfl
theorem zm8{j:Nat}{f:tz2}{p:PSt}{xs:List D}{y:D}(hp:p[j]? =some (some (.lst true xs)))(hf:f p=some y)(hl:xs.length<=900):cP (cE j bW (aA f aC) cG) p=some (.nx,p.set j (some (.lst true (xs++[y])))):=
 nH (zm7 hp (aG hf rfl) (if_pos (sz1 (by omega))))
theorem zb7{j:Nat}{p:PSt}{xs:List D}{y:D}(hp:p[j]? =some (some (.lst true (xs++[y])))):cE j bW aC fA p=some (y,p.set j (some (.lst true xs))):=by
 refine zm7 hp rfl ?_
 show(((xs++[y])[(xs++[y]).length-1]?).bind _)=_
 rw [show(xs++[y]).length-1=xs.length by simp,show(xs++[y])[xs.length]? =some y by simp,Option.bind_some,List.dropLast_concat]
theorem zm9{j:Nat}{f:tz2}{p:PSt}{xs fr:List D}{y:D}(hp:p[j]? =some (some (.lst true (xs++[.lst true fr]))))(hf:f p=some y)(hl:fr.length<=900):cP (cE j (eD j bW (eZ (fC (.int 1)))) (aA f aC) cG) p=some (.nx,p.set j (some (.lst true (xs++[.lst true (fr++[y])])))):=by
 have e1:ixN (xs++[D.lst true fr]).length (-1)=some xs.length:=by rw [List.length_append,List.length_singleton,eP]
 have ep:eD j bW (eZ (fC (.int 1))) p=some [.ix xs.length]:=by
  unfold eD
  show(some []).bind _=_
  rw [Option.bind_some,hp,Option.join_some,Option.bind_some,eH,Option.bind_some]
  show(some (D.int (-1))).bind _=_
  rw [Option.bind_some]
  show((ixN (xs++[D.lst true fr]).length (-1)).bind _)=_
  rw [e1];rfl
 refine nH (d:= .non) ?_
 unfold cE
 rw [hp,Option.join_some,Option.bind_some,ep,Option.bind_some,aG hf (show aC p=some [] from rfl),Option.bind_some]
 rw [dX,show(xs++[D.lst true fr])[xs.length]? =some (.lst true fr) by simp,Option.bind_some,dX]
 rw [show cG [y] (.lst true fr)=some (.non,.lst true (fr++[y])) from if_pos (sz1 (by omega)),Option.bind_some,Option.bind_some,eQ]
theorem zs3{j:Nat}{f:tz2}{p:PSt}{xs fr ys:List D}(hp:p[j]? =some (some (.lst true (.lst true fr::xs))))(hf:f p=some (.lst true ys))(hi:D.imms ys=true)(hl:fr.length+ys.length<=900):cP (cE j (eD j bW (fC (.int 0))) (aA f aC) cO) p=some (.nx,p.set j (some (.lst true (.lst true (fr++ys)::xs)))):=by
 have ep:eD j bW (fC (.int 0)) p=some [.ix 0]:=by
  unfold eD
  show(some []).bind _=_
  rw [Option.bind_some,hp,Option.join_some,Option.bind_some,eH,Option.bind_some]
  show(some (D.int 0)).bind _=_
  rw [Option.bind_some]
  show((ixN (D.lst true fr::xs).length 0).bind _)=_
  rw [List.length_cons,kO];rfl
 refine nH (d:= .non) ?_
 unfold cE
 rw [hp,Option.join_some,Option.bind_some,ep,Option.bind_some,aG hf (show aC p=some [] from rfl),Option.bind_some]
 rw [dX,show(D.lst true fr::xs)[0]? =some (.lst true fr) from rfl,Option.bind_some,dX]
 rw [show cO [.lst true ys] (.lst true fr)=some (.non,.lst true (fr++ys)) from if_pos ⟨hi,by have:=sz (n:=fr.length+ys.length) (by omega);exact this⟩,Option.bind_some,Option.bind_some];rfl
def lV(h:List D):Prop:=h=[.str "group"]\/(∃n:Int,h=[.str "hang",.int n])\/h=[.str "either"]
structure FInv(fs hs:List (List D))(c:Nat):Prop where
 len:fs.length=hs.length+1
 few:hs.length<=4
 ok:∀i fr,fs[i]? =some fr->bF fr=true/\bD fr+3*i<=19
 short:∀fr∈fs,fr.length<=c
 heads:∀h∈hs,lV h
abbrev stF(S:D)(a m o:Option D)(fs hs:List (List D))(x6 x7 x8 x9 x10:Option D):PSt:=[some S,a,m,o,some (.lst true (frD fs)),some (.lst true (frD hs)),x6,x7,x8,x9,x10]
theorem FInv.last{fs hs:List (List D)}{c:Nat}(h:FInv fs hs c):∃gs fr,fs=gs++[fr]:=by
 have:fs≠[]:=fun e=>by have:=h.len;rw [e] at this;simp at this
 exact⟨fs.dropLast,fs.getLast this,(List.dropLast_concat_getLast this).symm⟩
theorem FInv.put{gs hs:List (List D)}{fr:List D}{c:Nat}{y:D}(h:FInv (gs++[fr]) hs c)(h1:okd y=true)(h2:dpt y+3*gs.length<=19):FInv (gs++[fr++[y]]) hs (c+1):=by
 refine⟨?_,h.few,fun i f e=> ?_,fun f hf=> ?_,h.heads⟩
 ·have:=h.len;simp at this|-;exact this
 ·by_cases hi:i<gs.length
  ·rw [List.getElem?_append_left hi] at e
   exact h.ok i f (by rw [List.getElem?_append_left hi];exact e)
  ·have hi':i=gs.length:=by
    have:=(List.getElem?_eq_some_iff.mp e).1
    simp at this;omega
   subst hi'
   have e2:f=fr++[y]:=by simpa using e.symm
   obtain⟨o1,o2⟩:=h.ok gs.length fr (by simp)
   subst e2
   refine⟨gI fun d hd=> ?_,?_⟩
   ·rcases List.mem_append.mp hd with z|z
    ·exact fL o1 z
    ·rw [List.mem_singleton.mp z];exact h1
   ·have:bD (fr++[y])<=max (bD fr) (dpt y):=kB fun d hd=>by
     rcases List.mem_append.mp hd with z|z
     ·exact Nat.le_trans (gT z) (Nat.le_max_left _ _)
     ·rw [List.mem_singleton.mp z];exact Nat.le_max_right _ _
    omega
 ·rcases List.mem_append.mp hf with z|z
  ·have:=h.short f (List.mem_append_left _ z);omega
  ·rw [List.mem_singleton.mp z,List.length_append,List.length_singleton]
   have:=h.short fr (by simp);omega
theorem FInv.mono{fs hs:List (List D)}{c c':Nat}(h:FInv fs hs c)(hc:c<=c'):FInv fs hs c':=⟨h.len,h.few,h.ok,fun f hf=>Nat.le_trans (h.short f hf) hc,h.heads⟩
theorem FInv.opn{fs hs:List (List D)}{g:List D}{c:Nat}(h:FInv fs hs c)(hg:lV g)(hl:hs.length<4):FInv (fs++[[]]) (hs++[g]) c:=by
 refine⟨by simp [h.len],by simp;omega,fun i f e=> ?_,fun f hf=> ?_,fun f hf=> ?_⟩
 ·by_cases hi:i<fs.length
  ·rw [List.getElem?_append_left hi] at e
   exact h.ok i f e
  ·have hi':i=fs.length:=by
    have:=(List.getElem?_eq_some_iff.mp e).1
    simp at this;omega
   subst hi'
   have e2:f=[]:=by simpa using e.symm
   subst e2
   have:=h.len
   exact⟨rfl,by rw [bD];omega⟩
 ·rcases List.mem_append.mp hf with z|z
  ·exact h.short f z
  ·rw [List.mem_singleton.mp z];exact Nat.zero_le _
 ·rcases List.mem_append.mp hf with z|z
  ·exact h.heads f z
  ·rw [List.mem_singleton.mp z];exact hg
theorem FInv.pop{gs hs:List (List D)}{fr g:List D}{c:Nat}(h:FInv (gs++[fr]) (hs++[g]) c):FInv gs hs c/\bF fr=true/\bD fr+3*gs.length<=19/\fr.length<=c/\lV g:=by
 obtain⟨o1,o2⟩:=h.ok gs.length fr (by simp)
 refine⟨⟨by have:=h.len;simp at this;exact this,by have:=h.few;simp at this;omega,fun i f e=> ?_,fun f hf=>h.short f (List.mem_append_left _ hf),fun f hf=>h.heads f (List.mem_append_left _ hf)⟩,o1,o2,h.short fr (by simp),h.heads g (by simp)⟩
 refine h.ok i f ?_
 have hi:=(List.getElem?_eq_some_iff.mp e).1
 rw [List.getElem?_append_left hi];exact e
abbrev n8:tz2:=f2 bZ (aD 7) (fC (.int 8))
abbrev q8:tz2:=f2 dG (aD 7) (fC (.int 8))
abbrev opB:tz1:=aR (cP (cE 5 bW (aA (f2 dIx (bA (aA (bA (aA (fC (.str "group")) aC)) (aA (bA (aA (fC (.str "hang")) (aA (f2 bZ q8 (fC (.int 13))) aC))) (aA (bA (aA (fC (.str "either")) aC)) aC)))) (f2 bZ (f2 dG (aD 7) (fC (.int 104))) (fC (.int 3)))) aC) cG))
 (cP (cE 4 bW (aA (bA aC) aC) cG))
abbrev eiB:tz1:=fIf (aT (fB (f2 dEq (f2 dIx (aD 9) (fC (.int 0))) (fC (.str "either")))))
   (aR (aX 10 (aL (f2 eG (bA (aA (aQ aC) aC)) (f2 bP (fC (.int 2)) (f2 bZ q8 (fC (.int 3)))))))
 (aR (eO 10 bW (f2 bZ (f2 dG (aD 7) (fC (.int 24))) (aK bU (aA (aD 10) aC))) (bY (aD 8)))
 (aX 8 (aL (aK cN (aA (aD 10) aC))))))
  bK
abbrev clB:tz1:=aR (aX 8 (jP cN (cE 4 bW aC fA)))
 (aR (aX 9 (cE 5 bW aC fA))
 (aR eiB
 (cP (cE 4 (eD 4 bW (eZ (fC (.int 1)))) (aA (f2 bP (aK cN (aA (aD 9) aC)) (aQ (aA (bY (aD 8)) aC))) aC) cG))))
def shB(GM:tz6):tz1:=
 aR (aX 7 (aL (aK GM (aA (aD 0) (aA (aD 6) (aA (fC (.int 31)) aC))))))
 (fIf (aT (cA (fB (f2 dLt n8 (fC (.int 2)))) (fB (f2 dLt (aK bU (aA (aD 5) aC)) (fC (.int 4)))))) opB
 (fIf (aT (cA (fB (f2 dEq n8 (fC (.int 2)))) (fB (f2 dGt (aK bU (aA (aD 5) aC)) (fC (.int 0)))))) clB
 (fIf (aT (cA (fB (f2 dGt (aD 3) (fC (.int 0)))) (fB (f2 dEq (f2 bZ q8 (fC (.int 6))) (fC (.int 1))))))
  (cP (cE 4 (eD 4 bW (eZ (fC (.int 1)))) (aA (aK xI (aA (f2 dG (aD 7) (fC (.int 48))) aC)) aC) cG))
  (cP (cE 4 (eD 4 bW (eZ (fC (.int 1)))) (aA (aK sU (aA (aK GM (aA (aD 0) (aA (aD 6) (aA (fC (.int 32)) aC)))) aC)) aC) cG)))))
section
variable{GM:tz6}{S:D}{a m o x6 x8 x9 x10:Option D}{fs hs:List (List D)}{c:Nat}{num:Int}
theorem zq1(h:FInv fs hs c)(hl:hs.length<4)(hc:c<=800):∃g,lV g/\opB (stF S a m o fs hs x6 (some (.int num)) x8 x9 x10)=some (.nx,stF S a m o (fs++[[]]) (hs++[g]) x6 (some (.int num)) x8 x9 x10):=by
 have h0:=Int.emod_nonneg (num/104) (show(3:Int)≠0 by decide)
 have h1:=Int.emod_lt_of_pos (num/104) (show(0:Int)<3 by decide)
 obtain⟨d,hd,e⟩:=kA [D.lst true [.str "group"],.lst true [.str "hang",.int (num/8 % 13)],.lst true [.str "either"]] (num/104 % 3) h0 (by simpa using h1)
 obtain⟨g,rfl,hg⟩:∃g,d= .lst true g/\lV g:=by
  simp only [List.mem_cons,List.not_mem_nil,or_false] at hd
  rcases hd with rfl|rfl|rfl
  ·exact⟨_,rfl,.inl rfl⟩
  ·exact⟨_,rfl,.inr (.inl ⟨_,rfl⟩)⟩
  ·exact⟨_,rfl,.inr (.inr rfl)⟩
 refine⟨g,hg,?_⟩
 have v:f2 bZ q8 (fC (.int 13)) (stF S a m o fs hs x6 (some (.int num)) x8 x9 x10)=some (.int (num/8 % 13)):=aW (aW rfl rfl ((dE _ _).trans (if_pos (by decide)))) rfl ((cV _ _).trans (if_pos (by decide)))
 have s1:=zm8 (j:=5) (p:=stF S a m o fs hs x6 (some (.int num)) x8 x9 x10) (f:=f2 dIx (bA (aA (bA (aA (fC (.str "group")) aC)) (aA (bA (aA (fC (.str "hang")) (aA (f2 bZ q8 (fC (.int 13))) aC))) (aA (bA (aA (fC (.str "either")) aC)) aC)))) (f2 bZ (f2 dG (aD 7) (fC (.int 104))) (fC (.int 3)))) (xs:=frD hs) (y:= .lst true g) rfl
  (aW (hU (aG rfl (aG (hU (aG rfl (aG v rfl)) (Nat.le_of_ble_eq_true rfl)) (aG rfl rfl))) (Nat.le_of_ble_eq_true rfl)) (aW (aW rfl rfl ((dE _ _).trans (if_pos (by decide)))) rfl ((cV _ _).trans (if_pos (by decide)))) e) (by rw [pG];omega)
 rw [<-iE] at s1
 have s2:=zm8 (j:=4) (p:=stF S a m o fs (hs++[g]) x6 (some (.int num)) x8 x9 x10) (f:=bA aC) (xs:=frD fs) (y:= .lst true []) rfl rfl (by rw [pG,h.len];omega)
 rw [<-iE] at s2
 exact(aH s1).trans s2
theorem zq2{g fr:List D}(hg:lV g)(ho:bF fr=true)(hl:fr.length<=900):∃row y10,okd row=true/\dpt row<=bD fr+2/\eiB (stF S a m o fs hs x6 (some (.int num)) (some (.tup fr)) (some (.lst true g)) x10)=some (.nx,stF S a m o fs hs x6 (some (.int num)) (some row) (some (.lst true g)) y10):=by
 have orow:okd (.tup fr)=true:=by rw [okd,ho,decide_eq_true (by omega)];rfl
 have te:∀{k:String} {t:List D},g= .str k::t->fB (f2 dEq (f2 dIx (aD 9) (fC (.int 0))) (fC (.str "either"))) (stF S a m o fs hs x6 (some (.int num)) (some (.tup fr)) (some (.lst true g)) x10)=some (decide ((k:Str)=("either":Str))):=fun e=>by subst e;exact dS (aW (aW rfl rfl (hE _ _)) rfl rfl)
 have no:∀{k:String} {t:List D},g= .str k::t->decide ((k:Str)=("either":Str))=false->∃row y10,okd row=true/\dpt row<=bD fr+2/\eiB (stF S a m o fs hs x6 (some (.int num)) (some (.tup fr)) (some (.lst true g)) x10)=some (.nx,stF S a m o fs hs x6 (some (.int num)) (some row) (some (.lst true g)) y10):=fun e hk=>by
  have t:=te e
  rw [hk] at t
  exact⟨.tup fr,x10,orow,by rw [dpt];omega,aU t⟩
 rcases hg with rfl|⟨n,rfl⟩|rfl
 ·exact no rfl (by decide+kernel)
 ·exact no rfl (by decide+kernel)
 ·have t:=te (k:="either") rfl
  rw [show decide ((("either":String):Str)=("either":Str))=true by decide+kernel] at t
  obtain⟨n,hn0,n1⟩:=vU (num/8) 2 3 (by decide)
  have hn:2+num/8 % 3=(n:Int):=hn0
  have n2:2<=n:=by
   have:=Int.emod_nonneg (num/8) (show(3:Int)≠0 by decide)
   omega
  have s1:aX 10 (aL (f2 eG (bA (aA (aQ aC) aC)) (f2 bP (fC (.int 2)) (f2 bZ q8 (fC (.int 3)))))) (stF S a m o fs hs x6 (some (.int num)) (some (.tup fr)) (some (.lst true [.str "either"])) x10)=some (.nx,stF S a m o fs hs x6 (some (.int num)) (some (.tup fr)) (some (.lst true [.str "either"])) (some (.lst true (List.replicate n (.tup []))))):=by
   refine dO (aW (x:= .lst true [.tup []]) (y:= .int (n:Int)) rfl (aW rfl (aW (aW rfl rfl ((dE _ _).trans (if_pos (by decide)))) rfl ((cV _ _).trans (if_pos (by decide)))) (by rw [<-hn];rfl)) ?_)
   rw [uI rfl (by omega) (by simp;omega)]
   congr 2
   simp
  have ix0:=Int.emod_nonneg (num/24) (show(n:Int)≠0 by omega)
  have ix1:=Int.emod_lt_of_pos (num/24) (show(0:Int)<(n:Int) by omega)
  have il:(num/24 % (n:Int)).toNat<n:=by omega
  have s2:eO 10 bW (f2 bZ (f2 dG (aD 7) (fC (.int 24))) (aK bU (aA (aD 10) aC))) (bY (aD 8)) (stF S a m o fs hs x6 (some (.int num)) (some (.tup fr)) (some (.lst true [.str "either"])) (some (.lst true (List.replicate n (.tup [])))))=some (.nx,stF S a m o fs hs x6 (some (.int num)) (some (.tup fr)) (some (.lst true [.str "either"])) (some (.lst true ((List.replicate n (.tup [])).set (num/24 % (n:Int)).toNat (.tup fr))))):=by
   have vi:f2 bZ (f2 dG (aD 7) (fC (.int 24))) (aK bU (aA (aD 10) aC)) (stF S a m o fs hs x6 (some (.int num)) (some (.tup fr)) (some (.lst true [.str "either"])) (some (.lst true (List.replicate n (.tup [])))))=some (.int (num/24 % (n:Int))):=by
    refine aW (aW rfl rfl ((dE _ _).trans (if_pos (by decide)))) (aZ (d:= .int (n:Int)) (aG rfl rfl) ?_) ((cV _ _).trans (if_pos (by omega)))
    show some (D.int ((List.replicate n (D.tup [])).length:Int))=_
    rw [List.length_replicate]
   unfold eO
   rw [fS (f:=aD 8) (d:= .tup fr) rfl (dU _ orow),Option.bind_some]
   show((some (.lst true (List.replicate n (.tup []))):Option D).bind _)=_
   rw [Option.bind_some]
   show(some []).bind _=_
   rw [Option.bind_some,vi,Option.bind_some]
   show((fD (.int (num/24 % (n:Int))) (.tup fr) (.lst true (List.replicate n (.tup [])))).bind _)=_
   rw [fD,List.length_replicate]
   have ei:ixN n (num/24 % (n:Int))=some (num/24 % (n:Int)).toNat:=by
    unfold ixN
    rw [if_pos ix0,if_pos (by omega)]
   rw [ei];rfl
  have hmem:∀d∈(List.replicate n (D.tup [])).set (num/24 % (n:Int)).toNat (.tup fr),d= .tup []\/d= .tup fr:=fun d hd=>by
   rcases List.mem_or_eq_of_mem_set hd with z|z
   ·exact .inl (List.eq_of_mem_replicate z)
   ·exact .inr z
  have ook:bF ((List.replicate n (D.tup [])).set (num/24 % (n:Int)).toNat (.tup fr))=true:=gI fun d hd=>by
   rcases hmem d hd with rfl|rfl
   ·rfl
   ·exact orow
  refine⟨.tup ((List.replicate n (D.tup [])).set (num/24 % (n:Int)).toNat (.tup fr)),_,?_,?_,(bJ t).trans ((aH s1).trans ((aH s2).trans (dO (aZ (aG rfl rfl) (if_pos (dF _ ook))))))⟩
  ·rw [okd,ook,decide_eq_true (by rw [List.length_set,List.length_replicate];omega)];rfl
  ·rw [dpt]
   have:bD ((List.replicate n (D.tup [])).set (num/24 % (n:Int)).toNat (.tup fr))<=bD fr+1:=kB fun d hd=>by
    rcases hmem d hd with rfl|rfl
    ·rw [dpt,bD];omega
    ·rw [dpt];omega
   omega
theorem zb8{g:List D}(hg:lV g):bF g=true/\bD g=0/\g.length<=2:=by
 rcases hg with rfl|⟨n,rfl⟩|rfl
 ·exact⟨by decide+kernel,by simp [bD,dpt],by simp⟩
 ·refine⟨?_,by simp [bD,dpt],by simp⟩
  rw [bF,bF,bF,show okd (.str "hang")=true by decide+kernel];rfl
 ·exact⟨by decide+kernel,by simp [bD,dpt],by simp⟩
theorem zq3(h:FInv fs hs c)(hl:0<hs.length)(hc:c<=800):∃fs' hs' y8 y9 y10,FInv fs' hs' (c+1)/\clB (stF S a m o fs hs x6 (some (.int num)) x8 x9 x10)=some (.nx,stF S a m o fs' hs' x6 (some (.int num)) y8 y9 y10):=by
 obtain⟨gs,fr,rfl⟩:=h.last
 obtain⟨ks,g,rfl⟩:∃ks g,hs=ks++[g]:=by
  have:hs≠[]:=fun e=>by rw [e] at hl;simp at hl
  exact⟨hs.dropLast,hs.getLast this,(List.dropLast_concat_getLast this).symm⟩
 obtain⟨p1,p2,p3,p4,p5⟩:=h.pop
 obtain⟨gs2,fr2,rfl⟩:=p1.last
 have s1:aX 8 (jP cN (cE 4 bW aC fA)) (stF S a m o (gs2++[fr2]++[fr]) (ks++[g]) x6 (some (.int num)) x8 x9 x10)=some (.nx,stF S a m o (gs2++[fr2]) (ks++[g]) x6 (some (.int num)) (some (.tup fr)) x9 x10):=by
  have q:=zb7 (j:=4) (p:=stF S a m o (gs2++[fr2]++[fr]) (ks++[g]) x6 (some (.int num)) x8 x9 x10) (xs:=frD (gs2++[fr2])) (y:= .lst true fr) (by rw [<-iE];rfl)
  unfold aX jP
  rw [q,Option.bind_some,show cN [D.lst true fr]=some (.tup fr) from if_pos (dF fr p2)];rfl
 have s2:aX 9 (cE 5 bW aC fA) (stF S a m o (gs2++[fr2]) (ks++[g]) x6 (some (.int num)) (some (.tup fr)) x9 x10)=some (.nx,stF S a m o (gs2++[fr2]) ks x6 (some (.int num)) (some (.tup fr)) (some (.lst true g)) x10):=by
  have q:=zb7 (j:=5) (p:=stF S a m o (gs2++[fr2]) (ks++[g]) x6 (some (.int num)) (some (.tup fr)) x9 x10) (xs:=frD ks) (y:= .lst true g) (by rw [<-iE];rfl)
  unfold aX
  rw [q];rfl
 obtain⟨row,y10,r1,r2,s3⟩:=zq2 (S:=S) (a:=a) (m:=m) (o:=o) (fs:=gs2++[fr2]) (hs:=ks) (x6:=x6) (x10:=x10) (num:=num) p5 p2 (by omega)
 obtain⟨g1,g2,g3⟩:=zb8 p5
 have oy:okd (.tup (g++[row]))=true:=by
  rw [okd,decide_eq_true (by rw [List.length_append,List.length_singleton];omega),Bool.and_true]
  refine gI fun d hd=> ?_
  rcases List.mem_append.mp hd with z|z
  ·exact fL g1 z
  ·rw [List.mem_singleton.mp z];exact r1
 have dy:dpt (.tup (g++[row]))<=bD fr+3:=by
  rw [dpt]
  have:bD (g++[row])<=bD fr+2:=kB fun d hd=>by
   rcases List.mem_append.mp hd with z|z
   ·have:=gT z;omega
   ·rw [List.mem_singleton.mp z];exact r2
  omega
 have p3':bD fr+3*(gs2.length+1)<=19:=by simpa using p3
 have s4:=zm9 (j:=4) (p:=stF S a m o (gs2++[fr2]) ks x6 (some (.int num)) (some row) (some (.lst true g)) y10) (xs:=frD gs2) (fr:=fr2) (y:= .tup (g++[row])) (f:=f2 bP (aK cN (aA (aD 9) aC)) (aQ (aA (bY (aD 8)) aC))) (by rw [<-iE];rfl)
  (aW (aZ (d:= .tup g) (aG rfl rfl) (if_pos (dF g g1))) (hV (aG (fS rfl (dU row r1)) rfl) (by rw [D.imms,dU row r1];rfl) (Nat.le_of_ble_eq_true rfl)) (by rw [bP,if_pos (by rw [List.length_singleton];exact sz (by omega))])) (by have:=p1.short fr2 (by simp);omega)
 rw [<-iE] at s4
 exact⟨gs2++[fr2++[D.tup (g++[row])]],ks,some row,some (.lst true g),y10,p1.put oy (by omega),(aH s1).trans ((aH s2).trans ((aH s3).trans s4))⟩
end
theorem xB{f g:tz4}{q:PSt}{x y:Bool}(e1:f q=some x)(e2:g q=some y):cA f g q=some (x&&y):=by
 cases x with
 |true=>rw [Bool.true_and];exact oG e1 e2
 |false=>rw [Bool.false_and];exact hW e1
section
variable{GM:tz6}{S:D}{a m:Option D}{od:Int}
theorem zq4{fs hs:List (List D)}{c:Nat}{k:Int}{x7 x8 x9 x10:Option D}(hM:∀j s:Int,0<=j->j<1000->0<=s->s<1000->∃a,GM [S,.int j,.int s]=some (.int a)/\0<=a)(k0:0<=k)(k1:k<1000)(h:FInv fs hs c)(hc:c<=800):
  ∃fs' hs' y7 y8 y9 y10,shB GM (stF S a m (some (.int od)) fs hs (some (.int k)) x7 x8 x9 x10)=some (.nx,stF S a m (some (.int od)) fs' hs' (some (.int k)) y7 y8 y9 y10)/\FInv fs' hs' (c+1):=by
 obtain⟨num,qn,hn⟩:=hM k 31 k0 k1 (by decide) (by decide)
 obtain⟨lf,ql,hlf⟩:=hM k 32 k0 k1 (by decide) (by decide)
 have s1:aX 7 (aL (aK GM (aA (aD 0) (aA (aD 6) (aA (fC (.int 31)) aC))))) (stF S a m (some (.int od)) fs hs (some (.int k)) x7 x8 x9 x10)=some (.nx,stF S a m (some (.int od)) fs hs (some (.int k)) (some (.int num)) x8 x9 x10):=dO (aZ (aG rfl (aG rfl (aG rfl rfl))) qn)
 have v8:n8 (stF S a m (some (.int od)) fs hs (some (.int k)) (some (.int num)) x8 x9 x10)=some (.int (num % 8)):=aW rfl rfl ((cV _ _).trans (if_pos (by decide)))
 have vl:aK bU (aA (aD 5) aC) (stF S a m (some (.int od)) fs hs (some (.int k)) (some (.int num)) x8 x9 x10)=some (.int (hs.length:Int)):=aZ (aG rfl rfl) (by show some (D.int ((frD hs).length:Int))=_;rw [pG])
 have t1:cA (fB (f2 dLt n8 (fC (.int 2)))) (fB (f2 dLt (aK bU (aA (aD 5) aC)) (fC (.int 4)))) (stF S a m (some (.int od)) fs hs (some (.int k)) (some (.int num)) x8 x9 x10)=some (decide (num % 8<2)&&decide ((hs.length:Int)<4)):=xB (dS (aW v8 rfl rfl)) (dS (aW vl rfl rfl))
 have t2:cA (fB (f2 dEq n8 (fC (.int 2)))) (fB (f2 dGt (aK bU (aA (aD 5) aC)) (fC (.int 0)))) (stF S a m (some (.int od)) fs hs (some (.int k)) (some (.int num)) x8 x9 x10)=some (decide (num % 8=2)&&decide ((0:Int)<(hs.length:Int))):=xB (dS (aW v8 rfl rfl)) (dS (aW vl rfl rfl))
 cases c1:(decide (num % 8<2)&&decide ((hs.length:Int)<4)) with
 |true=>
  rw [c1] at t1
  rw [Bool.and_eq_true,decide_eq_true_eq,decide_eq_true_eq] at c1
  obtain⟨g,hg,q⟩:=zq1 (S:=S) (a:=a) (m:=m) (o:=some (.int od)) (x6:=some (.int k)) (x8:=x8) (x9:=x9) (x10:=x10) (num:=num) h (by omega) hc
  exact⟨_,_,_,_,_,_,(aH s1).trans ((bJ t1).trans q),(h.opn hg (by omega)).mono (by omega)⟩
 | false=>
  rw [c1] at t1
  cases c2:(decide (num % 8=2)&&decide ((0:Int)<(hs.length:Int))) with
  |true=>
   rw [c2] at t2
   rw [Bool.and_eq_true,decide_eq_true_eq,decide_eq_true_eq] at c2
   obtain⟨fs',hs',y8,y9,y10,hi,q⟩:=zq3 (S:=S) (a:=a) (m:=m) (o:=some (.int od)) (x6:=some (.int k)) (x8:=x8) (x9:=x9) (x10:=x10) (num:=num) h (by omega) hc
   exact⟨_,_,_,_,_,_,(aH s1).trans ((nG (iD t1)).trans ((bJ t2).trans q)),hi⟩
  | false=>
   rw [c2] at t2
   obtain⟨gs,fr,rfl⟩:=h.last
   have hlen:=h.len
   have hfew:=h.few
   have hgl:gs.length<=4:=by rw [List.length_append,List.length_singleton] at hlen;omega
   have t3:cA (fB (f2 dGt (aD 3) (fC (.int 0)))) (fB (f2 dEq (f2 bZ q8 (fC (.int 6))) (fC (.int 1)))) (stF S a m (some (.int od)) (gs++[fr]) hs (some (.int k)) (some (.int num)) x8 x9 x10)=some (decide (0<od)&&decide (num/8 % 6=1)):=xB (dS (aW rfl rfl rfl)) (dS (aW (aW (aW rfl rfl ((dE _ _).trans (if_pos (by decide)))) rfl ((cV _ _).trans (if_pos (by decide)))) rfl rfl))
   have put:∀{f:tz2} {y:D},okd y=true->dpt y<=7->f (stF S a m (some (.int od)) (gs++[fr]) hs (some (.int k)) (some (.int num)) x8 x9 x10)=some y->cP (cE 4 (eD 4 bW (eZ (fC (.int 1)))) (aA f aC) cG) (stF S a m (some (.int od)) (gs++[fr]) hs (some (.int k)) (some (.int num)) x8 x9 x10)=some (.nx,stF S a m (some (.int od)) (gs++[fr++[y]]) hs (some (.int k)) (some (.int num)) x8 x9 x10)/\FInv (gs++[fr++[y]]) hs (c+1):=fun {f y} hy dy hf=>by
    have s4:=zm9 (j:=4) (p:=stF S a m (some (.int od)) (gs++[fr]) hs (some (.int k)) (some (.int num)) x8 x9 x10) (xs:=frD gs) (fr:=fr) (y:=y) (f:=f) (by rw [<-iE];rfl) hf (by have:=h.short fr (by simp);omega)
    rw [<-iE] at s4
    exact⟨s4,h.put hy (by omega)⟩
   cases c3:(decide (0<od)&&decide (num/8 % 6=1)) with
   |true=>
    rw [c3] at t3
    obtain⟨d,qd,hd,dd⟩:=zm6 (num/48)
    obtain⟨q,hi⟩:=put hd dd (f:=aK xI (aA (f2 dG (aD 7) (fC (.int 48))) aC)) (aZ (aG (aW rfl rfl ((dE _ _).trans (if_pos (by decide)))) rfl) qd)
    exact⟨_,_,_,_,_,_,(aH s1).trans ((nG (iD t1)).trans ((nG (iD t2)).trans ((bJ t3).trans q))),hi⟩
   |false=>
    rw [c3] at t3
    obtain⟨l,qd,hl⟩:=zi0 hlf
    obtain⟨hd,dd⟩:=zb6 hl
    obtain⟨q,hi⟩:=put hd (by omega) (f:=aK sU (aA (aK GM (aA (aD 0) (aA (aD 6) (aA (fC (.int 32)) aC)))) aC)) (aZ (aG (aZ (aG rfl (aG rfl (aG rfl rfl))) ql) rfl) qd)
    exact⟨_,_,_,_,_,_,(aH s1).trans ((nG (iD t1)).trans ((nG (iD t2)).trans ((nG (iD t3)).trans q))),hi⟩
theorem zd7(hM:∀j s:Int,0<=j->j<1000->0<=s->s<1000->∃a,GM [S,.int j,.int s]=some (.int a)/\0<=a):∀(n k:Nat) (fs hs:List (List D)) (c:Nat) (x6 x7 x8 x9 x10:Option D),k+n<=900->c+n<=800->FInv fs hs c->
  ∃fs' hs' y6 y7 y8 y9 y10,cQ 6 (shB GM) (gM (k:Int) n) (stF S a m (some (.int od)) fs hs x6 x7 x8 x9 x10)=some (.nx,stF S a m (some (.int od)) fs' hs' y6 y7 y8 y9 y10)/\FInv fs' hs' (c+n)
 |0,k,fs,hs,c,x6,x7,x8,x9,x10,_,_,h=>⟨fs,hs,x6,x7,x8,x9,x10,rfl,h⟩
 |n+1,k,fs,hs,c,x6,x7,x8,x9,x10,hk,hc,h=>by
  obtain⟨fs1,hs1,y7,y8,y9,y10,q,h1⟩:=zq4 (a:=a) (m:=m) (od:=od) (k:=(k:Int)) (x7:=x7) (x8:=x8) (x9:=x9) (x10:=x10) hM (by omega) (by omega) h (by omega)
  obtain⟨fs2,hs2,z6,z7,z8,z9,z10,q2,h2⟩:=zd7 hM n (k+1) fs1 hs1 (c+1) (some (.int (k:Int))) y7 y8 y9 y10 (by omega) (by omega) h1
  refine⟨fs2,hs2,z6,z7,z8,z9,z10,?_,by rw [show c+(n+1)=c+1+n by omega];exact h2⟩
  rw [qK,cQ]
  show((shB GM (stF S a m (some (.int od)) fs hs (some (.int (k:Int))) x7 x8 x9 x10)).bind _)=_
  rw [q];exact q2
abbrev wlT:tz4:=fB (f2 dGt (aK bU (aA (aD 4) aC)) (fC (.int 1)))
abbrev wlB:tz1:=aR (aX 8 (jP cN (cE 4 bW aC fA))) (cP (cE 4 (eD 4 bW (fC (.int 0))) (aA (aK eB (aA (aD 8) aC)) aC) cO))
theorem zL{hs:List (List D)}{o x6 x7 x9 x10:Option D}{c:Nat}:∀(n:Nat) (bC:List (List D)) (f0:List D) (fuel:Nat) (x8:Option D),bC.length=n->n<fuel->bF f0=true->bD f0<=19->(∀fr∈bC,bF fr=true/\bD fr<=19/\fr.length<=c)->f0.length+n*c<=900->
  ∃f1 y8,eN (aT wlT) wlB fuel (stF S a m o (f0::bC) hs x6 x7 x8 x9 x10)=some (.nx,stF S a m o [f1] hs x6 x7 y8 x9 x10)/\bF f1=true/\bD f1<=19/\f1.length<=900
 |n,bC,f0,0,x8,_,h,_,_,_,_=>absurd h (Nat.not_lt_zero _)
 |0,bC,f0,fuel+1,x8,hr,_,h1,h2,_,h4=>by
  have:bC=[]:=List.length_eq_zero_iff.mp hr
  subst this
  exact⟨f0,x8,rfl,h1,h2,by omega⟩
 | n+1,bC,f0,fuel+1,x8,hr,hf,h1,h2,h3,h4=>by
  obtain⟨gs,fr,rfl⟩:∃gs fr,bC=gs++[fr]:=by
   have:bC≠[]:=fun e=>by rw [e] at hr;simp at hr
   exact⟨bC.dropLast,bC.getLast this,(List.dropLast_concat_getLast this).symm⟩
  obtain⟨o1,o2,o3⟩:=h3 fr (by simp)
  have hg:gs.length=n:=by simpa using hr
  have hmul:(n+1)*c=n*c+c:=Nat.succ_mul n c
  have t:wlT (stF S a m o (f0::(gs++[fr])) hs x6 x7 x8 x9 x10)=some true:=by
   refine dS (aW (x:= .int ((frD (f0::(gs++[fr]))).length:Int)) (aZ (aG rfl rfl) rfl) rfl ?_)
   show some (D.bl (decide ((1:Int)<((frD (f0::(gs++[fr]))).length:Int))))=_
   rw [pG,decide_eq_true (by simp;omega)]
  have s1:aX 8 (jP cN (cE 4 bW aC fA)) (stF S a m o (f0::(gs++[fr])) hs x6 x7 x8 x9 x10)=some (.nx,stF S a m o (f0::gs) hs x6 x7 (some (.tup fr)) x9 x10):=by
   have q:=zb7 (j:=4) (p:=stF S a m o (f0::(gs++[fr])) hs x6 x7 x8 x9 x10) (xs:=frD (f0::gs)) (y:= .lst true fr) (by rw [<-iE];rfl)
   unfold aX jP
   rw [q,Option.bind_some,show cN [D.lst true fr]=some (.tup fr) from if_pos (dF fr o1)];rfl
  have s2:cP (cE 4 (eD 4 bW (fC (.int 0))) (aA (aK eB (aA (aD 8) aC)) aC) cO) (stF S a m o (f0::gs) hs x6 x7 (some (.tup fr)) x9 x10)=some (.nx,stF S a m o ((f0++fr)::gs) hs x6 x7 (some (.tup fr)) x9 x10):=
   zs3 (j:=4) (p:=stF S a m o (f0::gs) hs x6 x7 (some (.tup fr)) x9 x10) (xs:=frD gs) (fr:=f0) (ys:=fr) rfl (aZ (aG rfl rfl) rfl) (dF fr o1) (by omega)
  obtain⟨f1,y8,q,e1,e2,e3⟩:=zL (hs:=hs) (o:=o) (x6:=x6) (x7:=x7) (x9:=x9) (x10:=x10) (c:=c) n gs (f0++fr) fuel (some (.tup fr)) hg (by omega) (gI fun d hd=>by
   rcases List.mem_append.mp hd with z|z
   ·exact fL h1 z
   ·exact fL o1 z) (kB fun d hd=>by
   rcases List.mem_append.mp hd with z|z
   ·exact Nat.le_trans (gT z) h2
   ·exact Nat.le_trans (gT z) o2) (fun f hf=>h3 f (List.mem_append_left _ hf)) (by rw [List.length_append];omega)
  refine⟨f1,y8,?_,e1,e2,e3⟩
  have lp:eN (aT wlT) wlB (fuel+1) (stF S a m o (f0::(gs++[fr])) hs x6 x7 x8 x9 x10)=((aT wlT) (stF S a m o (f0::(gs++[fr])) hs x6 x7 x8 x9 x10)).bind fun r=>if r.1=true then(wlB r.2).bind fun q=>match q with
   |(.nx,p)=>eN (aT wlT) wlB fuel p
   |(.ct,p)=>eN (aT wlT) wlB fuel p
   |(.bk,p)=>some (.nx,p)
   |(.ret d,p)=>some (.ret d,p)
   else some (.nx,r.2):=rfl
  rw [lp,iD t,Option.bind_some,if_pos rfl,show wlB (stF S a m o (f0::(gs++[fr])) hs x6 x7 x8 x9 x10)=_ from(aH s1).trans s2,Option.bind_some]
  exact q
abbrev oY(GM:tz6):tz6:=gP 4 7 (qR GM xI sU)
theorem uT(hM:∀j s:Int,0<=j->j<1000->0<=s->s<1000->∃a,GM [S,.int j,.int s]=some (.int a)/\0<=a){k n:Nat}{od:Int}(hk:k<=100)(hn:n<=40):∃d,oY GM [S,.int (k:Int),.int (n:Int),.int od]=some d/\okd d=true/\dpt d<=20/\hZ d=true:=by
 have i0:FInv [[]] [] 0:=⟨rfl,by simp,fun i f e=>by
  cases i with
  |zero=>cases e;exact⟨rfl,by rw [bD];omega⟩
  |succ i=>simp at e,fun f hf=>by simp at hf;subst hf;exact Nat.le_refl _,fun h hh=>absurd hh (by simp)⟩
 obtain⟨fs,hs,y6,y7,y8,y9,y10,q,hi⟩:=zd7 (a:=some (.int (k:Int))) (m:=some (.int (n:Int))) (od:=od) hM n k [[]] [] 0 none none none none none (by omega) (by omega) i0
 rw [Nat.zero_add] at hi
 cases fs with
 |nil=>have:=hi.len;simp at this
 | cons f0 bC=>
  have hl:=hi.len
  have hf:=hi.few
  obtain⟨o1,o2⟩:=hi.ok 0 f0 rfl
  have hrest:∀fr∈bC,bF fr=true/\bD fr<=19/\fr.length<=n:=fun fr hfr=>by
   obtain⟨i,e⟩:=List.getElem?_of_mem hfr
   obtain⟨a1,a2⟩:=hi.ok (i+1) fr e
   exact⟨a1,by omega,hi.short fr (List.mem_cons_of_mem _ hfr)⟩
  have hf0:=hi.short f0 List.mem_cons_self
  have hrl:bC.length<=4:=by rw [List.length_cons] at hl;omega
  have hb:bC.length*n<=4*40:=Nat.mul_le_mul hrl hn
  obtain⟨f1,z8,w,e1,e2,e3⟩:=zL (S:=S) (a:=some (.int (k:Int))) (m:=some (.int (n:Int))) (hs:=hs) (o:=some (.int od)) (x6:=y6) (x7:=y7) (x9:=y9) (x10:=y10) (c:=n) bC.length bC f0 400 y8 rfl (by omega) o1 (by omega) hrest (by omega)
  refine⟨.tup f1,?_,by rw [okd,e1,decide_eq_true (by omega)];rfl,by rw [dpt];omega,rfl⟩
  have s1:aX 4 (aL (bA (aA (bA aC) aC))) [some S,some (.int (k:Int)),some (.int (n:Int)),some (.int od),none,none,none,none,none,none,none]=some (.nx,[some S,some (.int (k:Int)),some (.int (n:Int)),some (.int od),some (.lst true (frD [[]])),none,none,none,none,none,none]):=rfl
  have s2:aX 5 (aL (bA aC)) [some S,some (.int (k:Int)),some (.int (n:Int)),some (.int od),some (.lst true (frD [[]])),none,none,none,none,none,none]=some (.nx,stF S (some (.int (k:Int))) (some (.int (n:Int))) (some (.int od)) [[]] [] none none none none none):=rfl
  have s3:dM 6 (gG (aA (aD 1) (aA (f2 bP (aD 1) (aD 2)) aC))) (shB GM) (stF S (some (.int (k:Int))) (some (.int (n:Int))) (some (.int od)) [[]] [] none none none none none)=some (.nx,stF S (some (.int (k:Int))) (some (.int (n:Int))) (some (.int od)) (f0::bC) hs y6 y7 y8 y9 y10):=by
   have e:gG (aA (aD 1) (aA (f2 bP (aD 1) (aD 2)) aC)) (stF S (some (.int (k:Int))) (some (.int (n:Int))) (some (.int od)) [[]] [] none none none none none)=some (gM (k:Int) n):=by
    unfold gG
    rw [aG (f:=aD 1) (d:= .int (k:Int)) rfl (aG (f:=f2 bP (aD 1) (aD 2)) (d:= .int ((k:Int)+(n:Int))) (aW rfl rfl rfl) (show aC _=some [] from rfl)),Option.bind_some,zh1 (by omega) (by omega) (by omega) (by omega)]
    congr 2
    omega
   unfold dM
   rw [e,Option.bind_some];exact q
  exact fN rfl ((aH s1).trans ((aH s2).trans ((aH s3).trans ((aH w).trans (bX (aZ (aG (aW rfl rfl (hE _ _)) rfl) (if_pos (dF f1 e1))))))))
end
def ze6(d:D):Prop:=okd d=true/\dpt d<=45
theorem zM{d:D}{n:Nat}(h:okd d=true)(hn:n<=1000):okd (.tup (List.replicate n d))=true/\dpt (.tup (List.replicate n d))<=dpt d+1:=by
 refine⟨?_,?_⟩
 ·rw [okd,decide_eq_true (by rw [List.length_replicate];exact hn),Bool.and_true]
  exact gI fun x hx=>by rw [List.eq_of_mem_replicate hx];exact h
 ·rw [dpt]
  have:bD (List.replicate n d)<=dpt d:=kB fun x hx=>by rw [List.eq_of_mem_replicate hx];exact Nat.le_refl _
  omega
theorem zb9(n:Nat)(d:D):(List.replicate n [d]).flatten=List.replicate n d:=by simp
section
variable{GM:tz6}{S:D}
theorem qM{p:PSt}{fd fn:tz2}{d:D}{n:Nat}(hd:fd p=some d)(hi:d.imm=true)(hf:fn p=some (.int (n:Int)))(hn:n<=1000):f2 eG (bA (aA fd aC)) fn p=some (.lst true (List.replicate n d)):=by
 refine aW (hU (aG hd rfl) (Nat.le_of_ble_eq_true rfl)) hf ?_
 rw [uI (by rw [D.imms,hi];rfl) hn (by simp;omega),zb9]
theorem oJ{p:PSt}{num:Int}{b c:Nat}(h2:p[2]? =some (some (.int num)))(hc:0<c)(hc2:c<1000):∃n:Nat,f2 bP (fC (.int (b:Int))) (f2 bZ (f2 dG (aD 2) (fC (.int 10))) (fC (.int (c:Int)))) p=some (.int (n:Int))/\n<b+c:=by
 obtain⟨n,hn,n1⟩:=vU (num/10) b c hc
 refine⟨n,?_,n1⟩
 rw [<-hn]
 exact aW rfl (aW (aW (rF h2) rfl ((dE _ _).trans (if_pos (by decide)))) rfl ((cV _ _).trans (if_pos (by omega)))) rfl
abbrev chF:tz2:=f2 dIx (bA (aA (aQ (aA (fC (.str "group")) (aA (bY (aD 3)) aC))) (aA (aQ (aA (fC (.str "hang")) (aA (bY (aD 4)) (aA (bY (aD 3)) aC)))) (aA (aQ (aA (fC (.str "either")) (aA (aQ (aA (bY (aD 3)) (aA (aQ aC) aC))) aC))) aC)))) (f2 bZ (f2 dG (aD 2) (fC (.int 30))) (fC (.int 3)))
theorem zn0{k num j:Int}{r:D}(h:okd r=true)(h1:1<=dpt r):∃r',aX 3 (aL (aQ (aA chF aC))) [some S,some (.int k),some (.int num),some r,some (.int j)]=some (.nx,[some S,some (.int k),some (.int num),some r',some (.int j)])/\okd r'=true/\1<=dpt r'/\dpt r'<=dpt r+3:=by
 have h0:=Int.emod_nonneg (num/30) (show(3:Int)≠0 by decide)
 have h3:=Int.emod_lt_of_pos (num/30) (show(0:Int)<3 by decide)
 have ri:=dU r h
 obtain⟨d,hd,e⟩:=kA [D.tup [.str "group",r],.tup [.str "hang",.int j,r],.tup [.str "either",.tup [r,.tup []]]] (num/30 % 3) h0 (by simpa using h3)
 have hdd:okd d=true/\dpt d<=dpt r+2:=by
  simp only [List.mem_cons,List.not_mem_nil,or_false] at hd
  rcases hd with rfl|rfl|rfl
  ·refine⟨?_,by simp only [dpt,bD];omega⟩
   rw [okd,bF,bF,bF,h,show okd (.str "group")=true by decide+kernel];rfl
  ·refine⟨?_,by simp only [dpt,bD];omega⟩
   rw [okd,bF,bF,bF,bF,h,show okd (.str "hang")=true by decide+kernel];rfl
  ·refine⟨?_,by simp only [dpt,bD];omega⟩
   have o4:okd (.tup [r,.tup []])=true:=by rw [okd,bF,bF,bF,h];rfl
   rw [okd,bF,bF,bF,o4,show okd (.str "either")=true by decide+kernel];rfl
 have i2:D.imms [D.str "group",r]=true:=by rw [D.imms,D.imms,ri];rfl
 have i3:D.imms [D.str "hang",.int j,r]=true:=by rw [D.imms,D.imms,D.imms,ri];rfl
 have i4:D.imms [r,.tup []]=true:=by rw [D.imms,ri];rfl
 have i5:D.imms [D.str "either",.tup [r,.tup []]]=true:=by rw [D.imms,D.imms,D.imm,i4];rfl
 have v3:bY (aD 3) [some S,some (.int k),some (.int num),some r,some (.int j)]=some r:=fS rfl ri
 refine⟨.tup [d],dO (hV (aG (aW (hU (aG (hV (aG rfl (aG v3 rfl)) i2 (Nat.le_of_ble_eq_true rfl)) (aG (hV (aG rfl (aG rfl (aG v3 rfl))) i3 (Nat.le_of_ble_eq_true rfl)) (aG (hV (aG rfl (aG (hV (aG v3 (aG rfl rfl)) i4 (Nat.le_of_ble_eq_true rfl)) rfl)) i5 (Nat.le_of_ble_eq_true rfl)) rfl))) (Nat.le_of_ble_eq_true rfl)) (aW (aW rfl rfl ((dE _ _).trans (if_pos (by decide)))) rfl ((cV _ _).trans (if_pos (by decide)))) e) rfl) (by rw [D.imms,dU d hdd.1];rfl) (Nat.le_of_ble_eq_true rfl)),?_,?_,?_⟩
 ·rw [okd,bF,bF,hdd.1];rfl
 ·rw [dpt];omega
 ·rw [dpt,bD,bD];omega
theorem vZ{k num:Int}:∀(ds:List Int) (r:D) (x4:Option D),okd r=true->1<=dpt r->∃r' y4,cQ 4 (aX 3 (aL (aQ (aA chF aC)))) (ds.map .int) [some S,some (.int k),some (.int num),some r,x4]=some (.nx,[some S,some (.int k),some (.int num),some r',y4])/\okd r'=true/\dpt r'<=dpt r+3*ds.length
 |[],r,x4,h,_=>⟨r,x4,rfl,h,Nat.le_refl _⟩
 |j::ds,r,x4,h,h1=>by
  obtain⟨r1,q,e1,e2,e3⟩:=zn0 (S:=S) (k:=k) (num:=num) (j:=j) h h1
  obtain⟨r2,y4,q2,e4,e5⟩:=vZ (k:=k) (num:=num) ds r1 (some (.int j)) e1 e2
  refine⟨r2,y4,?_,e4,by rw [List.length_cons];omega⟩
  rw [List.map_cons,cQ]
  show((aX 3 (aL (aQ (aA chF aC))) [some S,some (.int k),some (.int num),some r,some (.int j)]).bind _)=_
  rw [q];exact q2
abbrev mW(GM:tz6):tz6:=gP 2 3 (nP GM (oY GM))
theorem zc0(hM:∀j s:Int,0<=j->j<1000->0<=s->s<1000->∃a,GM [S,.int j,.int s]=some (.int a)/\0<=a){k:Nat}(hk:k<=100):∃d,mW GM [S,.int (k:Int)]=some d/\ze6 d:=by
 obtain⟨num,qn,hn⟩:=hM (k:Int) 50 (by omega) (by omega) (by decide) (by decide)
 have fin:∀q d,nP GM (oY GM) [some S,some (.int (k:Int)),none,none,none]=some (.ret d,q)->mW GM [S,.int (k:Int)]=some d:=fun q d e=>fN rfl e
 have s1:aX 2 (aL (aK GM (aA (aD 0) (aA (aD 1) (aA (fC (.int 50)) aC))))) [some S,some (.int (k:Int)),none,none,none]=some (.nx,[some S,some (.int (k:Int)),some (.int num),none,none]):=dO (aZ (aG rfl (aG rfl (aG rfl rfl))) qn)
 have te:∀c:Int,fB (f2 dEq (f2 bZ (aD 2) (fC (.int 10))) (fC (.int c))) [some S,some (.int (k:Int)),some (.int num),none,none]=some (decide (num % 10=c)):=fun c=>dS (aW (aW rfl rfl ((cV _ _).trans (if_pos (by decide)))) rfl rfl)
 have t1:=te 1
 have t2:=te 2
 have t3:=te 3
 have t4:=te 4
 have t5:=te 5
 have oend:okd (.tup [.str "end"])=true:=by decide+kernel
 have dend:dpt (.tup [.str "end"])=1:=by simp [dpt,bD]
 have ogr:okd (.tup [.str "group",.tup []])=true:=by decide+kernel
 have dgr:dpt (.tup [.str "group",.tup []])=2:=by simp [dpt,bD]
 by_cases c1:num % 10=1
 ·rw [decide_eq_true c1] at t1
  obtain⟨n,qc,n1⟩:=oJ (p:=[some S,some (.int (k:Int)),some (.int num),none,none]) (num:=num) (b:=199) (c:=4) rfl (by decide) (by decide)
  obtain⟨o1,o2⟩:=zM (n:=n) oend (by omega)
  rw [dend] at o2
  exact⟨_,fin _ _ ((aH s1).trans (bN ((bJ t1).trans (bX (aZ (aG (qM (d:= .tup [.str "end"]) (hV (aG rfl rfl) rfl (Nat.le_of_ble_eq_true rfl)) rfl qc (by omega)) rfl) (if_pos (dU _ o1))))))),o1,by omega⟩
 ·rw [decide_eq_false c1] at t1
  by_cases c2:num % 10=2
  ·rw [decide_eq_true c2] at t2
   obtain⟨n,qc,n1⟩:=oJ (p:=[some S,some (.int (k:Int)),some (.int num),some (.tup []),none]) (num:=num) (b:=11) (c:=3) rfl (by decide) (by decide)
   obtain⟨r,y4,q,e1,e2⟩:=vZ (S:=S) (k:=(k:Int)) (num:=num) ((List.range n).map fun(i:Nat)=>(i:Int)) (.tup []) none rfl (by simp [dpt,bD])
   rw [<-zC] at q
   rw [List.length_map,List.length_range,show dpt (.tup [])=1 by simp [dpt,bD]] at e2
   have s2:aX 3 (aL (aQ aC)) [some S,some (.int (k:Int)),some (.int num),none,none]=some (.nx,[some S,some (.int (k:Int)),some (.int num),some (.tup []),none]):=rfl
   have s3:dM 4 (eW (aA (f2 bP (fC (.int 11)) (f2 bZ (f2 dG (aD 2) (fC (.int 10))) (fC (.int 3)))) aC)) (aX 3 (aL (aQ (aA chF aC)))) [some S,some (.int (k:Int)),some (.int num),some (.tup []),none]=some (.nx,[some S,some (.int (k:Int)),some (.int num),some r,y4]):=by
    unfold dM eW
    have qc':f2 bP (fC (.int 11)) (f2 bZ (f2 dG (aD 2) (fC (.int 10))) (fC (.int 3))) [some S,some (.int (k:Int)),some (.int num),some (.tup []),none]=some (.int (n:Int)):=qc
    rw [aG qc' (show aC _=some [] from rfl),Option.bind_some,zl8 (by omega)]
    exact q
   exact⟨r,fin _ _ ((aH s1).trans ((aH (aU t1)).trans (bN ((bJ t2).trans ((aH s2).trans ((aH s3).trans rfl)))))),e1,by omega⟩
  ·rw [decide_eq_false c2] at t2
   by_cases c3:num % 10=3
   ·rw [decide_eq_true c3] at t3
    obtain⟨n,qc,n1⟩:=oJ (p:=[some S,some (.int (k:Int)),some (.int num),none,none]) (num:=num) (b:=99) (c:=3) rfl (by decide) (by decide)
    obtain⟨o1,o2⟩:=zM (n:=n) ogr (by omega)
    rw [dgr] at o2
    exact⟨_,fin _ _ ((aH s1).trans ((aH (aU t1)).trans ((aH (aU t2)).trans (bN ((bJ t3).trans (bX (aZ (aG (qM (d:= .tup [.str "group",.tup []]) (hV (aG rfl (aG rfl rfl)) rfl (Nat.le_of_ble_eq_true rfl)) rfl qc (by omega)) rfl) (if_pos (dU _ o1))))))))),o1,by omega⟩
   ·rw [decide_eq_false c3] at t3
    by_cases c5:num % 10=5
    ·rw [decide_eq_true c5] at t5
     obtain⟨n,qc,n1⟩:=oJ (p:=[some S,some (.int (k:Int)),some (.int num),none,none]) (num:=num) (b:=2) (c:=4) rfl (by decide) (by decide)
     have oe:okd (.tup [.str "either",.tup [.tup [],.tup [],.tup [],.tup []]])=true:=by decide+kernel
     have de:dpt (.tup [.str "either",.tup [.tup [],.tup [],.tup [],.tup []]])=3:=by simp [dpt,bD]
     have oh:okd (.tup [.str "hang",.int 1,.tup []])=true:=by decide+kernel
     have dh:dpt (.tup [.str "hang",.int 1,.tup []])=2:=by simp [dpt,bD]
     have m1:f2 eG (bA (aA (aQ (aA (fC (.str "either")) (aA (aQ (aA (aQ aC) (aA (aQ aC) (aA (aQ aC) (aA (aQ aC) aC))))) aC))) aC)) (fC (.int 39)) [some S,some (.int (k:Int)),some (.int num),none,none]=some (.lst true (List.replicate 39 (.tup [.str "either",.tup [.tup [],.tup [],.tup [],.tup []]]))):=qM (n:=39) rfl rfl rfl (by decide)
     have m3:f2 eG (bA (aA (aQ (aA (fC (.str "end")) aC)) aC)) (f2 bP (fC (.int 2)) (f2 bZ (f2 dG (aD 2) (fC (.int 10))) (fC (.int 4)))) [some S,some (.int (k:Int)),some (.int num),none,none]=some (.lst true (List.replicate n (.tup [.str "end"]))):=qM (d:= .tup [.str "end"]) rfl rfl qc (by omega)
     have i1:bF (List.replicate 39 (.tup [.str "either",.tup [.tup [],.tup [],.tup [],.tup []]]))=true:=gI fun x hx=>by rw [List.eq_of_mem_replicate hx];exact oe
     have i3:bF (List.replicate n (.tup [.str "end"]))=true:=gI fun x hx=>by rw [List.eq_of_mem_replicate hx];exact oend
     have hmem:∀d∈List.replicate 39 (D.tup [.str "either",.tup [.tup [],.tup [],.tup [],.tup []]])++[.tup [.str "hang",.int 1,.tup []]]++List.replicate n (.tup [.str "end"]),okd d=true/\dpt d<=3:=fun d hd=>by
      rcases List.mem_append.mp hd with z|z
      ·rcases List.mem_append.mp z with z|z
       ·rw [List.eq_of_mem_replicate z];exact⟨oe,by omega⟩
       ·rw [List.mem_singleton.mp z];exact⟨oh,by omega⟩
      ·rw [List.eq_of_mem_replicate z];exact⟨oend,by omega⟩
     have i2:bF (List.replicate 39 (D.tup [.str "either",.tup [.tup [],.tup [],.tup [],.tup []]])++[.tup [.str "hang",.int 1,.tup []]])=true:=gI fun d hd=>(hmem d (List.mem_append_left _ hd)).1
     have ia:=gI fun d hd=>(hmem d hd).1
     have a1:=zD (o:=true) (o':=true) (dF _ i1) (zs:=[.tup [.str "hang",.int 1,.tup []]]) rfl (by rw [List.length_replicate,List.length_singleton];decide)
     have a2:=zD (o:=true) (o':=true) (dF _ i2) (dF _ i3) (by rw [List.length_append,List.length_replicate,List.length_singleton,List.length_replicate];omega)
     refine⟨_,fin _ _ ((aH s1).trans ((aH (aU t1)).trans ((aH (aU t2)).trans ((aH (aU t3)).trans (bN ((bJ t5).trans (bX (aZ (aG (aW (aW m1 rfl a1) m3 a2) rfl) (if_pos (dF _ ia)))))))))),?_,?_⟩
     ·rw [okd,ia,decide_eq_true (by rw [List.length_append,List.length_append,List.length_replicate,List.length_singleton,List.length_replicate];omega)];rfl
     ·rw [dpt]
      have:=kB (n:=3) fun d hd=>(hmem d hd).2
      omega
    ·rw [decide_eq_false c5] at t5
     by_cases c4:num % 10=4
     ·rw [decide_eq_true c4] at t4
      obtain⟨d,qd,o1,o2,ht⟩:=uT (GM:=GM) (S:=S) (k:=k) (n:=3) (od:=0) hM hk (by decide)
      cases d with
      | tup xs=>
       have ox:=o1
       rw [okd,Bool.and_eq_true,decide_eq_true_eq] at ox
       have dx:=o2
       rw [dpt] at dx
       have h0:=Int.emod_nonneg (num/10) (show(8:Int)≠0 by decide)
       have h1:=Int.emod_lt_of_pos (num/10) (show(0:Int)<8 by decide)
       obtain⟨d,hd,e⟩:=kA [D.lst false xs,.non,.int 7,.str "word",.tup [],.bl true,.tup [.str "end"],.lst false [.tup []]] (num/10 % 8) h0 (by simpa using h1)
       have hdd:ze6 d:=by
        simp only [List.mem_cons,List.not_mem_nil,or_false] at hd
        rcases hd with rfl|rfl|rfl|rfl|rfl|rfl|rfl|rfl
        ·exact⟨by rw [okd,ox.1,decide_eq_true ox.2];rfl,by rw [dpt];omega⟩
        ·exact⟨rfl,by simp [dpt]⟩
        ·exact⟨rfl,by simp [dpt]⟩
        ·exact⟨by decide+kernel,by simp [dpt]⟩
        ·exact⟨rfl,by simp [dpt,bD]⟩
        ·exact⟨rfl,by simp [dpt]⟩
        ·exact⟨oend,by omega⟩
        ·exact⟨rfl,by simp [dpt,bD]⟩
       have fz:fI (aK eB (aA (aK (oY GM) (aA (aD 0) (aA (aD 1) (aA (fC (.int 3)) (aA (fC (.int 0)) aC))))) aC)) [some S,some (.int (k:Int)),some (.int num),none,none]=some (.lst false xs):=by
        unfold fI
        rw [aZ (d:= .lst true xs) (aG (aZ (aG rfl (aG rfl (aG rfl (aG rfl rfl)))) qd) rfl) rfl,Option.bind_some,show sS (.lst true xs)=some xs from if_pos (dF xs ox.1)];rfl
       have vl:bA (aA (fI (aK eB (aA (aK (oY GM) (aA (aD 0) (aA (aD 1) (aA (fC (.int 3)) (aA (fC (.int 0)) aC))))) aC))) (aA (fC .non) (aA (fC (.int 7)) (aA (fC (.str "word")) (aA (aQ aC) (aA (fC (.bl true)) (aA (aQ (aA (fC (.str "end")) aC)) (aA (fI (bA (aA (aQ aC) aC))) aC)))))))) [some S,some (.int (k:Int)),some (.int num),none,none]=some (.lst true [.lst false xs,.non,.int 7,.str "word",.tup [],.bl true,.tup [.str "end"],.lst false [.tup []]]):=hU (aG fz (aG rfl (aG rfl (aG rfl (aG rfl (aG rfl (aG rfl (aG rfl rfl)))))))) (Nat.le_of_ble_eq_true rfl)
       have vx:f2 bZ (f2 dG (aD 2) (fC (.int 10))) (fC (.int 8)) [some S,some (.int (k:Int)),some (.int num),none,none]=some (.int (num/10 % 8)):=aW (aW rfl rfl ((dE _ _).trans (if_pos (by decide)))) rfl ((cV _ _).trans (if_pos (by decide)))
       refine⟨d,fin [some S,some (.int (k:Int)),some (.int num),none,none] _ ?_,hdd⟩
       exact(aH s1).trans ((aH (aU t1)).trans ((aH (aU t2)).trans ((aH (aU t3)).trans ((aH (aU t5)).trans (bN ((bJ t4).trans (bX (aW vl vx e))))))))
      |_=>cases ht
     ·rw [decide_eq_false c4] at t4
      obtain⟨n,qc,n1⟩:=oJ (p:=[some S,some (.int (k:Int)),some (.int num),none,none]) (num:=num) (b:=1) (c:=30) rfl (by decide) (by decide)
      obtain⟨d,qd,o1,o2,_⟩:=uT (GM:=GM) (S:=S) (k:=k) (n:=n) (od:=num/300 % 2) hM hk (by omega)
      have vx:f2 bZ (f2 dG (aD 2) (fC (.int 300))) (fC (.int 2)) [some S,some (.int (k:Int)),some (.int num),none,none]=some (.int (num/300 % 2)):=aW (aW rfl rfl ((dE _ _).trans (if_pos (by decide)))) rfl ((cV _ _).trans (if_pos (by decide)))
      refine⟨d,fin [some S,some (.int (k:Int)),some (.int num),none,none] _ ?_,o1,by omega⟩
      exact(aH s1).trans ((aH (aU t1)).trans ((aH (aU t2)).trans ((aH (aU t3)).trans ((aH (aU t5)).trans ((aH (aU t4)).trans (bX (aZ (aG rfl (aG rfl (aG qc (aG vx rfl)))) qd)))))))
end
abbrev qT(GT GS GI:tz6):tz1:=
 aR (aX 2 (aL (aK GT (aA (aD 0) (aA (aD 1) aC)))))
 (aR (aX 3 (aL (aK GS (aA (aD 2) aC))))
 (aR (aX 4 (aL (dQ (f2 oN (aD 3) (fC .non)) (dQ (f2 dLe (f2 dIx (aD 3) (fC (.int 0))) (fC (.int 12))) (f2 dLe (f2 dIx (aD 3) (fC (.int 1))) (fC (.int 200)))))))
 (aR (aX 5 (aL (aK GI (aA (aD 2) aC))))
 (fIf (aT (eC (cW (fT (aK dA (aA (aD 5) (aA (fC (.ty "bool")) aC))))) (fB (f2 dNe (aD 5) (aD 4)))))
  (bI (aL (fC (.bl false))))
  bK))))
theorem zq5(b:Bool):dNe (.bl b) (.bl b)=some (.bl false):=by cases b<;>rfl
section
variable{GT GS GI:tz6}{S:D}
theorem zs4{n:Nat}{d:D}{k:Int}{x2 x3 x4 x5:Option D}(q:GT [S,.int k]=some d)(qs:GS [d]=some (toD (sn n d)))(qi:GI [d]=some (.bl (kS n d)))(hp:∀y,sn n d=some y->1<=y.1):
  ∃y3,qT GT GS GI [some S,some (.int k),x2,x3,x4,x5]=some (.nx,[some S,some (.int k),some d,y3,some (.bl (kS n d)),some (.bl (kS n d))]):=by
 refine⟨some (toD (sn n d)),?_⟩
 have s1:aX 2 (aL (aK GT (aA (aD 0) (aA (aD 1) aC)))) [some S,some (.int k),x2,x3,x4,x5]=some (.nx,[some S,some (.int k),some d,x3,x4,x5]):=dO (aZ (aG rfl (aG rfl rfl)) q)
 have s2:aX 3 (aL (aK GS (aA (aD 2) aC))) [some S,some (.int k),some d,x3,x4,x5]=some (.nx,[some S,some (.int k),some d,some (toD (sn n d)),x4,x5]):=dO (aZ (aG rfl rfl) qs)
 have s3:aX 4 (aL (dQ (f2 oN (aD 3) (fC .non)) (dQ (f2 dLe (f2 dIx (aD 3) (fC (.int 0))) (fC (.int 12))) (f2 dLe (f2 dIx (aD 3) (fC (.int 1))) (fC (.int 200)))))) [some S,some (.int k),some d,some (toD (sn n d)),x4,x5]=some (.nx,[some S,some (.int k),some d,some (toD (sn n d)),some (.bl (kS n d)),x5]):=by
  refine dO ?_
  unfold kS
  cases e:sn n d with
  |none=>exact iZ rfl
  | some y=>
   obtain⟨a,b⟩:=y
   have ha:1<=a:=hp _ e
   refine(iY rfl).trans ?_
   have v0:f2 dLe (f2 dIx (aD 3) (fC (.int 0))) (fC (.int 12)) [some S,some (.int k),some d,some (toD (some (a,b))),x4,x5]=some (.bl (decide ((a:Int)-1<=12))):=aW (aW rfl rfl (hE _ _)) rfl rfl
   have v1:f2 dLe (f2 dIx (aD 3) (fC (.int 1))) (fC (.int 200)) [some S,some (.int k),some d,some (toD (some (a,b))),x4,x5]=some (.bl (decide ((b:Int)<=200))):=aW (aW rfl rfl (hJ _ _ _)) rfl rfl
   show _=some (D.bl (decide (a<=13)&&decide (b<=200)))
   by_cases c:a<=13
   ·rw [decide_eq_true (by omega)] at v0
    rw [iY v0,v1,decide_eq_true c,Bool.true_and]
    congr 2
    exact decide_eq_decide.mpr (by omega)
   ·rw [decide_eq_false (by omega)] at v0
    rw [iZ v0,decide_eq_false c];rfl
 have s4:aX 5 (aL (aK GI (aA (aD 2) aC))) [some S,some (.int k),some d,some (toD (sn n d)),some (.bl (kS n d)),x5]=some (.nx,[some S,some (.int k),some d,some (toD (sn n d)),some (.bl (kS n d)),some (.bl (kS n d))]):=dO (aZ (aG rfl rfl) qi)
 exact(aH s1).trans ((aH s2).trans ((aH s3).trans ((aH s4).trans (aU (iR (fG (b:=true) (fO (dH rfl (oI _).2))) (dS (aW rfl rfl (zq5 _))))))))
end
section
variable{GM:tz6}
abbrev zo6(n:Nat)(GM:tz6):tz6:=gP 1 5 (zQ (mW GM) (iK n) mV)
theorem zd8{n:Nat}{S:D}(hn:45<n)(h4:n<400)(hM:∀j s:Int,0<=j->j<1000->0<=s->s<1000->∃a,GM [S,.int j,.int s]=some (.int a)/\0<=a):∀(c k:Nat) (x1 x2 x3 x4 x5:Option D),k+c<=100->∃y1 y2 y3 y4 y5,cQ 1 (qT (mW GM) (iK n) mV) (gM (k:Int) c) [some S,x1,x2,x3,x4,x5]=some (.nx,[some S,y1,y2,y3,y4,y5])
 |0,k,x1,x2,x3,x4,x5,_=>⟨x1,x2,x3,x4,x5,rfl⟩
 |c+1,k,x1,x2,x3,x4,x5,hk=>by
  obtain⟨d,q,o1,o2⟩:=zc0 (GM:=GM) (S:=S) hM (k:=k) (by omega)
  obtain⟨y3,l⟩:=zs4 (n:=n) (k:=(k:Int)) (x2:=x2) (x3:=x3) (x4:=x4) (x5:=x5) q (vW n d (by omega) o1 (by omega)) (zb5 o1 (by omega) (by omega) h4) (fun y hy=>uL hy)
  obtain⟨z1,z2,z3,z4,z5,q2⟩:=zd8 hn h4 hM c (k+1) (some (.int (k:Int))) (some d) y3 (some (.bl (kS n d))) (some (.bl (kS n d))) (by omega)
  refine⟨z1,z2,z3,z4,z5,?_⟩
  rw [qK,cQ]
  show((qT (mW GM) (iK n) mV [some S,some (.int (k:Int)),x2,x3,x4,x5]).bind _)=_
  rw [l];exact q2
theorem xC{n:Nat}{xs:List D}(hn:45<n)(h4:n<400)(hl:xs.length<=63)(hM:∀j s:Int,0<=j->j<1000->0<=s->s<1000->∃a,GM [.con xs,.int j,.int s]=some (.int a)/\0<=a):zo6 n GM [.con xs]=some (.bl true):=by
 obtain⟨c,hc,c1⟩:∃c:Nat,(if (12:Int)<(xs.length:Int)+2 then(12:Int) else(xs.length:Int)+2)=(c:Int)/\c<=12:=by
  by_cases z:(12:Int)<(xs.length:Int)+2
  ·exact⟨12,by rw [if_pos z];rfl,Nat.le_refl _⟩
  ·exact⟨xs.length+2,by rw [if_neg z];push_cast;rfl,by omega⟩
 obtain⟨y1,y2,y3,y4,y5,q⟩:=zd8 (GM:=GM) (S:= .con xs) hn h4 hM c 0 none none none none none (by omega)
 have s1:dM 1 (eW (aA (aK gF (aA (f2 bP (aK bU (aA (aD 0) aC)) (fC (.int 2))) (aA (fC (.int 12)) aC))) aC)) (qT (mW GM) (iK n) mV) [some (.con xs),none,none,none,none,none]=some (.nx,[some (.con xs),y1,y2,y3,y4,y5]):=by
  have e:aA (aK gF (aA (f2 bP (aK bU (aA (aD 0) aC)) (fC (.int 2))) (aA (fC (.int 12)) aC))) aC [some (.con xs),none,none,none,none,none]=some [.int (c:Int)]:=by
   refine aG (aZ (aG (aW (aZ (aG rfl rfl) rfl) rfl rfl) (aG rfl rfl)) ?_) rfl
   rw [<-hc];rfl
  unfold dM eW
  rw [e,Option.bind_some,zl8 (by omega)]
  exact q
 exact fN rfl ((aH s1).trans (bX rfl))
end
end My
namespace My
open PySem PySem.Spec PyProof.Rows L2 L3
variable{P:Program}{w:World}{K:tz0}{mg:tzA}{base:Heap}{κ:tz9}
abbrev vD:List D->Option (List Int):=D.ints
theorem qN:∀ns:List Int,vD (ns.map .int)=some ns
 |[]=>rfl
 |n::ns=>by show(D.ints (ns.map .int)).map (n::·)=_;rw [show D.ints (ns.map .int)=some ns from qN ns];rfl
def zd0:tz6
 |[.con xs,.int k,.int s]=>match vD xs with
  |some ns=>if ns.length<=63/\(0<=k/\k<1000000)/\(0<=s/\s<1000000) then some (.int (nO ns k s)) else none
  |none=>none
 |_=>none
theorem zc1{ns:List Int}(h:ns.length<=63)(k s:Int)(hk:0<=k)(hk1:k<1000)(hs:0<=s)(hs1:s<1000):∃m,zd0 [.con (ns.map .int),.int k,.int s]=some (.int m)/\0<=m:=by
 refine⟨nO ns k s,?_,(vG ns k s).1⟩
 show(match vD (ns.map .int) with|some ns=>if ns.length<=63/\(0<=k/\k<1000000)/\(0<=s/\s<1000000) then some (D.int (nO ns k s)) else none|none=>none)=_
 rw [qN]
 exact if_pos ⟨h,⟨hk,by omega⟩,hs,by omega⟩
theorem zs5{k:Nat}{f:Addr}{fd:FuncData}{ps:List Str}(F:FnOk P w K mg base CX0 k f fd ps (wA K)):FnOk P w K mg base CX0 k f fd ps (SpP 3 K κ zd0):=by
 refine F.imp fun vs H Q E ⟨_,ds,fp,d,r,e,q⟩=> ?_
 unfold zd0 at e
 split at e
 ·rename_i xs k s
  split at e
  ·rename_i ns hns
   obtain⟨hc,e⟩:=cB e
   cases e
   obtain⟨v1,us,f,g,rfl,r1,r2,rfl⟩:=r.split
   obtain⟨v2,us2,f2,g2,rfl,r3,r4,rfl⟩:=r2.split
   obtain⟨v3,rfl,r5⟩:=r4.one_inv
   rw [r3.is_int,r5.is_int]
   obtain⟨a,vs,rfl,hS,hs⟩:=r1.con_inv
   rw [mK hs hns] at hS
   exact⟨a,ns,k,s,rfl,hS.l,hc.1,hc.2.1,hc.2.2,q _ H [] (SameK.refl H) (fun _ ha=>absurd ha (by simp)) List.nodup_nil (.int _)⟩
  ·cases e
 ·cases e
def sV(K:tz0):Sp:=fun vs H Q _=>∃(a:Addr) (ns:List Int),vs=[.ref a]/\SqF K H a (ns.map V.int)/\ns.length<=63/\∀H',Q (.bl true) H'
theorem sI{H:Hp}:∀ns:List Int,Reps K κ H (ns.map V.int) (ns.map .int) []
 |[]=> .nil
 |n::ns=> .cons (f:=[]) (g:=[]) (.int n) (sI ns)
theorem zs6{k:Nat}{f:Addr}{fd:FuncData}{ps:List Str}{g:tz6}(F:FnOk P w K mg base CX0 k f fd ps (SpP 1 K κ g))(h:∀ns:List Int,ns.length<=63->g [.con (ns.map .int)]=some (.bl true)):FnOk P w K mg base CX0 k f fd ps (sV K):=
 F.imp fun vs H Q E ⟨a,ns,e,hS,hl,q⟩=>e▸⟨rfl,[.con (ns.map .int)],[],.bl true,.cons (f:=[]) (g:=[]) (.con hS (sI ns)) .nil,h ns hl,fun v H' fv _ _ _ r=>by cases r;exact q H'⟩
def Cur:Nat->(List Value->Prop)->Prop
 |0,P=>P []
 |n+1,P=>∀a,Cur n fun us=>P (a::us)
theorem dP{n:Nat}:∀{P:List Value->Prop},Cur n P->∀us:List Value,us.length=n->P us:=by
 induction n with
 |zero=>intro P h us hl;cases List.eq_nil_of_length_eq_zero hl;exact h
 |succ n ih=>
  intro P h us hl
  cases us with
  |nil=>cases hl
  |cons a us=>exact ih (h a) us (Nat.succ.inj hl)
theorem fH{h:Heap}(X:K.In h)(G:h.Ns mainGlobals mg){x:Str}{st:Stmt}{f:Addr}{od an:Option Addr}{sl:Array (Option Value)}{oc kV dc pm cd ct:Value}{ps:List Str}
  (a:PySem.W.nsIn K mainGlobals x=some (some (.ref f))) (l:K.lookup f=some ⟨oc,od,.func (PySem.W.fnOf x x (cL st) (cD st) (aV st) .none kV dc pm an cd ct),sl⟩) (c:PySem.W.codeIn K cd x=true) (k:PySem.W.keepIn K (.ref f)=true)
  (hb:∀(kV doc pm:Value) (an:Option Addr) (cdv ct:Value) (us:List Value),us.length=ps.length->bindArgs (PySem.W.fnOf x x (cL st) (cD st) (aV st) .none kV doc pm an cdv ct) ⟨us,[]⟩=pure (ps.zip us)):
  Dn K mg x st ps f (PySem.W.fnOf x x (cL st) (cD st) (aV st) .none kV dc pm an cd ct):=
 ⟨yF l c k,(yF l c k).binds hb,PySem.W.mg_of X G a⟩
theorem zs7{l:PySem.W.OpenLaw}{q:Program}{loose:List Str}{XP:(tzA)->Heap->Prop}{YP:World->Heap->Prop}{d:DefRec}{K:Params->tz0}{lev:Nat}(hn:l.most=some 63)(hdf:d.params.defaults=[])(hr:Room lev callerA)
  (hY:∀(w:World) (h:Heap),YP w h->(K w.params).In h)
  (F:∀(w:World) (mg:tzA) (fa:Addr) (h:Heap),(K w.params).In h->h.Ns mainGlobals mg->mg d.name=some (.ref fa)->
   ∃fd:FuncData,(∀(s:Shared) (u:Value),BindsTo s fd ⟨[u],[]⟩ [("_law_script",u)])/\∀base:Heap,(K w.params).In base->base.Ns mainGlobals mg->FnOk l.prog w (K w.params) mg base CX0 lev fa fd ["_law_script"] (sV (K w.params))):
  PySem.W.WalkO q loose XP YP l.row.toRowW d [] (fun f vs=>PySem.call f vs):=
 L2.zf8 (n:=63) (k:=lev) (x:="_law_script") (CX:=fun _=>CX0) (sp:=fun w=>sV (K w.params)) hn (by decide) hdf hr hY F (fun _ H a ns hl hO hS=>⟨a,ns,rfl,by
  rcases hS with (h|h)|h
  ·rcases hO a with z|⟨o,xs,z⟩<;>rw [h] at z<;>cases z
  ·exact .inl h
  ·exact .inr h,hl,fun _=>rfl⟩) fun _ _ _ _ _ z=>z
end My
namespace My
open PySem PySem.Spec PyProof.Rows L2 L3
theorem zn1{l:PySem.W.OpenLaw}{w:World}{K:tz0}{h:Heap}{mg:tzA}{fa f0 f1 f2 f3 f4 f5 f6 f7 f8 f9 f10 f11 f12 f13 f14 f15 f16 f17 f18 f19:Addr}(X:K.In h)(G:h.Ns mainGlobals mg)(hfa:mg "law"=some (.ref fa))
  {od0 an0 od1 an1 od2 an2 od3 an3 od4 an4 od5 an5 od6 an6 od7 an7 od8 an8 od9 an9 od10 an10 od11 an11 od12 an12 od13 an13 od14 an14 od15 an15 od16 an16 od17 an17 od18 an18 od19 an19:Option Addr} {sl0 sl1 sl2 sl3 sl4 sl5 sl6 sl7 sl8 sl9 sl10 sl11 sl12 sl13 sl14 sl15 sl16 sl17 sl18 sl19:Array (Option Value)} {oc0 kV0 dc0 pm0 cd0 ct0 oc1 kV1 dc1 pm1 cd1 ct1 oc2 kV2 dc2 pm2 cd2 ct2 oc3 kV3 dc3 pm3 cd3 ct3 oc4 kV4 dc4 pm4 cd4 ct4 oc5 kV5 dc5 pm5 cd5 ct5 oc6 kV6 dc6 pm6 cd6 ct6 oc7 kV7 dc7 pm7 cd7 ct7 oc8 kV8 dc8 pm8 cd8 ct8 oc9 kV9 dc9 pm9 cd9 ct9 oc10 kV10 dc10 pm10 cd10 ct10 oc11 kV11 dc11 pm11 cd11 ct11 oc12 kV12 dc12 pm12 cd12 ct12 oc13 kV13 dc13 pm13 cd13 ct13 oc14 kV14 dc14 pm14 cd14 ct14 oc15 kV15 dc15 pm15 cd15 ct15 oc16 kV16 dc16 pm16 cd16 ct16 oc17 kV17 dc17 pm17 cd17 ct17 oc18 kV18 dc18 pm18 cd18 ct18 oc19 kV19 dc19 pm19 cd19 ct19:Value}
  {v0 v1 v2 v3 v4 v5 v6:Value}
  (a0:PySem.W.nsIn K mainGlobals "is_word"=some (some (.ref f0))) (l0:K.lookup f0=some ⟨oc0,od0,.func (PySem.W.fnOf "is_word" "is_word" (cL fE) (cD fE) (aV fE) .none kV0 dc0 pm0 an0 cd0 ct0),sl0⟩) (c0:PySem.W.codeIn K cd0 "is_word"=true) (k0:PySem.W.keepIn K (.ref f0)=true)
  (a1:PySem.W.nsIn K mainGlobals "is_number_up_to"=some (some (.ref f1))) (l1:K.lookup f1=some ⟨oc1,od1,.func (PySem.W.fnOf "is_number_up_to" "is_number_up_to" (cL cT) (cD cT) (aV cT) .none kV1 dc1 pm1 an1 cd1 ct1),sl1⟩) (c1:PySem.W.codeIn K cd1 "is_number_up_to"=true) (k1:PySem.W.keepIn K (.ref f1)=true)
  (a2:PySem.W.nsIn K mainGlobals "is_content"=some (some (.ref f2))) (l2:K.lookup f2=some ⟨oc2,od2,.func (PySem.W.fnOf "is_content" "is_content" (cL eI) (cD eI) (aV eI) .none kV2 dc2 pm2 an2 cd2 ct2),sl2⟩) (c2:PySem.W.codeIn K cd2 "is_content"=true) (k2:PySem.W.keepIn K (.ref f2)=true)
  (a3:PySem.W.nsIn K mainGlobals "is_piece_outside"=some (some (.ref f3))) (l3:K.lookup f3=some ⟨oc3,od3,.func (PySem.W.fnOf "is_piece_outside" "is_piece_outside" (cL dC) (cD dC) (aV dC) .none kV3 dc3 pm3 an3 cd3 ct3),sl3⟩) (c3:PySem.W.codeIn K cd3 "is_piece_outside"=true) (k3:PySem.W.keepIn K (.ref f3)=true)
  (a4:PySem.W.nsIn K mainGlobals "is_row_outside"=some (some (.ref f4))) (l4:K.lookup f4=some ⟨oc4,od4,.func (PySem.W.fnOf "is_row_outside" "is_row_outside" (cL cX) (cD cX) (aV cX) .none kV4 dc4 pm4 an4 cd4 ct4),sl4⟩) (c4:PySem.W.codeIn K cd4 "is_row_outside"=true) (k4:PySem.W.keepIn K (.ref f4)=true)
  (a5:PySem.W.nsIn K mainGlobals "rows_in"=some (some (.ref f5))) (l5:K.lookup f5=some ⟨oc5,od5,.func (PySem.W.fnOf "rows_in" "rows_in" (cL fY) (cD fY) (aV fY) .none kV5 dc5 pm5 an5 cd5 ct5),sl5⟩) (c5:PySem.W.codeIn K cd5 "rows_in"=true) (k5:PySem.W.keepIn K (.ref f5)=true)
  (a6:PySem.W.nsIn K mainGlobals "rows_below"=some (some (.ref f6))) (l6:K.lookup f6=some ⟨oc6,od6,.func (PySem.W.fnOf "rows_below" "rows_below" (cL eJ) (cD eJ) (aV eJ) .none kV6 dc6 pm6 an6 cd6 ct6),sl6⟩) (c6:PySem.W.codeIn K cd6 "rows_below"=true) (k6:PySem.W.keepIn K (.ref f6)=true)
  (a7:PySem.W.nsIn K mainGlobals "is_row"=some (some (.ref f7))) (l7:K.lookup f7=some ⟨oc7,od7,.func (PySem.W.fnOf "is_row" "is_row" (cL eX) (cD eX) (aV eX) .none kV7 dc7 pm7 an7 cd7 ct7),sl7⟩) (c7:PySem.W.codeIn K cd7 "is_row"=true) (k7:PySem.W.keepIn K (.ref f7)=true)
  (a8:PySem.W.nsIn K mainGlobals "_law_cell_at"=some (some (.ref f8))) (l8:K.lookup f8=some ⟨oc8,od8,.func (PySem.W.fnOf "_law_cell_at" "_law_cell_at" (cL fX) (cD fX) (aV fX) .none kV8 dc8 pm8 an8 cd8 ct8),sl8⟩) (c8:PySem.W.codeIn K cd8 "_law_cell_at"=true) (k8:PySem.W.keepIn K (.ref f8)=true)
  (a9:PySem.W.nsIn K mainGlobals "_law_mixed"=some (some (.ref f9))) (l9:K.lookup f9=some ⟨oc9,od9,.func (PySem.W.fnOf "_law_mixed" "_law_mixed" (cL gQ) (cD gQ) (aV gQ) .none kV9 dc9 pm9 an9 cd9 ct9),sl9⟩) (c9:PySem.W.codeIn K cd9 "_law_mixed"=true) (k9:PySem.W.keepIn K (.ref f9)=true)
  (a10:PySem.W.nsIn K mainGlobals "_law_word"=some (some (.ref f10))) (l10:K.lookup f10=some ⟨oc10,od10,.func (PySem.W.fnOf "_law_word" "_law_word" (cL jC) (cD jC) (aV jC) .none kV10 dc10 pm10 an10 cd10 ct10),sl10⟩) (c10:PySem.W.codeIn K cd10 "_law_word"=true) (k10:PySem.W.keepIn K (.ref f10)=true)
  (a11:PySem.W.nsIn K mainGlobals "_law_leaf"=some (some (.ref f11))) (l11:K.lookup f11=some ⟨oc11,od11,.func (PySem.W.fnOf "_law_leaf" "_law_leaf" (cL jE) (cD jE) (aV jE) .none kV11 dc11 pm11 an11 cd11 ct11),sl11⟩) (c11:PySem.W.codeIn K cd11 "_law_leaf"=true) (k11:PySem.W.keepIn K (.ref f11)=true)
  (a12:PySem.W.nsIn K mainGlobals "_law_odd"=some (some (.ref f12))) (l12:K.lookup f12=some ⟨oc12,od12,.func (PySem.W.fnOf "_law_odd" "_law_odd" (cL jX) (cD jX) (aV jX) .none kV12 dc12 pm12 an12 cd12 ct12),sl12⟩) (c12:PySem.W.codeIn K cd12 "_law_odd"=true) (k12:PySem.W.keepIn K (.ref f12)=true)
  (a13:PySem.W.nsIn K mainGlobals "_law_shape"=some (some (.ref f13))) (l13:K.lookup f13=some ⟨oc13,od13,.func (PySem.W.fnOf "_law_shape" "_law_shape" (cL iH) (cD iH) (aV iH) .none kV13 dc13 pm13 an13 cd13 ct13),sl13⟩) (c13:PySem.W.codeIn K cd13 "_law_shape"=true) (k13:PySem.W.keepIn K (.ref f13)=true)
  (a14:PySem.W.nsIn K mainGlobals "_law_thing"=some (some (.ref f14))) (l14:K.lookup f14=some ⟨oc14,od14,.func (PySem.W.fnOf "_law_thing" "_law_thing" (cL iI) (cD iI) (aV iI) .none kV14 dc14 pm14 an14 cd14 ct14),sl14⟩) (c14:PySem.W.codeIn K cd14 "_law_thing"=true) (k14:PySem.W.keepIn K (.ref f14)=true)
  (a15:PySem.W.nsIn K mainGlobals "_law_upto"=some (some (.ref f15))) (l15:K.lookup f15=some ⟨oc15,od15,.func (PySem.W.fnOf "_law_upto" "_law_upto" (cL iB) (cD iB) (aV iB) .none kV15 dc15 pm15 an15 cd15 ct15),sl15⟩) (c15:PySem.W.codeIn K cd15 "_law_upto"=true) (k15:PySem.W.keepIn K (.ref f15)=true)
  (a16:PySem.W.nsIn K mainGlobals "_law_leaf_good"=some (some (.ref f16))) (l16:K.lookup f16=some ⟨oc16,od16,.func (PySem.W.fnOf "_law_leaf_good" "_law_leaf_good" (cL eR) (cD eR) (aV eR) .none kV16 dc16 pm16 an16 cd16 ct16),sl16⟩) (c16:PySem.W.codeIn K cd16 "_law_leaf_good"=true) (k16:PySem.W.keepIn K (.ref f16)=true)
  (a17:PySem.W.nsIn K mainGlobals "_law_rows"=some (some (.ref f17))) (l17:K.lookup f17=some ⟨oc17,od17,.func (PySem.W.fnOf "_law_rows" "_law_rows" (cL jF) (cD jF) (aV jF) .none kV17 dc17 pm17 an17 cd17 ct17),sl17⟩) (c17:PySem.W.codeIn K cd17 "_law_rows"=true) (k17:PySem.W.keepIn K (.ref f17)=true)
  (a18:PySem.W.nsIn K mainGlobals "_law_seen"=some (some (.ref f18))) (l18:K.lookup f18=some ⟨oc18,od18,.func (PySem.W.fnOf "_law_seen" "_law_seen" (cL jG) (cD jG) (aV jG) .none kV18 dc18 pm18 an18 cd18 ct18),sl18⟩) (c18:PySem.W.codeIn K cd18 "_law_seen"=true) (k18:PySem.W.keepIn K (.ref f18)=true)
  (a19:PySem.W.nsIn K mainGlobals "law"=some (some (.ref f19))) (l19:K.lookup f19=some ⟨oc19,od19,.func (PySem.W.fnOf "law" "law" (cL kJ) (cD kJ) (aV kJ) .none kV19 dc19 pm19 an19 cd19 ct19),sl19⟩) (c19:PySem.W.codeIn K cd19 "law"=true) (k19:PySem.W.keepIn K (.ref f19)=true)
  (z0:PySem.W.nsIn K mainGlobals "all"=some none)
  (z1:PySem.W.nsIn K mainGlobals "isinstance"=some none)
  (z2:PySem.W.nsIn K mainGlobals "str"=some none)
  (z3:PySem.W.nsIn K mainGlobals "len"=some none)
  (z4:PySem.W.nsIn K mainGlobals "bool"=some none)
  (z5:PySem.W.nsIn K mainGlobals "int"=some none)
  (z6:PySem.W.nsIn K mainGlobals "tuple"=some none)
  (z7:PySem.W.nsIn K mainGlobals "list"=some none)
  (z8:PySem.W.nsIn K mainGlobals "sum"=some none)
  (z9:PySem.W.nsIn K mainGlobals "max"=some none)
  (z10:PySem.W.nsIn K mainGlobals "range"=some none)
  (z11:PySem.W.nsIn K mainGlobals "min"=some none)
  (g0:PySem.W.nsIn K mainGlobals "LONGEST_WORD"=some (some v0))
  (gi0:∃t,v0= .int 12 t)
  (g1:PySem.W.nsIn K mainGlobals "FURTHEST_STOP"=some (some v1))
  (gi1:∃t,v1= .int 40 t)
  (g2:PySem.W.nsIn K mainGlobals "WIDEST_HANG"=some (some v2))
  (gi2:∃t,v2= .int 12 t)
  (g3:PySem.W.nsIn K mainGlobals "FEWEST_ROWS"=some (some v3))
  (gi3:∃t,v3= .int 2 t)
  (g4:PySem.W.nsIn K mainGlobals "MOST_ROWS"=some (some v4))
  (gi4:∃t,v4= .int 4 t)
  (g5:PySem.W.nsIn K mainGlobals "DEEPEST"=some (some v5))
  (gi5:∃t,v5= .int 12 t)
  (g6:PySem.W.nsIn K mainGlobals "MOST_TOKENS"=some (some v6))
  (gi6:∃t,v6= .int 200 t)
  :∃fd:FuncData,(∀(s:Shared) (v:Value),BindsTo s fd ⟨[v],[]⟩ [("_law_script",v)])/\∀base:Heap,K.In base->base.Ns mainGlobals mg->FnOk l.prog w K mg base CX0 54 fa fd ["_law_script"] (sV K):=by
 have e:=hfa.symm.trans (PySem.W.mg_of X G a19)
 cases e
 have bc:=fH (st:=fE) (ps:=["thing"]) X G a0 l0 c0 k0 fun _ _ _ _ _ _=>dP (fun _=>rfl)
 have ad:=fH (st:=cT) (ps:=["thing","most"]) X G a1 l1 c1 k1 fun _ _ _ _ _ _=>dP (fun _ _=>rfl)
 have ao:=fH (st:=eI) (ps:=["kind","thing"]) X G a2 l2 c2 k2 fun _ _ _ _ _ _=>dP (fun _ _=>rfl)
 have af:=fH (st:=dC) (ps:=["thing"]) X G a3 l3 c3 k3 fun _ _ _ _ _ _=>dP (fun _=>rfl)
 have ah:=fH (st:=cX) (ps:=["thing"]) X G a4 l4 c4 k4 fun _ _ _ _ _ _=>dP (fun _=>rfl)
 have bd:=fH (st:=fY) (ps:=["piece"]) X G a5 l5 c5 k5 fun _ _ _ _ _ _=>dP (fun _=>rfl)
 have aq:=fH (st:=eJ) (ps:=["rows"]) X G a6 l6 c6 k6 fun _ _ _ _ _ _=>dP (fun _=>rfl)
 have bm:=fH (st:=eX) (ps:=["thing"]) X G a7 l7 c7 k7 fun _ _ _ _ _ _=>dP (fun _=>rfl)
 have cb:=fH (st:=fX) (ps:=["_law_script","_law_k"]) X G a8 l8 c8 k8 fun _ _ _ _ _ _=>dP (fun _ _=>rfl)
 have aw:=fH (st:=gQ) (ps:=["_law_script","_law_k","_law_salt"]) X G a9 l9 c9 k9 fun _ _ _ _ _ _=>dP (fun _ _ _=>rfl)
 have b6:=fH (st:=jC) (ps:=["_law_number"]) X G a10 l10 c10 k10 fun _ _ _ _ _ _=>dP (fun _=>rfl)
 have b7:=fH (st:=jE) (ps:=["_law_number"]) X G a11 l11 c11 k11 fun _ _ _ _ _ _=>dP (fun _=>rfl)
 have cz:=fH (st:=jX) (ps:=["_law_number"]) X G a12 l12 c12 k12 fun _ _ _ _ _ _=>dP (fun _=>rfl)
 have bg:=fH (st:=iH) (ps:=["_law_script","_law_at","_law_many","_law_odd_here"]) X G a13 l13 c13 k13 fun _ _ _ _ _ _=>dP (fun _ _ _ _=>rfl)
 have br:=fH (st:=iI) (ps:=["_law_script","_law_k"]) X G a14 l14 c14 k14 fun _ _ _ _ _ _=>dP (fun _ _=>rfl)
 have ay:=fH (st:=iB) (ps:=["_law_thing_here","_law_most"]) X G a15 l15 c15 k15 fun _ _ _ _ _ _=>dP (fun _ _=>rfl)
 have au:=fH (st:=eR) (ps:=["_law_piece"]) X G a16 l16 c16 k16 fun _ _ _ _ _ _=>dP (fun _=>rfl)
 have b9:=fH (st:=jF) (ps:=["_law_piece"]) X G a17 l17 c17 k17 fun _ _ _ _ _ _=>dP (fun _=>rfl)
 have bp:=fH (st:=jG) (ps:=["_law_thing_here"]) X G a18 l18 c18 k18 fun _ _ _ _ _ _=>dP (fun _=>rfl)
 have gu:=fH (st:=kJ) (ps:=["_law_script"]) X G a19 l19 c19 k19 fun _ _ _ _ _ _=>dP (fun _=>rfl)
 have cv:=PySem.W.mg_none_of X G z0
 have aa:=PySem.W.mg_none_of X G z1
 have cc:=PySem.W.mg_none_of X G z2
 have ab:=PySem.W.mg_none_of X G z3
 have bu:=PySem.W.mg_none_of X G z4
 have ej:=PySem.W.mg_none_of X G z5
 have ac:=PySem.W.mg_none_of X G z6
 have bb:=PySem.W.mg_none_of X G z7
 have gr:=PySem.W.mg_none_of X G z8
 have eh:=PySem.W.mg_none_of X G z9
 have ar:=PySem.W.mg_none_of X G z10
 have gv:=PySem.W.mg_none_of X G z11
 have b0:=PySem.W.mg_of X G g0
 obtain⟨t0,ei0⟩:=gi0
 subst ei0
 have bv:=PySem.W.mg_of X G g1
 obtain⟨t1,ei1⟩:=gi1
 subst ei1
 have cr:=PySem.W.mg_of X G g2
 obtain⟨t2,ei2⟩:=gi2
 subst ei2
 have cq:=PySem.W.mg_of X G g3
 obtain⟨t3,ei3⟩:=gi3
 subst ei3
 have dq:=PySem.W.mg_of X G g4
 obtain⟨t4,ei4⟩:=gi4
 subst ei4
 have d9:=PySem.W.mg_of X G g5
 obtain⟨t5,ei5⟩:=gi5
 subst ei5
 have bn:=PySem.W.mg_of X G g6
 obtain⟨t6,ei6⟩:=gi6
 subst ei6
 refine⟨PySem.W.fnOf "law" "law" (cL kJ) (cD kJ) (aV kJ) .none kV19 dc19 pm19 an19 cd19 ct19,fun s v=> .of_eq rfl,fun base KB _=> ?_⟩
 have H1:=uE (P:=l.prog) (w:=w) (base:=base) (n:=0) cb ab
 have H2:=wY (n:=1) aw cb H1 ab eh
 have bh:=zs5 (κ:=(fun _=>mainGlobals)) H2
 have gb:=zb2 (P:=l.prog) (w:=w) (base:=base) (κ:=(fun _=>mainGlobals)) (n:=0) cz ab
 have ez:=yU (P:=l.prog) (w:=w) (base:=base) (κ:=(fun _=>mainGlobals)) (n:=0) b6 ar
 have fg:=yV (P:=l.prog) (w:=w) (base:=base) (κ:=(fun _=>mainGlobals)) (n:=1) b7 b6 (ez.mono (by decide))
 have di:=wZ (P:=l.prog) (w:=w) (base:=base) (κ:=(fun _=>mainGlobals)) (n:=2) bg aw (bh.mono (by decide)) cz (gb.mono (by decide)) b7 (fg.mono (by decide)) ar ac ab bb
 have ee:=xA (P:=l.prog) (w:=w) (base:=base) (κ:=(fun _=>mainGlobals)) (n:=3) br aw (bh.mono (by decide)) bg (di.mono (by decide)) ac ar bb
 have b8:=yX (P:=l.prog) (w:=w) (base:=base) (κ:=(fun _=>mainGlobals)) (n:=0) ay aa ej bu
 have cu:=rE (P:=l.prog) (w:=w) (base:=base) (κ:=(fun _=>mainGlobals)) (n:=1) au ay (b8.mono (by decide)) aa cc ab
 have fj:=yZ (P:=l.prog) (w:=w) (base:=base) (κ:=(fun _=>mainGlobals)) (n:=2) b9 ay (b8.mono (by decide)) au (cu.mono (by decide)) aa ac bb ab cc
 have gw:∀n,FnOk l.prog w K mg base CX0 (n+3) _ _ ["_law_thing_here"] (SpP 1 K (fun _=>mainGlobals) (iK n)):=fun n=>by
  induction n with
  |zero=>exact FnOk.noneP (ps:=["_law_thing_here"])
  |succ n ih=>exact zA bp b9 (fj.mono (by omega)) ih aa ac ab eh
 have db:=gw 50
 have ag:=nF (P:=l.prog) (w:=w) (base:=base) (κ:=(fun _=>mainGlobals)) (n:=0) ad aa bu ej
 have dm:=uG (P:=l.prog) (w:=w) (base:=base) (κ:=(fun _=>mainGlobals)) (n:=0) bc cv aa cc ab b0
 have b4:=qI (P:=l.prog) (w:=w) (base:=base) (κ:=(fun _=>mainGlobals)) (n:=1) ao bc (dm.mono (by decide)) ad (ag.mono (by decide)) aa ac ab bv cq dq
 have ax:=mN (P:=l.prog) (w:=w) (base:=base) (κ:=(fun _=>mainGlobals)) (n:=2) af ad (ag.mono (by decide)) ao (b4.mono (by decide)) aa ac ab cr
 have bf:=nU (P:=l.prog) (w:=w) (base:=base) (κ:=(fun _=>mainGlobals)) (n:=3) ah af (ax.mono (by decide)) aa ac cv
 have dr:=uH (P:=l.prog) (w:=w) (base:=base) (κ:=(fun _=>mainGlobals)) (n:=0) bd bb
 have b5:=qJ (P:=l.prog) (w:=w) (base:=base) (κ:=(fun _=>mainGlobals)) (n:=1) aq bd (dr.mono (by decide))
 have d5:=vH (P:=l.prog) (w:=w) (base:=base) (κ:=(fun _=>mainGlobals)) (n:=4) bm ah (bf.mono (by decide)) aq (b5.mono (by decide)) cv ab gr d9 bn
 have jz:=zl6 (P:=l.prog) (w:=w) (base:=base) (κ:=(fun _=>mainGlobals)) (n:=53) gu br (ee.mono (by decide)) bp (db.mono (by decide)) bm (d5.mono (by decide)) ar gv ab aa bu
 exact zs6 jz fun ns hl=>xC (by decide) (by decide) (by rw [List.length_map];exact hl) (zc1 hl)
end My
open PySem PySem.W PyProof.Rows
set_option maxRecDepth 100000 in
set_option maxHeartbeats 0 in
theorem PySem.Challenge.cw_linepress_k05_rows_known_holds : PySem.Challenge.rw_linepress_k05_rows_known.Holds := by
 w_on;o_law;k_head;(case hw=>w_witness2)
 k_fill
 refine My.zs7 (lev:=54) (l:=PySem.Challenge.rw_linepress_k05_rows_known) rfl rfl ⟨rfl,by decide,by decide⟩ (fun w h Y=>PySem.W.kIn_of Y) ?F
 case F=>
  intro w mg fa h KX G hmg
  refine' My.zn1 KX G hmg ?j0 ?j1 ?j2 ?j3 ?j4 ?j5 ?j6 ?j7 ?j8 ?j9 ?ka ?kb ?kc ?ke ?kf ?kg ?kh ?ki ?kj ?kl ?km ?kn ?ko ?kq ?kr ?kt ?ku ?kw ?kx ?ky ?kz ?la ?lb ?lc ?ld ?lg ?lh ?li ?lj ?ll ?gx ?gy ?gz ?g7 ?g8 ?g9 ?ib ?ic ?ie ?ig ?ii ?ij ?ik ?ip ?iq ?ir ?iu ?iw ?iy ?iz ?i6 ?i7 ?i8 ?i9 ?ja ?jb ?jc ?jd ?je ?jf ?jg ?jh ?ji ?jj ?jk ?jl ?jm ?jn ?jo ?jp ?lm ?lq ?lr ?ls ?lu ?lw ?lx ?ly ?lz ?ma ?jq ?jr ?md ?js ?me ?jt ?mf ?ju ?mh ?jv ?mi ?jw ?mj ?jx ?ml ?jy
  (case j0=>k_is)
  (case j1=>k_is)
  (case j2=>k_is)
  (case j3=>k_is)
  (case j4=>k_is)
  (case j5=>k_is)
  (case j6=>k_is)
  (case j7=>k_is)
  (case j8=>k_is)
  (case j9=>k_is)
  (case ka=>k_is)
  (case kb=>k_is)
  (case kc=>k_is)
  (case ke=>k_is)
  (case kf=>k_is)
  (case kg=>k_is)
  (case kh=>k_is)
  (case ki=>k_is)
  (case kj=>k_is)
  (case kl=>k_is)
  (case km=>k_is)
  (case kn=>k_is)
  (case ko=>k_is)
  (case kq=>k_is)
  (case kr=>k_is)
  (case kt=>k_is)
  (case ku=>k_is)
  (case kw=>k_is)
  (case kx=>k_is)
  (case ky=>k_is)
  (case kz=>k_is)
  (case la=>k_is)
  (case lb=>k_is)
  (case lc=>k_is)
  (case ld=>k_is)
  (case lg=>k_is)
  (case lh=>k_is)
  (case li=>k_is)
  (case lj=>k_is)
  (case ll=>k_is)
  (case gx=>k_is)
  (case gy=>k_is)
  (case gz=>k_is)
  (case g7=>k_is)
  (case g8=>k_is)
  (case g9=>k_is)
  (case ib=>k_is)
  (case ic=>k_is)
  (case ie=>k_is)
  (case ig=>k_is)
  (case ii=>k_is)
  (case ij=>k_is)
  (case ik=>k_is)
  (case ip=>k_is)
  (case iq=>k_is)
  (case ir=>k_is)
  (case iu=>k_is)
  (case iw=>k_is)
  (case iy=>k_is)
  (case iz=>k_is)
  (case i6=>k_is)
  (case i7=>k_is)
  (case i8=>k_is)
  (case i9=>k_is)
  (case ja=>k_is)
  (case jb=>k_is)
  (case jc=>k_is)
  (case jd=>k_is)
  (case je=>k_is)
  (case jf=>k_is)
  (case jg=>k_is)
  (case jh=>k_is)
  (case ji=>k_is)
  (case jj=>k_is)
  (case jk=>k_is)
  (case jl=>k_is)
  (case jm=>k_is)
  (case jn=>k_is)
  (case jo=>k_is)
  (case jp=>k_is)
  (case lm=>k_is)
  (case lq=>k_is)
  (case lr=>k_is)
  (case ls=>k_is)
  (case lu=>k_is)
  (case lw=>k_is)
  (case lx=>k_is)
  (case ly=>k_is)
  (case lz=>k_is)
  (case ma=>k_is)
  (case jq=>k_is)
  (case jr=>k_is)
  (case md=>k_is)
  (case js=>exact⟨_,rfl⟩)
  (case me=>k_is)
  (case jt=>exact⟨_,rfl⟩)
  (case mf=>k_is)
  (case ju=>exact⟨_,rfl⟩)
  (case mh=>k_is)
  (case jv=>exact⟨_,rfl⟩)
  (case mi=>k_is)
  (case jw=>exact⟨_,rfl⟩)
  (case mj=>k_is)
  (case jx=>exact⟨_,rfl⟩)
  (case ml=>k_is)
  (case jy=>exact⟨_,rfl⟩)
#print axioms PySem.Challenge.cw_linepress_k05_rows_known_holds

