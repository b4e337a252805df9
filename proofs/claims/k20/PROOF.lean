import PyProof.Rows.All
import Wide.All
import OpenK.AllK
import Wide.FinOn
import Lean
import PyProof.EqAt
import PyProof.EqKinds
import PyProof.TupleCall
import PySem.Challenge.RW_linepress_k20_one_piece_more
set_option Elab.async false
set_option genSizeOfSpec false
set_option genInjectivity false
def PySem.W.Fast.tw17865539304462910609:=()
def PySem.W.Fast.tw2094460314881406711:=()
def PySem.W.Fast.tw1249155893081207291:=()
def PySem.W.Fast.tw10125254230788281071:=()
def PySem.W.Fast.tw3005812193538661298:=()
def PySem.W.Fast.tw8285947587118662918:=()
def PySem.W.Fast.tw11268614091723062543:=()
def PySem.W.Fast.tw5685259345673809672:=()
def PySem.W.Fast.tw6326917451148034946:=()
def PySem.W.Fast.tw9682821426837633872:=()
def PySem.W.Fast.tw8713414200342224224:=()
def PySem.W.Fast.tw12269602449460800197:=()
def PySem.W.Fast.tw923248161266813179:=()
def PySem.W.Fast.tw5000041415581632128:=()
def PySem.W.Fast.tw9209234072079544891:=()
def PySem.W.Fast.tw10944548241053761720:=()
def PySem.W.Fast.tw13169571296417536059:=()
def PySem.W.Fast.tw2087949804316065634:=()
def PySem.W.Fast.tw17111836805535187698:=()
def PySem.W.Fast.tw13101345373141002905:=()
def PySem.W.Fast.tw15122790823596807290:=()
def PySem.W.Fast.tw18107617499048691835:=()
def PySem.W.Fast.tw10578261660560202422:=()
def PySem.W.Fast.tw1134626059486477902:=()
def PySem.W.Fast.tw2817003699139866230:=()
def PySem.W.Fast.tw10051558629469870555:=()
def PySem.W.Fast.tw5373687867193496589:=()
def PySem.W.Fast.tw4097615367231559214:=()
def PySem.W.Fast.tw4683360711569689160:=()
def PySem.W.Fast.tw15784670844551843388:=()
def PySem.W.Fast.tw18007319486262927484:=()
def PySem.W.Fast.tw8687229116999085110:=()
def PySem.W.Fast.tw13450502816077470686:=()
def PySem.W.Fast.tw3352906153900803879:=()
def PySem.W.Fast.tw12329687947823018869:=()
def PySem.W.Fast.tw7997419094940987307:=()
def PySem.W.Fast.tw10800659914461296094:=()
def PySem.W.Fast.tw8441282077164488882:=()
def PySem.W.Fast.tw12306934033469580258:=()
def PySem.W.Fast.tw16055794902727757198:=()
def PySem.W.Fast.tw5747337986914823325:=()
def PySem.W.Fast.tw10812852142534778198:=()
set_option linter.all false
set_option maxRecDepth 100000
set_option maxHeartbeats 1000000
namespace L2
open PySem PySem.Spec PyProof.Rows
abbrev Key:=Sum Int Str
abbrev _root_.tz9:=Str->Addr
abbrev _root_.tz0:=PySem.W.Frag
abbrev _root_.tzA:=Str->Option Value
abbrev _root_.tzB:=List (Addr×Obj)
def vO:Key->Value->Bool
 | .inl k,v=>Value.isInt k v
 | .inr x,v=>Value.isStrOf x v
def we6(w:World):Key->Int
 | .inl k=>hashInt k
 | .inr x=>hashStr w x
theorem eX:∀{k:Key} {v:Value},vO k v=true->(∃i t,k=Sum.inl i/\v=Value.int i t)\/(∃x t,k=Sum.inr x/\v=Value.str x t)
 | .inl i,v,h=>by
  obtain⟨t,e⟩:=Value.isInt_shape (k:=i) (v:=v) h
  exact .inl ⟨i,t,rfl,e⟩
 | .inr x,v,h=>by
  obtain⟨t,e⟩:=Value.isStrOf_shape (x:=x) (v:=v) h
  exact .inr ⟨x,t,rfl,e⟩
theorem ym0(i:Int)(t:Tok):vO (.inl i) (.int i t)=true:=by simp [vO,Value.isInt]
theorem ym1(x:Str)(t:Tok):vO (.inr x) (.str x t)=true:=by simp [vO,Value.isStrOf]
theorem xp7(a b:Int):decide ((Sum.inl a:Key)=Sum.inl b)=(a==b):=by
 by_cases e:a=b
 ·subst e;simp
 ·have h:¬(Sum.inl a:Key)=Sum.inl b:=fun q=>e (Sum.inl.inj q)
  rw [decide_eq_false h]
  exact(beq_eq_false_iff_ne.mpr e).symm
theorem xp8(a b:Str):decide ((Sum.inr a:Key)=Sum.inr b)=decide (a=b):=by
 by_cases e:a=b
 ·subst e;simp
 ·have h:¬(Sum.inr a:Key)=Sum.inr b:=fun q=>e (Sum.inr.inj q)
  rw [decide_eq_false h,decide_eq_false e]
theorem xp9(a:Int)(b:Str):decide ((Sum.inl a:Key)=Sum.inr b)=false:=decide_eq_false (fun q=>nomatch q)
theorem xq0(a:Str)(b:Int):decide ((Sum.inr a:Key)=Sum.inl b)=false:=decide_eq_false (fun q=>nomatch q)
def eC(prog:Program)(w:World):PySem.KeyKind prog w Key where
 is:=vO
 hash:=we6 w
 inj:=fun v a b ha hb=>by
  rcases eX ha with ⟨i,t,rfl,rfl⟩|⟨x,t,rfl,rfl⟩
  ·rcases eX hb with ⟨j,u,rfl,e⟩|⟨y,u,rfl,e⟩
   ·injection e with e1 _;rw [e1]
   ·exact nomatch e
  ·rcases eX hb with ⟨j,u,rfl,e⟩|⟨y,u,rfl,e⟩
   ·exact nomatch e
   ·injection e with e1 _;rw [e1]
 byValue:=fun k v h=>by
  rcases eX h with ⟨i,t,rfl,rfl⟩|⟨x,t,rfl,rfl⟩<;>rfl
 pyHash:=fun hv h=>by
  rcases eX hv with ⟨i,t,rfl,rfl⟩|⟨x,t,rfl,rfl⟩
  ·exact wpAny_pyHash_int h
  ·exact wpAny_pyHash_str h
 eqBool:=fun hu hv h=>by
  rcases eX hu with ⟨i,t,rfl,rfl⟩|⟨x,t,rfl,rfl⟩
  ·rcases eX hv with ⟨j,u,rfl,rfl⟩|⟨y,u,rfl,rfl⟩
   ·rw [xp7] at h;exact wpAny_eqBool_int h
   ·rw [xp9] at h;exact SeqAt.EqAt.int_str i t y u _ _ _ _ h
  ·rcases eX hv with ⟨j,u,rfl,rfl⟩|⟨y,u,rfl,rfl⟩
   ·rw [xq0] at h;exact SeqAt.EqAt.str_int x t j u _ _ _ _ h
   ·rw [xp8] at h;exact wpAny_eqBool_str h
 «strs»:=fun k x t v h=>by
  rcases eX h with ⟨i,u,rfl,e⟩|⟨y,u,rfl,e⟩
  ·exact nomatch e
  ·injection e with e1 _
   subst e1
   cases v<;>rfl
theorem zz9(prog:Program)(w:World)(i:Int)(t:Tok):(eC prog w).is (.inl i) (.int i t)=true:=ym0 i t
theorem ya0(prog:Program)(w:World)(x:Str)(t:Tok):(eC prog w).is (.inr x) (.str x t)=true:=ym1 x t
set_option genInjectivity true in
inductive V where
 |non|bl (b:Bool)|int (i:Int)|str (x:Str)|byt (b:Array UInt8)|flt (b:UInt64)|ref (a:Addr)|ty (n:String)
 deriving DecidableEq
def bZ:V->Value->Prop
 | .non,u=>u=Value.none
 | .bl b,u=>u=Value.bool b
 | .int i,u=>∃t,u=Value.int i t
 | .str x,u=>∃t,u=Value.str x t
 | .byt b,u=>∃t,u=Value.bytes b t
 | .flt b,u=>∃t,u=Value.float b t
 | .ref a,u=>u=Value.ref a
 | .ty n,u=>u=Value.type n
abbrev bG:List V->List Value->Prop:=Paired bZ
theorem bG.length{xs:List V}{us:List Value}(r:bG xs us):xs.length=us.length:=Paired.length r
theorem bG.get:∀{xs:List V} {us:List Value} {i:Nat} {x:V},bG xs us->xs[i]? =some x->∃u,us[i]? =some u/\bZ x u
 |_,_,_,_,.nil,e=>by simp at e
 |_,_,0,_,.cons r _,e=>by simp at e;subst e;exact⟨_,rfl,r⟩
 |_,_,i+1,x,.cons _ t,e=>by
  obtain⟨u,h1,h2⟩:=bG.get (i:=i) (x:=x) t (by simpa using e)
  exact⟨u,by simpa using h1,h2⟩
theorem bG.set{x:V}{u:Value}(r:bZ x u):∀{xs:List V} {us:List Value} (i:Nat),bG xs us->bG (xs.set i x) (us.set i u)
 |_,_,_,.nil=> .nil
 |_,_,0,.cons _ t=> .cons r t
 |_,_,i+1,.cons q t=> .cons q (bG.set r i t)
theorem bG.append:∀{xs ys:List V} {us ws:List Value},bG xs us->bG ys ws->bG (xs++ys) (us++ws)
 |_,_,_,_,.nil,s=>s
 |_,_,_,_,.cons r t,s=> .cons r (bG.append t s)
theorem bG.take:∀{xs:List V} {us:List Value} (n:Nat),bG xs us->bG (xs.take n) (us.take n)
 |_,_,0,_=> .nil
 |_,_,_+1,.nil=> .nil
 |_,_,n+1,.cons r t=> .cons r (bG.take n t)
theorem bG.drop:∀{xs:List V} {us:List Value} (n:Nat),bG xs us->bG (xs.drop n) (us.drop n)
 |_,_,0,r=>r
 |_,_,_+1,.nil=> .nil
 |_,_,n+1,.cons _ t=>bG.drop n t
theorem bG.none_of:∀{xs:List V} {us:List Value} {i:Nat},bG xs us->xs[i]? =none->us[i]? =none:=fun {xs us i} r e=>by
 have h1:=r.length
 have h2:xs.length<=i:=List.getElem?_eq_none_iff.mp e
 exact List.getElem?_eq_none_iff.mpr (by omega)
def iQ:Option V->Option Value->Prop
 |some v,some u=>bZ v u
 |none,none=>True
 |_,_=>False
def KV{κ:Type}:List (κ×V)->List (κ×Value)->Prop:=Paired fun(p:κ×V) (q:κ×Value)=>p.1=q.1/\bZ p.2 q.2
def kV:Key->V
 | .inl i=> .int i
 | .inr x=> .str x
inductive HO where
 |lst (xs:List V)
 |tup (xs:List V)
 |dK (kvs:List (Key×V))|dT (kvs:List (List Key×V))
 |set (S:Int->Bool) (n:Nat)
 |ins (C dx:Addr) (fs:List (Str×V))
 |own (x:Addr)
 |xd (fs:List (Str×V))
 |met (f x:Addr)
 |rng (lo hi:Int)
 |frz (o:Obj) (u:HO)
 |tbl (ps:Array Value)
 |ext (φ:Heap->Prop)
abbrev Hp:=Addr->Option HO
def upd(H:Hp)(a:Addr)(o:HO):Hp:=fun b=>if b=a then some o else H b
theorem cJ{H:Hp}{a:Addr}{o:HO}:upd H a o a=some o:=by unfold upd;rw [if_pos rfl]
theorem bF{H:Hp}{a b:Addr}{o:HO}(h:b≠a):upd H a o b=H b:=by unfold upd;rw [if_neg h]
theorem xz2{H:Hp}{a b:Addr}{o u:HO}(h:H a=some o)(h':H b=some u)(d:o≠u):a≠b:=by
 intro e;subst e;rw [h] at h';exact d (Option.some.inj h')
theorem eY{H:Hp}{a b:Addr}{o:HO}(h:H a=some o)(h':H b=none):a≠b:=by
 intro e;subst e;rw [h] at h';cases h'
section
variable(P:Program)(w:World)
def dL(H:Hp)(h:Heap)(a:Addr):HO->Prop
 | .lst xs=>xs.length<=sizeLine/\∃(its:List Value) (n:Nat),bG xs its/\h.get? a=some {cls:= .type "list",data:= .seq its.toArray n}
 | .tup xs=>xs.length<=sizeLine/\∃its:List Value,bG xs its/\IsTup h a its.toArray
 | .dK kvs=>kvs.length<=sizeLine/\(a==sysModules)=false/\∃vs,KV kvs vs/\h.DictOf (eC P w) a vs
 | .dT kvs=>kvs.length<=sizeLine/\(a==sysModules)=false/\∃xs:List (List Key×Addr×Value),
   Paired (fun(p:List Key×V) (q:List Key×Addr×Value)=>p.1=q.1/\H q.2.1=some (.tup (p.1.map kV))/\bZ p.2 q.2.2) kvs xs/\
   ∃o es ep,h.get? a=some o/\o.ExactDict/\o.data= .dict es ep/\es.toList=xs.map (entryOfKey (tupleKind (eC P w)))/\(xs.map (·.1)).Nodup
 | .set S n=>h.SetOf (intKind P w) a S n
 | .ins C dx fs=>H dx=some (.own a)/\fs.length<=1000/\dx≠a/\h.get? a=some (PySem.W.instObj C dx)/\
   ∃mA,h.Ns1 dx mA/\(∀f,iQ (fs.lookup f) (mA f))/\PySem.Within mA (fs.map (·.1))
 | .own _=>∃o,h.get? a=some o
 | .xd fs=>∃mA,h.Ns1 a mA/\∀f,iQ (fs.lookup f) (mA f)
 | .rng lo hi=>∃t u v,h.get? a=some {cls:= .type "range",data:= .fields #[.int lo t,.int hi u,.int 1 v]}
 | .frz o u=>h.get? a=some o/\dL H h a u
 | .tbl ps=>h.get? a=some {cls:= .none,data:= .fields ps}
 | .met f x=>h.get? a=some (PySem.W.methodObj (.ref f) (.ref x))
 | .ext φ=>φ h/\(∃o,h.get? a=some o)/\∀h1 h2:Heap,φ h1->(∀o,h1.get? a=some o->h2.get? a=some o)->φ h2
def HOk(H:Hp)(h:Heap):Prop:=∀a o,H a=some o->dL P w H h a o
end
section
variable{P:Program}{w:World}{H H':Hp}{h h':Heap}{a:Addr}{o:HO}
theorem dL.lt(x:dL P w H h a o):a<h.objs.size:=by
 cases o with
 |lst xs=>obtain⟨_,_,_,_,e⟩:=x;exact Heap.lt_size e
 |tup xs=>obtain⟨_,_,_,p⟩:=x;exact p.lt
 |dK kvs=>obtain⟨_,_,_,_,o,_,_,e,_⟩:=x;exact Heap.lt_size e
 |dT kvs=>obtain⟨_,_,_,_,o,_,_,e,_⟩:=x;exact Heap.lt_size e
 |set S n=>obtain⟨o,_,_,_,e,_⟩:=x;exact Heap.lt_size e
 |ins C dx fs=>obtain⟨_,_,_,e,_⟩:=x;exact Heap.lt_size e
 |own y=>obtain⟨_,e⟩:=x;exact Heap.lt_size e
 |xd fs=>obtain⟨_,⟨_,_,_,e,_⟩,_⟩:=x;exact Heap.lt_size e
 |rng lo hi=>obtain⟨_,_,_,e⟩:=x;exact Heap.lt_size e
 |frz ob u=>obtain⟨e,_⟩:=x;exact Heap.lt_size e
 |tbl ps=>exact Heap.lt_size (show h.get? a=some _ from x)
 |met f y=>exact Heap.lt_size (show h.get? a=some _ from x)
 |ext φ=>obtain⟨_,⟨_,e⟩,_⟩:=x;exact Heap.lt_size e
theorem Paired.mapP{α β:Type}{F G:α->β->Prop}:∀{l₁:List α} {l₂:List β},Paired F l₁ l₂->(∀a b,F a b->G a b)->Paired G l₁ l₂
 |_,_,.nil,_=> .nil
 |_,_,.cons r t,f=> .cons (f _ _ r) (Paired.mapP t f)
theorem dL.stay(x:dL P w H h a o)(k:∀b u,(b=a\/H b=some (.own a))->h.get? b=some u->h'.get? b=some u)
  (ho:∀b,H b=some (.own a)->H' b=some (.own a)) (ht:∀b xs,H b=some (.tup xs)->H' b=some (.tup xs)):dL P w H' h' a o:=by
 induction o with
 |lst xs=>obtain⟨z,its,n,r,e⟩:=x;exact⟨z,its,n,r,k _ _ (.inl rfl) e⟩
 |tup xs=>obtain⟨z,its,r,ob,e,c⟩:=x;exact⟨z,its,r,ob,k _ _ (.inl rfl) e,c⟩
 |dK kvs=>obtain⟨z,y,vs,r,ob,es,ep,e,c⟩:=x;exact⟨z,y,vs,r,ob,es,ep,k _ _ (.inl rfl) e,c⟩
 |dT kvs=>
  obtain⟨z,y,xs,r,ob,es,ep,e,c⟩:=x
  exact⟨z,y,xs,Paired.mapP r fun p q z=>⟨z.1,ht _ _ z.2.1,z.2.2⟩,ob,es,ep,k _ _ (.inl rfl) e,c⟩
 |set S n=>obtain⟨ob,es,ep,t,e,c⟩:=x;exact⟨ob,es,ep,t,k _ _ (.inl rfl) e,c⟩
 |ins C dx fs=>
  obtain⟨d,z,ne,e,mA,⟨od,es,ep,e2,c⟩,r⟩:=x
  exact⟨ho _ d,z,ne,k _ _ (.inl rfl) e,mA,⟨od,es,ep,k _ _ (.inr d) e2,c⟩,r⟩
 |own y=>obtain⟨ob,e⟩:=x;exact⟨ob,k _ _ (.inl rfl) e⟩
 |xd fs=>obtain⟨mA,⟨od,es,ep,e,c⟩,r⟩:=x;exact⟨mA,⟨od,es,ep,k _ _ (.inl rfl) e,c⟩,r⟩
 |rng lo hi=>obtain⟨t,u,v,e⟩:=x;exact⟨t,u,v,k _ _ (.inl rfl) e⟩
 |frz ob u ih=>obtain⟨e,q⟩:=x;exact⟨k _ _ (.inl rfl) e,ih q⟩
 |tbl ps=>
  have e:h.get? a=some {cls:= .none,data:= .fields ps}:=x
  show h'.get? a=some {cls:= .none,data:= .fields ps}
  exact k a _ (.inl rfl) e
 |met f y=>
  have e:h.get? a=some (PySem.W.methodObj (.ref f) (.ref y)):=x
  show h'.get? a=some (PySem.W.methodObj (.ref f) (.ref y))
  exact k a _ (.inl rfl) e
 |ext φ=>obtain⟨p,⟨o,e⟩,st⟩:=x;exact⟨st _ _ p fun o q=>k _ _ (.inl rfl) q,⟨o,k _ _ (.inl rfl) e⟩,st⟩
theorem HOk.lt(x:HOk P w H h)(e:H a=some o):a<h.objs.size:=(x a o e).lt
theorem HOk.fresh(x:HOk P w H h)(e:h.objs.size<=a):H a=none:=by
 cases q:H a with
 |none=>rfl
 |some u=>exact absurd (Nat.lt_of_lt_of_le (x.lt q) e) (Nat.lt_irrefl _)
theorem HOk.kept(x:HOk P w H h)(k:∀b u,h.get? b=some u->h'.get? b=some u):HOk P w H h':=fun a o e=>
 (x a o e).stay (fun b u _ q=>k b u q) (fun _ q=>q) fun _ _ q=>q
theorem HOk.laid(x:HOk P w H h)(k:∀b u,h.get? b=some u->h'.get? b=some u)(hp:h.objs.size<=a)(new:dL P w (upd H a o) h' a o):HOk P w (upd H a o) h':=fun b u e=>by
 have hn:=x.fresh hp
 by_cases hb:b=a
 ·subst hb;rw [cJ] at e;cases e;exact new
 ·rw [bF hb] at e
  exact(x b u e).stay (fun c v _ q=>k c v q) (fun c q=>by rw [bF (eY q hn)];exact q) fun c xs q=>by rw [bF (eY q hn)];exact q
end
def Rd(H:Hp)(a:Addr)(u:HO):Prop:=H a=some u\/∃o,H a=some (.frz o u)
theorem Rd.of{H:Hp}{a:Addr}{u:HO}(h:H a=some u):Rd H a u:= .inl h
theorem Rd.ok{P:Program}{w:World}{H:Hp}{h:Heap}{a:Addr}{u:HO}(r:Rd H a u)(x:HOk P w H h):dL P w H h a u:=by
 rcases r with r|⟨o,r⟩
 ·exact x a u r
 ·obtain⟨_,q⟩:=x a _ r
  exact q
def Mut:Option HO->Prop
 |some (.lst _)=>True
 |some (.dK _)=>True
 |some (.dT _)=>True
 |some (.set _ _)=>True
 |some (.ins _ _ _)=>True
 |some (.ext _)=>True
 |_=>False
section
variable{P:Program}{w:World}{H:Hp}{h h':Heap}{x e:Addr}{o':HO}
theorem HOk.write(ok:HOk P w H h)(mu:Mut (H x))(he:e=x\/H e=some (.own x))(k:∀b u,b≠e->h.get? b=some u->h'.get? b=some u)(heo:∃u,h'.get? e=some u)
  (new:dL P w (upd H x o') h' x o'):HOk P w (upd H x o') h':=fun b u q=>by
 have nown:∀c y,H c=some (.own y)->c≠x:=fun c y r z=>by subst z;rw [r] at mu;exact mu
 have ntup:∀c xs,H c=some (.tup xs)->c≠x:=fun c xs r z=>by subst z;rw [r] at mu;exact mu
 by_cases hb:b=x
 ·subst hb;rw [cJ] at q;cases q;exact new
 ·rw [bF hb] at q
  by_cases hbe:b=e
  ·have q':H b=some (.own x):=by
    rcases he with z|z
    ·exact absurd (hbe.trans z) hb
    ·rw [hbe];exact z
   rw [q] at q';cases q'
   obtain⟨v,hv⟩:=heo
   exact⟨v,by rw [hbe];exact hv⟩
  ·refine(ok b u q).stay (fun c v hc r=>k c v ?_ r) (fun c r=>by rw [bF (nown c b r)];exact r) fun c xs r=>by rw [bF (ntup c xs r)];exact r
   rcases hc with rfl|hc
   ·exact hbe
   ·rintro rfl
    rcases he with z|z
    ·exact nown c b hc z
    ·rw [hc] at z;cases z;exact hb rfl
end
structure Un(fs ex:List Addr)(H H':Hp)(h h':Heap):Prop where
 keep:∀b o,h.get? b=some o->H b=none->b∉fs->b∉ex->h'.get? b=some o
 slot:∀b o,h.get? b=some o->H b=none->b∈fs->b∉ex->∃sl,h'.get? b=some {o with slots:=sl}
 free:∀b o,h.get? b=some o->H b=none->b∉ex->H' b=none
 there:∀b o,h.get? b=some o->b∉ex->∃o',h'.get? b=some o'
 tups:∀b xs,H b=some (.tup xs)->H' b=some (.tup xs)
 frzs:∀b o u,H b=some (.frz o u)->H' b=some (.frz o u)
 tbls:∀b ps,H b=some (.tbl ps)->∃more,H' b=some (.tbl (ps++more))
section
variable{fs fs' ex ex':List Addr}{H H1 H2:Hp}{h h1 h2 h':Heap}{a x e:Addr}{o:HO}
theorem Un.any(u:Un fs ex H H1 h h1){b:Addr}{ob:Obj}(q:h.get? b=some ob)(n:H b=none)(hx:b∉ex):∃sl,h1.get? b=some {ob with slots:=sl}:=by
 by_cases hb:b∈fs
 ·exact u.slot b ob q n hb hx
 ·exact⟨ob.slots,u.keep b ob q n hb hx⟩
theorem Un.trans(a:Un fs ex H H1 h h1)(b:Un fs ex H1 H2 h1 h2):Un fs ex H H2 h h2 where
 keep:=fun c ob q n hc hx=>b.keep c ob (a.keep c ob q n hc hx) (a.free c ob q n hx) hc hx
 slot:=fun c ob q n hc hx=>by
  obtain⟨sl,e1⟩:=a.slot c ob q n hc hx
  obtain⟨sl',e2⟩:=b.slot c _ e1 (a.free c ob q n hx) hc hx
  exact⟨sl',e2⟩
 free:=fun c ob q n hx=>by
  obtain⟨o',e1⟩:=a.there c ob q hx
  exact b.free c o' e1 (a.free c ob q n hx) hx
 there:=fun c ob q hx=>by
  obtain⟨o',e1⟩:=a.there c ob q hx
  exact b.there c o' e1 hx
 tups:=fun c xs q=>b.tups c xs (a.tups c xs q)
 frzs:=fun c ob xs q=>b.frzs c ob xs (a.frzs c ob xs q)
 tbls:=fun c ps q=>by
  obtain⟨m1,e1⟩:=a.tbls c ps q
  obtain⟨m2,e2⟩:=b.tbls c _ e1
  exact⟨m1++m2,by rw [e2,Array.append_assoc]⟩
theorem Un.kept(k:∀b u,h.get? b=some u->h'.get? b=some u):Un fs ex H H h h':=
 ⟨fun b ob q _ _ _=>k b ob q,fun b ob q _ _ _=>⟨ob.slots,k b ob q⟩,fun _ _ _ n _=>n,fun b ob q _=>⟨ob,k b ob q⟩,fun _ _ q=>q,fun _ _ _ q=>q,fun _ ps q=>⟨#[],by rw [q];simp⟩⟩
theorem Un.refl:Un fs ex H H h h:=Un.kept fun _ _ q=>q
theorem Un.laid(k:∀b u,h.get? b=some u->h'.get? b=some u)(hp:h.objs.size<=a)(hn:H a=none):Un fs ex H (upd H a o) h h' where
 keep:=fun b u q _ _ _=>k b u q
 slot:=fun b u q _ _ _=>⟨u.slots,k b u q⟩
 free:=fun b u q n _=>by rw [bF (Nat.ne_of_lt (Nat.lt_of_lt_of_le (Heap.lt_size q) hp))];exact n
 there:=fun b u q _=>⟨u,k b u q⟩
 tups:=fun b xs q=>by rw [bF (eY q hn)];exact q
 frzs:=fun b u xs q=>by rw [bF (eY q hn)];exact q
 tbls:=fun b ps q=>⟨#[],by rw [bF (eY q hn),q];simp⟩
theorem Un.write(mu:Mut (H x))(he:e=x\/H e=some (.own x))(k:∀b u,b≠e->h.get? b=some u->h'.get? b=some u)(heo:∃u,h'.get? e=some u):Un fs ex H (upd H x o) h h':=by
 have hx:∀b,H b=none->b≠x:=fun b n z=>by subst z;rw [n] at mu;exact mu
 have hb:∀b,H b=none->b≠e:=fun b n z=>by
  subst z
  rcases he with r|r
  ·exact hx b n r
  ·rw [n] at r;cases r
 have hm:∀b u,H b=some u->¬Mut (some u)->b≠x:=fun b u q nm z=>by subst z;rw [q] at mu;exact nm mu
 refine⟨fun b u q n _ _=>k b u (hb b n) q,fun b u q n _ _=>⟨u.slots,k b u (hb b n) q⟩,fun b u q n _=>by rw [bF (hx b n)];exact n,fun b u q _=> ?_,
  fun b xs q=>by rw [bF (hm b _ q fun z=>z)];exact q,fun b u xs q=>by rw [bF (hm b _ q fun z=>z)];exact q,fun b ps q=>⟨#[],by rw [bF (hm b _ q fun z=>z),q];simp⟩⟩
 by_cases hbe:b=e
 ·subst hbe;exact heo
 ·exact⟨u,k b u hbe q⟩
theorem Un.mono(u:Un fs ex H H1 h h1)(hs:∀b∈fs,b∈fs')(hx:∀b∈ex,b∈ex'):Un fs' ex' H H1 h h1:=
 ⟨fun b ob q n hb he=>u.keep b ob q n (fun z=>hb (hs b z)) fun z=>he (hx b z),fun _ _ q n _ he=>u.any q n fun z=>he (hx _ z),fun b ob q n he=>u.free b ob q n fun z=>he (hx b z),fun b ob q he=>u.there b ob q fun z=>he (hx b z),u.tups,u.frzs,u.tbls⟩
end
def trk(h:Heap)(H:Hp):List Addr:=(List.range h.objs.size).filter fun a=>(H a).isSome
def vP(h:Heap)(H:Hp):Heap:=PySem.W.hideAll h (trk h H)
theorem ym2(h:Heap)(H:Hp):(vP h H).objs.size=h.objs.size:=PySem.W.hideAll_size _ _
theorem yw8{h:Heap}{H:Hp}{b:Addr}{o:Obj}(e:h.get? b=some o)(n:H b=none):(vP h H).get? b=some o:=
 PySem.W.hideAll_get _ e fun hm=>by
  have q:(H b).isSome=true:=(List.mem_filter.mp hm).2
  rw [n] at q;simp at q
theorem xi5{h:Heap}{H:Hp}{b:Addr}{o:Obj}(e:(vP h H).get? b=some o):h.get? b=some o/\H b=none:=by
 have e':h.get? b=some o:=PySem.W.of_hideAll (trk h H) e
 refine⟨e',?_⟩
 cases q:H b with
 |none=>rfl
 |some x=>
  have hm:b∈trk h H:=List.mem_filter.mpr ⟨List.mem_range.mpr (Heap.lt_size e'),by simp [q]⟩
  have z:(vP h H).get? b=none:=PySem.W.hideAll_none (trk h H) hm
  rw [z] at e;cases e
def xp3(g h:Heap)(L:Addr):tzB:=(List.range h.objs.size).filterMap fun a=>if a=L\/(g.get? a).isSome=true then none else(h.get? a).map fun o=>(a,o)
def cE(g h:Heap)(L d:Addr):tzB:=(xp3 g h L).filter fun p=>decide (p.1≠d)
structure Mod(K:tz0)(mg:tzA)(base:Heap):Prop where
 kin:K.In base
 glob:base.Ns mainGlobals mg
 blt:∃mb,base.Ns builtinsNs mb/\∀x:Str,x≠"__name__"->mb x=bootBuiltins x
 nolimit:base.NoLimit
structure Cx where
 prog:Program
 w:World
 K:tz0
 mg:tzA
 base:Heap
 A:Around
 N:List Str
 s₀:Shared
 H₀:Hp
 env:Env
 outer:List Env
 stack:List Env
 ex:List Addr
 fn:Str->Bool
 calm:Bool
 pn:tzB
 xe:Value->Shared->Prop
def frs(l:List Env):List Addr:=l.filterMap (·.frame)
abbrev Cx.fs(X:Cx):List Addr:=frs X.outer
def Vis(sc:Scope)(x:Str):Prop:=sc.names.lookup x=some .local\/sc.names.lookup x=some .cell\/sc.names.lookup x=some .free
def Loc(sc:Scope)(x:Str):Prop:=sc.names.lookup x=some .local\/sc.names.lookup x=some .cell
def xw3(env:Env)(h:Heap)(m:tzA)(x:Str)(u:Value):Prop:=
 (env.kindOf x=some .local/\m x=some u)\/((env.kindOf x=some .cell\/env.kindOf x=some .free)/\∃c,env.cells.lookup x=some c/\h.IsCell c (some u))
structure Cx.Ok(X:Cx):Prop where
 mod:Mod X.K X.mg X.base
 kind:X.env.scope.kind= .function
 glob:X.env.globals=mainGlobals
 blt:X.env.builtins=builtinsNs
 above:X.s₀.heap.objs.size<=X.env.locals
 inj:∀x y c,X.env.cells.lookup x=some c->X.env.cells.lookup y=some c->x=y
 has:∀x,(X.env.kindOf x=some .cell\/X.env.kindOf x=some .free)->∃c,X.env.cells.lookup x=some c
 cab:∀x c,X.fn x=true->X.env.cells.lookup x=some c->X.s₀.heap.objs.size<=c
 hd:X.calm=true->X.A.handled=none
 frames:X.A.frames=some X.stack
 stk:X.stack=X.outer\/(X.stack=X.env::X.outer/\X.env.frame=some X.env.locals)
 exf:∀b∈X.ex,b≠X.env.locals/\∀x c,X.env.cells.lookup x=some c->c≠b
 bs:∀b o,X.base.get? b=some o->X.s₀.heap.get? b=some o/\X.H₀ b=none
 bsz:X.base.objs.size<=X.s₀.heap.objs.size
 noex:∀b o,X.base.get? b=some o->b∉X.ex
 exfs:∀b∈X.ex,b∉X.fs
 funs:X.s₀.heap.FunFrames X.base X.outer
 frf:∀b∈X.fs,X.H₀ b=none
structure Inv(X:Cx)(pins:tzB)(σ:List (Option V))(H:Hp)(s:Shared):Prop where
 ok:X.Ok
 os:s.os=X.s₀.os
 bare:AllBare s.gens
 base:Un X.fs X.ex X.H₀ H X.s₀.heap s.heap
 loc:∃m,s.heap.Ns X.env.locals m/\∀(i:Nat) (x:Str) (v:V),X.N[i]? =some x->σ[i]? =some (some v)->Vis X.env.scope x->∃u,bZ v u/\xw3 X.env s.heap m x u
 cell:∀x c,X.env.cells.lookup x=some c->∃v,s.heap.IsCell c v
 free:H X.env.locals=none
 freeC:∀x c,X.env.cells.lookup x=some c->H c=none
 pin:∀p∈X.pn++pins,s.heap.get? p.1=some p.2/\H p.1=none/\p.1≠X.env.locals/\p.1∉X.fs/\∀v,p.2.data≠ .cell v
 hok:HOk X.prog X.w H s.heap
 len:σ.length=X.N.length
section
variable{X:Cx}{pins:tzB}{σ:List (Option V)}{H H':Hp}{s:Shared}{h':Heap}
theorem Cx.Ok.nofr(ok:X.Ok){b:Addr}{o:Obj}(e:X.base.get? b=some o):b∉X.fs:=fun hb=>by
 have:=(ok.funs.mem hb).1
 rw [e] at this;cases this
theorem Inv.bs(I:Inv X pins σ H s):∀b o,X.base.get? b=some o->s.heap.get? b=some o/\H b=none:=fun b o e=>
 ⟨I.base.keep b o (I.ok.bs b o e).1 (I.ok.bs b o e).2 (I.ok.nofr e) (I.ok.noex b o e),I.base.free b o (I.ok.bs b o e).1 (I.ok.bs b o e).2 (I.ok.noex b o e)⟩
theorem Inv.bk(I:Inv X pins σ H s):∀b o,X.base.get? b=some o->s.heap.get? b=some o:=fun b o e=>(I.bs b o e).1
theorem Inv.mod(I:Inv X pins σ H s):Mod X.K X.mg X.base:=I.ok.mod
theorem Inv.kIn(I:Inv X pins σ H s):X.K.In s.heap:=I.ok.mod.kin.keeps I.bk
theorem Inv.nolimit(I:Inv X pins σ H s):s.heap.NoLimit:=I.ok.mod.nolimit.keeps I.bk
theorem Inv.fr(I:Inv X pins σ H s):∃m,Fr X.base X.env.locals s.heap m:=
 let ⟨m,hn,_⟩:=I.loc
 ⟨m,hn,I.bk,Nat.le_trans I.ok.bsz I.ok.above⟩
theorem Inv.lt(I:Inv X pins σ H s):X.env.locals<s.heap.objs.size:=let ⟨_,hn,_⟩:=I.loc;hn.lt
theorem Inv.sz(I:Inv X pins σ H s):X.s₀.heap.objs.size<=s.heap.objs.size:=Nat.le_trans I.ok.above (Nat.le_of_lt I.lt)
theorem Inv.nofs(I:Inv X pins σ H s){a:Addr}(h:s.heap.objs.size<=a):a∉X.fs:=fun hb=>by
 obtain⟨_,o,ho,_⟩:=I.ok.funs.mem hb
 exact absurd (Nat.lt_of_lt_of_le (Heap.lt_size ho) (Nat.le_trans I.sz h)) (Nat.lt_irrefl _)
theorem Inv.cne(I:Inv X pins σ H s):∀x c,X.env.cells.lookup x=some c->c≠X.env.locals:=fun x c e z=>by
 obtain⟨v,o,ho,hd⟩:=I.cell x c e
 obtain⟨m,⟨o',es,ep,ho',hd',_⟩,_⟩:=I.loc
 rw [z,ho'] at ho;cases ho;rw [hd'] at hd;cases hd
theorem Inv.funs(I:Inv X pins σ H s):s.heap.FunFrames X.base X.outer:=by
 have all:∀(l:List Env),(∀b∈frs l,b∈X.fs)->X.s₀.heap.FunFrames X.base l->s.heap.FunFrames X.base l:=by
  intro l
  induction l with
  |nil=>intro _ _;trivial
  |cons env r ih=>
   intro hs hl
   obtain⟨hk,⟨L,o,hf,hn,ho,hd⟩,hr⟩:=hl
   have hL:L∈X.fs:=hs L (by unfold frs;rw [List.filterMap_cons,hf];exact List.mem_cons_self)
   obtain⟨sl,e⟩:=I.base.slot L o ho (I.ok.frf L hL) hL fun z=>I.ok.exfs L z hL
   exact⟨hk,⟨L,_,hf,hn,e,hd⟩,ih (fun b hb=>hs b (by unfold frs;rw [List.filterMap_cons,hf];exact List.mem_cons_of_mem _ hb)) hr⟩
 exact all X.outer (fun _ hb=>hb) I.ok.funs
theorem Inv.stack(I:Inv X pins σ H s):s.heap.FunFrames X.base X.stack:=by
 rcases I.ok.stk with e|⟨e,hf⟩
 ·rw [e];exact I.funs
 ·rw [e]
  obtain⟨m,hn,_⟩:=I.loc
  refine .cons (by rw [I.ok.kind];decide) hf hn ?_ I.funs
  exact Heap.get?_none_of_le (Nat.le_trans I.ok.bsz I.ok.above)
theorem Inv.stkSub(I:Inv X pins σ H s):∀b∈frs X.stack,b∈X.env.locals::X.fs:=fun b hb=>by
 rcases I.ok.stk with e|⟨e,hf⟩
 ·rw [e] at hb;exact List.mem_cons_of_mem _ hb
 ·rw [e] at hb
  unfold frs at hb
  rw [List.filterMap_cons,hf] at hb
  exact hb
theorem Inv.stkFree(I:Inv X pins σ H s):∀b∈frs X.stack,H b=none:=fun b hb=>by
 rcases List.mem_cons.mp (I.stkSub b hb) with e|hb
 ·rw [e];exact I.free
 ·obtain⟨_,o,ho,_⟩:=I.ok.funs.mem hb
  exact I.base.free b o ho (I.ok.frf b hb) fun z=>I.ok.exfs b z hb
theorem Inv.step{g':Array GenState}{t':Nat}{d':Drawn}{ch:List Addr}(I:Inv X pins σ H s)
  (hch:∀b∈ch,(b∈X.ex\/X.s₀.heap.objs.size<=b)/\b≠X.env.locals/\(∀x c,X.env.cells.lookup x=some c->c≠b)/\∀p∈X.pn++pins,p.1≠b)
  (keep:∀b o,b≠X.env.locals->b∉X.fs->b∉ch->s.heap.get? b=some o->H b=none->h'.get? b=some o)
  (slot:∀b o,b≠X.env.locals->b∈X.fs->b∉ch->s.heap.get? b=some o->H b=none->∃sl,h'.get? b=some {o with slots:=sl}) (free:∀b o,b∉ch->s.heap.get? b=some o->H b=none->H' b=none)
  (there:∀b o,b∉ch->s.heap.get? b=some o->∃o',h'.get? b=some o')
  (tups:∀b xs,H b=some (.tup xs)->H' b=some (.tup xs)) (frzs:∀b o u,H b=some (.frz o u)->H' b=some (.frz o u)) (tbls:∀b ps,H b=some (.tbl ps)->∃more,H' b=some (.tbl (ps++more)))
  (ns:∀m,s.heap.Ns X.env.locals m->h'.Ns X.env.locals m) (hok:HOk X.prog X.w H' h') (hg:AllBare g'):
  Inv X pins σ H' {s with heap:=h',gens:=g',drawn:=d',toks:=t'}:=by
 have neL:∀b o,X.s₀.heap.get? b=some o->b≠X.env.locals:=fun b o e=>Nat.ne_of_lt (Nat.lt_of_lt_of_le (Heap.lt_size e) I.ok.above)
 have neC:∀b o,X.s₀.heap.get? b=some o->b∉X.ex->b∉ch:=fun b o e hx hb=>by
  rcases(hch b hb).1 with z|z
  ·exact hx z
  ·exact absurd (Nat.lt_of_lt_of_le (Heap.lt_size e) z) (Nat.lt_irrefl _)
 have cellK:∀x c,X.env.cells.lookup x=some c->∀v,s.heap.IsCell c v->h'.IsCell c v:=fun x c e v ⟨o,ho,hd⟩=>by
  have nch:c∉ch:=fun z=>(hch c z).2.2.1 x c e rfl
  by_cases hc:c∈X.fs
  ·obtain⟨sl,q⟩:=slot c o (I.cne x c e) hc nch ho (I.freeC x c e)
   exact⟨_,q,hd⟩
  ·exact⟨o,keep c o (I.cne x c e) hc nch ho (I.freeC x c e),hd⟩
 refine⟨I.ok,I.os,hg,⟨fun b o e n hb hx=> ?_,fun b o e n hb hx=> ?_,fun b o e n hx=> ?_,fun b o e hx=> ?_,fun b xs e=>tups b xs (I.base.tups b xs e),fun b o xs e=>frzs b o xs (I.base.frzs b o xs e),fun b ps e=> ?_⟩,?_,fun x c e=> ?_,?_,fun x c e=> ?_,fun p hp=> ?_,hok,I.len⟩
 ·exact keep b o (neL b o e) hb (neC b o e hx) (I.base.keep b o e n hb hx) (I.base.free b o e n hx)
 ·obtain⟨sl,e1⟩:=I.base.slot b o e n hb hx
  obtain⟨sl',e2⟩:=slot b _ (neL b o e) hb (neC b o e hx) e1 (I.base.free b o e n hx)
  exact⟨sl',e2⟩
 ·obtain⟨o',e1⟩:=I.base.there b o e hx
  exact free b o' (neC b o e hx) e1 (I.base.free b o e n hx)
 ·obtain⟨o',e1⟩:=I.base.there b o e hx
  exact there b o' (neC b o e hx) e1
 ·obtain⟨m1,e1⟩:=I.base.tbls b ps e
  obtain⟨m2,e2⟩:=tbls b _ e1
  exact⟨m1++m2,by rw [e2,Array.append_assoc]⟩
 ·obtain⟨m,hn,hl⟩:=I.loc
  refine⟨m,ns m hn,fun i x v e1 e2 e3=> ?_⟩
  obtain⟨u,r,l⟩:=hl i x v e1 e2 e3
  refine⟨u,r,?_⟩
  rcases l with l|⟨k,c,e,z⟩
  ·exact .inl l
  ·exact .inr ⟨k,c,e,cellK x c e _ z⟩
 ·obtain⟨v,z⟩:=I.cell x c e
  exact⟨v,cellK x c e v z⟩
 ·obtain⟨m,⟨o,_,_,ho,_⟩,_⟩:=I.loc
  exact free _ o (fun z=>(hch _ z).2.1 rfl) ho I.free
 ·obtain⟨v,o,ho,hd⟩:=I.cell x c e
  exact free c o (fun z=>(hch c z).2.2.1 x c e rfl) ho (I.freeC x c e)
 ·obtain⟨e,n,ne,nf,d⟩:=I.pin p hp
  have nch:p.1∉ch:=fun z=>(hch p.1 z).2.2.2 p hp rfl
  exact⟨keep p.1 p.2 ne nf nch e n,free p.1 p.2 nch e n,ne,nf,d⟩
theorem Inv.un{t':Nat}(I:Inv X pins σ H s)(u:Un X.fs [] H H' s.heap h')(hok:HOk X.prog X.w H' h'):Inv X pins σ H' {s with heap:=h',toks:=t'}:=by
 obtain⟨m,⟨o,es,ep,ho,r⟩,_⟩:=id I.loc
 obtain⟨sl,hL⟩:=u.any ho I.free (by simp)
 exact I.step (g':=s.gens) (d':=s.drawn) (ch:=[]) (fun _ z=>nomatch z) (fun b o _ hb _ e n=>u.keep b o e n hb (by simp)) (fun b o _ hb _ e n=>u.slot b o e n hb (by simp)) (fun b o _ e n=>u.free b o e n (by simp)) (fun b o _ e=>u.there b o e (by simp)) u.tups u.frzs u.tbls (fun m' hm=>by
  obtain⟨o',es',ep',ho',r'⟩:=hm
  rw [ho] at ho';cases ho'
  exact⟨_,es',ep',hL,r'⟩) hok I.bare
theorem Inv.call{g':Array GenState}{t':Nat}{d':Drawn}{ch:List Addr}(I:Inv X pins σ H s)(u:Un (frs X.stack) ch H H' s.heap h')(hok:HOk X.prog X.w H' h')(hg:AllBare g')
  (hch:∀b∈ch,(b∈X.ex\/X.s₀.heap.objs.size<=b)/\b≠X.env.locals/\(∀x c,X.env.cells.lookup x=some c->c≠b)/\∀p∈X.pn++pins,p.1≠b):
  Inv X pins σ H' {s with heap:=h',gens:=g',drawn:=d',toks:=t'}:=by
 obtain⟨m,⟨o,es,ep,ho,r⟩,_⟩:=id I.loc
 obtain⟨sl,hL⟩:=u.any ho I.free fun z=>(hch _ z).2.1 rfl
 exact I.step (ch:=ch) hch (fun b o hL hb hc e n=>u.keep b o e n (fun z=>(List.mem_cons.mp (I.stkSub b z)).elim hL hb) hc) (fun b o _ _ hc e n=>u.any e n hc) (fun b o hc e n=>u.free b o e n hc) (fun b o hc e=>u.there b o e hc) u.tups u.frzs u.tbls (fun m' hm=>by
  obtain⟨o',es',ep',ho',r'⟩:=hm
  rw [ho] at ho';cases ho'
  exact⟨_,es',ep',hL,r'⟩) hok hg
theorem Inv.turned{t':Nat}{it:Addr}(I:Inv X pins σ H s)(k:∀b o,b≠it->s.heap.get? b=some o->h'.get? b=some o)(hn:H it=none)(hL:it≠X.env.locals)
  (h1:it∈X.ex\/X.s₀.heap.objs.size<=it) (h2:∀x c,X.env.cells.lookup x=some c->c≠it) (h3:∀p∈X.pn++pins,p.1≠it):Inv X pins σ H {s with heap:=h',toks:=t'}:=by
 have nit:∀b u,H b=some u->b≠it:=fun b u e z=>by rw [z,hn] at e;cases e
 refine I.step (g':=s.gens) (d':=s.drawn) (ch:=[it]) (fun b hb=> ?_) (fun b o _ _ hc e _=>k b o (fun z=>hc (by simp [z])) e) (fun b o _ _ hc e _=>⟨o.slots,k b o (fun z=>hc (by simp [z])) e⟩) (fun _ _ _ _ n=>n)
  (fun b o hc e=>⟨o,k b o (fun z=>hc (by simp [z])) e⟩) (fun _ _ e=>e) (fun _ _ _ e=>e) (fun b ps e=>⟨#[],by rw [e];simp⟩) (fun m hm=> ?_) (fun b u e=> ?_) I.bare
 ·have e:b=it:=by simpa using hb
  subst e
  exact⟨h1,hL,h2,h3⟩
 ·obtain⟨o,es,ep,ho,r⟩:=hm
  exact⟨o,es,ep,k _ o (Ne.symm hL) ho,r⟩
 ·refine(I.hok b u e).stay (fun c v hc q=>k c v ?_ q) (fun _ q=>q) fun _ _ q=>q
  rcases hc with z|z
  ·rw [z];exact nit b u e
  ·exact nit c _ z
theorem Inv.tok(I:Inv X pins σ H s)(t:Nat):Inv X pins σ H {s with toks:=t}:=I.un (h':=s.heap) (t':=t) Un.refl I.hok
theorem Inv.kept{t':Nat}(I:Inv X pins σ H s)(k:∀b u,s.heap.get? b=some u->h'.get? b=some u):Inv X pins σ H {s with heap:=h',toks:=t'}:=I.un (Un.kept k) (I.hok.kept k)
theorem Inv.laid{a:Addr}{o:HO}{t':Nat}(I:Inv X pins σ H s)(k:∀b u,s.heap.get? b=some u->h'.get? b=some u)(hp:s.heap.objs.size<=a)(new:dL X.prog X.w (upd H a o) h' a o):
  Inv X pins σ (upd H a o) {s with heap:=h',toks:=t'}:=I.un (Un.laid k hp (I.hok.fresh hp)) (I.hok.laid k hp new)
theorem Inv.write{x e:Addr}{o:HO}{t':Nat}(I:Inv X pins σ H s)(mu:Mut (H x))(he:e=x\/H e=some (.own x))(k:∀b u,b≠e->s.heap.get? b=some u->h'.get? b=some u)(heo:∃u,h'.get? e=some u)
  (new:dL X.prog X.w (upd H x o) h' x o):Inv X pins σ (upd H x o) {s with heap:=h',toks:=t'}:=I.un (Un.write mu he k heo) (I.hok.write mu he k heo new)
theorem Inv.pins_of{pins':tzB}(I:Inv X pins σ H s)(h:∀p∈pins',s.heap.get? p.1=some p.2/\H p.1=none/\p.1≠X.env.locals/\p.1∉X.fs/\∀v,p.2.data≠ .cell v):Inv X pins' σ H s:=
 ⟨I.ok,I.os,I.bare,I.base,I.loc,I.cell,I.free,I.freeC,fun p hp=>(List.mem_append.mp hp).elim (fun z=>I.pin p (List.mem_append_left _ z)) (h p),I.hok,I.len⟩
theorem zr2{N:List Str}(hN:N.Nodup){i j:Nat}{x:Str}(a:N[i]? =some x)(b:N[j]? =some x):i=j:=by
 obtain⟨h1,e1⟩:=List.getElem?_eq_some_iff.mp a
 obtain⟨h2,e2⟩:=List.getElem?_eq_some_iff.mp b
 exact(List.getElem_inj hN).mp (e1.trans e2.symm)
theorem ym3{M:Model}{A:Around}{E:Value->Shared->Prop}{i:Nat}{x:Str}{v:V}{u:Value}{Q:Unit->Shared->Prop}(I:Inv X pins σ H s)(hN:X.N.Nodup)(hi:X.N[i]? =some x)(hx:Loc X.env.scope x)(r:bZ v u)
  (h:∀s',Inv X pins (σ.set i (some v)) H s'->(∃a,Heap.SameBut a s.heap s'.heap/\(a=X.env.locals\/X.env.cells.lookup x=some a))->Q () s') (hf:X.fn x=true\/X.env.scope.names.lookup x=some .local:=by first|exact .inl rfl|exact .inr rfl|assumption):wpAny M A (storeName X.env x u) Q E s:=by
 obtain⟨m,hn,hl⟩:=id I.loc
 have hcls:(X.env.scope.kind== .class||(X.env.scope.kind== .module&&X.env.locals !=X.env.globals))=false:=by rw [I.ok.kind];rfl
 have hiσ:i<σ.length:=by rw [I.len];exact(List.getElem?_eq_some_iff.mp hi).1
 have cne:=I.cne
 have tracked:∀{a:Addr} {h':Heap},(∃o,s.heap.get? a=some o/\H a=none)->Heap.SameBut a s.heap h'->HOk X.prog X.w H h':=fun {a h'} ha hs b ob e=>by
  obtain⟨_,_,hfree⟩:=ha
  refine(I.hok b ob e).stay (fun c w' hc q=>(hs.2 c ?_).trans q) (fun _ q=>q) fun _ _ q=>q
  rintro rfl
  rcases hc with rfl|hc
  ·rw [hfree] at e;cases e
  ·rw [hfree] at hc;cases hc
 rcases hx with hk|hk
 ·refine wpAny_storeName_local hk hn (fun h' hn' hs=> ?_) hcls
  obtain⟨oL,_,_,hoL,_⟩:=id hn
  refine h _ ⟨I.ok,I.os,I.bare,⟨fun b o e n hb hx=> ?_,fun b o e n hb hx=> ?_,I.base.free,fun b o e hx=> ?_,I.base.tups,I.base.frzs,I.base.tbls⟩,⟨_,hn',fun j y v' e1 e2 e3=> ?_⟩,fun y c e=> ?_,I.free,I.freeC,fun p hp=> ?_,tracked ⟨oL,hoL,I.free⟩ hs,by simpa using I.len⟩ ⟨_,hs,.inl rfl⟩
  ·exact(hs.2 b (Nat.ne_of_lt (Nat.lt_of_lt_of_le (Heap.lt_size e) I.ok.above))).trans (I.base.keep b o e n hb hx)
  ·obtain⟨sl,e1⟩:=I.base.slot b o e n hb hx
   exact⟨sl,(hs.2 b (Nat.ne_of_lt (Nat.lt_of_lt_of_le (Heap.lt_size e) I.ok.above))).trans e1⟩
  ·obtain⟨o',e1⟩:=I.base.there b o e hx
   exact⟨o',(hs.2 b (Nat.ne_of_lt (Nat.lt_of_lt_of_le (Heap.lt_size e) I.ok.above))).trans e1⟩
  ·by_cases hj:j=i
   ·subst hj
    rw [hi] at e1;cases e1
    rw [List.getElem?_set_self hiσ] at e2
    cases e2
    exact⟨u,r,.inl ⟨hk,by simp⟩⟩
   ·rw [List.getElem?_set_ne (Ne.symm hj)] at e2
    obtain⟨u',r',q⟩:=hl j y v' e1 e2 e3
    refine⟨u',r',?_⟩
    rcases q with ⟨k,e⟩|⟨k,c,e,z⟩
    ·refine .inl ⟨k,?_⟩
     have:y≠x:=fun e=>hj (zr2 hN e1 (e▸hi))
     simp [this,e]
    ·exact .inr ⟨k,c,e,z.sameBut hs (cne y c e)⟩
  ·obtain⟨w',z⟩:=I.cell y c e
   exact⟨w',z.sameBut hs (cne y c e)⟩
  ·obtain⟨e,n,ne,nf,d⟩:=I.pin p hp
   exact⟨(hs.2 p.1 ne).trans e,n,ne,nf,d⟩
 ·have hfn:X.fn x=true:=by
   rcases hf with z|z
   ·exact z
   ·rw [z] at hk;cases hk
  obtain⟨c,hc⟩:=I.ok.has x (.inl hk)
  obtain⟨w',z⟩:=I.cell x c hc
  refine wpAny_storeName_cell I.ok.kind hk hc z (fun h' hc' hs=> ?_)
  obtain⟨oc,hoc,hocd⟩:=id z
  refine h {s with heap:=h'} ⟨I.ok,I.os,I.bare,⟨fun b o e n hb hx=> ?_,fun b o e n hb hx=> ?_,I.base.free,fun b o e hx=> ?_,I.base.tups,I.base.frzs,I.base.tbls⟩,⟨m,hn.sameBut hs (Ne.symm (cne x c hc)),fun j y v' e1 e2 e3=> ?_⟩,fun y c' e=> ?_,I.free,I.freeC,fun p hp=> ?_,tracked ⟨oc,hoc,I.freeC x c hc⟩ hs,by simpa using I.len⟩ ⟨c,hs,.inr hc⟩
  ·exact(hs.2 b (Nat.ne_of_lt (Nat.lt_of_lt_of_le (Heap.lt_size e) (I.ok.cab x c hfn hc)))).trans (I.base.keep b o e n hb hx)
  ·obtain⟨sl,e1⟩:=I.base.slot b o e n hb hx
   exact⟨sl,(hs.2 b (Nat.ne_of_lt (Nat.lt_of_lt_of_le (Heap.lt_size e) (I.ok.cab x c hfn hc)))).trans e1⟩
  ·obtain⟨o',e1⟩:=I.base.there b o e hx
   exact⟨o',(hs.2 b (Nat.ne_of_lt (Nat.lt_of_lt_of_le (Heap.lt_size e) (I.ok.cab x c hfn hc)))).trans e1⟩
  ·by_cases hj:j=i
   ·subst hj
    rw [hi] at e1;cases e1
    rw [List.getElem?_set_self hiσ] at e2
    cases e2
    exact⟨u,r,.inr ⟨.inl hk,c,hc,hc'⟩⟩
   ·rw [List.getElem?_set_ne (Ne.symm hj)] at e2
    obtain⟨u',r',q⟩:=hl j y v' e1 e2 e3
    refine⟨u',r',?_⟩
    rcases q with q|⟨k,c',e,z'⟩
    ·exact .inl q
    ·refine .inr ⟨k,c',e,z'.sameBut hs ?_⟩
     rintro rfl
     exact hj (zr2 hN e1 (I.ok.inj _ _ _ e hc▸hi))
  ·by_cases hcc:c'=c
   ·subst hcc;exact⟨_,hc'⟩
   ·obtain⟨w2,z2⟩:=I.cell y c' e
    exact⟨w2,z2.sameBut hs hcc⟩
  ·obtain⟨e,n,ne,nf,d⟩:=I.pin p hp
   refine⟨(hs.2 p.1 ?_).trans e,n,ne,nf,d⟩
   intro q
   rw [q,hoc] at e
   have q':oc=p.2:=Option.some.inj e
   exact d w' (by rw [<-q'];exact hocd)
theorem zr3{M:Model}{A:Around}{E:Value->Shared->Prop}{i:Nat}{x:Str}{v:V}{u:Value}{Q:Unit->Shared->Prop}(I:Inv X pins σ H s)(hN:X.N.Nodup)(hi:X.N[i]? =some x)(hx:Loc X.env.scope x)(r:bZ v u)
  (h:∀s',Inv X pins (σ.set i (some v)) H s'->Q () s') (hf:X.fn x=true\/X.env.scope.names.lookup x=some .local:=by first|exact .inl rfl|exact .inr rfl|assumption):wpAny M A (storeName X.env x u) Q E s:=
 ym3 I hN hi hx r (fun s' I' _=>h s' I') hf
theorem Inv.call'{s':Shared}{ch:List Addr}(I:Inv X pins σ H s)(ho:s'.os=s.os)(u:Un (frs X.stack) ch H H' s.heap s'.heap)(hok:HOk X.prog X.w H' s'.heap)(hg:AllBare s'.gens)
  (hch:∀b∈ch,(b∈X.ex\/X.s₀.heap.objs.size<=b)/\b≠X.env.locals/\(∀x c,X.env.cells.lookup x=some c->c≠b)/\∀p∈X.pn++pins,p.1≠b):Inv X pins σ H' s':=by
 obtain⟨h',g',d',t',o'⟩:=s'
 have e:o'=s.os:=ho
 subst e
 exact I.call (g':=g') (t':=t') (d':=d') u hok hg hch
end
abbrev XK:=Value->Option Addr->Hp->Prop
abbrev St:=List (Option V)
abbrev VK:=V->Hp->Prop
abbrev TE:=St->Hp->VK->Prop
abbrev TT:=St->Hp->(Bool->Hp->Prop)->Prop
abbrev TA:=St->Hp->(List V->Hp->Prop)->Prop
structure Ends where
 nx:St->Hp->Prop
 rt:VK
 bk:St->Hp->Prop:=fun _ _=>False
 ct:St->Hp->Prop:=fun _ _=>False
abbrev TS:=Ends->St->Hp->Prop
def EP(X:Cx)(pins:tzB)(σ:St)(Q:VK)(u:Value)(s':Shared):Prop:=∃v H',Inv X pins σ H' s'/\bZ v u/\Q v H'
def TP(X:Cx)(pins:tzB)(σ:St)(Q:Bool->Hp->Prop)(b:Bool)(s':Shared):Prop:=∃H',Inv X pins σ H' s'/\Q b H'
def AP(X:Cx)(pins:tzB)(σ:St)(Q:List V->Hp->Prop)(us:List Value)(s':Shared):Prop:=∃vs H',Inv X pins σ H' s'/\bG vs us/\Q vs H'
def SP(X:Cx)(pins:tzB)(D:Ends)(f:Flow)(s':Shared):Prop:=
 match f with
 | .next=>∃σ' H',Inv X pins σ' H' s'/\D.nx σ' H'
 | .brk=>∃σ' H',Inv X pins σ' H' s'/\D.bk σ' H'
 | .cont=>∃σ' H',Inv X pins σ' H' s'/\D.ct σ' H'
 | .ret u=>∃v σ' H',Inv X pins σ' H' s'/\bZ v u/\D.rt v H'
def PEd(X:Cx)(e:Expr)(t:TE):Prop:=
 ∀(pins:tzB) (s:Shared) (σ:St) (H:Hp) (Q:VK),Inv X pins σ H s->t σ H Q->wpAny (model X.prog X.w) X.A (eval e X.env) (EP X pins σ Q) X.xe s
structure PE(X:Cx)(e:Expr)(t:TE):Prop where
 go:PEd X e t
instance {X:Cx} {e:Expr} {t:TE}:CoeFun (PE X e t) fun _=>PEd X e t:=⟨PE.go⟩
def PTd(X:Cx)(e:Expr)(t:TT):Prop:=
 ∀(pins:tzB) (s:Shared) (σ:St) (H:Hp) (Q:Bool->Hp->Prop),Inv X pins σ H s->t σ H Q->wpAny (model X.prog X.w) X.A (isTrue e X.env (eval e X.env)) (TP X pins σ Q) X.xe s
structure PT(X:Cx)(e:Expr)(t:TT):Prop where
 go:PTd X e t
instance {X:Cx} {e:Expr} {t:TT}:CoeFun (PT X e t) fun _=>PTd X e t:=⟨PT.go⟩
def PWd(X:Cx)(e:Expr)(t:TT):Prop:=
 ∀(whole:Sem Value) (pins:tzB) (s:Shared) (σ:St) (H:Hp) (Q:Bool->Hp->Prop),Inv X pins σ H s->t σ H Q->wpAny (model X.prog X.w) X.A (isTrue e X.env whole) (TP X pins σ Q) X.xe s
structure PW(X:Cx)(e:Expr)(t:TT):Prop where
 go:PWd X e t
instance {X:Cx} {e:Expr} {t:TT}:CoeFun (PW X e t) fun _=>PWd X e t:=⟨PW.go⟩
theorem PW.pt{X:Cx}{e:Expr}{t:TT}(h:PW X e t):PT X e t:=⟨h _⟩
def PAd(X:Cx)(es:List Expr)(t:TA):Prop:=
 ∀(pos:Pos) (pins:tzB) (s:Shared) (σ:St) (H:Hp) (Q:List V->Hp->Prop),Inv X pins σ H s->t σ H Q->wpAny (model X.prog X.w) X.A (spliced (backTo pos (starEach es X.env))) (AP X pins σ Q) X.xe s
structure PA(X:Cx)(es:List Expr)(t:TA):Prop where
 go:PAd X es t
instance {X:Cx} {es:List Expr} {t:TA}:CoeFun (PA X es t) fun _=>PAd X es t:=⟨PA.go⟩
def PSd(X:Cx)(st:Stmt)(t:TS):Prop:=
 ∀(pins:tzB) (s:Shared) (σ:St) (H:Hp) (D:Ends),Inv X pins σ H s->t D σ H->wpAny (model X.prog X.w) X.A (exec st X.env) (SP X pins D) X.xe s
structure PS(X:Cx)(st:Stmt)(t:TS):Prop where
 go:PSd X st t
instance {X:Cx} {st:Stmt} {t:TS}:CoeFun (PS X st t) fun _=>PSd X st t:=⟨PS.go⟩
def xw4(X:Cx)(st:List Stmt)(t:TS):Prop:=
 ∀(pins:tzB) (s:Shared) (σ:St) (H:Hp) (D:Ends),Inv X pins σ H s->t D σ H->wpAny (model X.prog X.w) X.A (execs st X.env) (SP X pins D) X.xe s
structure PSs(X:Cx)(st:List Stmt)(t:TS):Prop where
 go:xw4 X st t
instance {X:Cx} {st:List Stmt} {t:TS}:CoeFun (PSs X st t) fun _=>xw4 X st t:=⟨PSs.go⟩
theorem thn{α:Type}{t:Sem α}{Q Q':α->Shared->Prop}{M:Model}{A:Around}{E:Value->Shared->Prop}{s:Shared}(h:wpAny M A t Q E s)(hQ:∀a s,Q a s->Q' a s):wpAny M A t Q' E s:=wpAny_mono h hQ fun _ _ x=>x
section
variable{X:Cx}
def xw5(i:Nat):TE:=fun σ H Q=>∃v,σ[i]? =some (some v)/\Q v H
def tC(v:V):TE:=fun _ H Q=>Q v H
theorem uB{i:Nat}{x:Str}{pos:Pos}(hN:X.N[i]? =some x)(hv:Vis X.env.scope x)(hd:(x==("__debug__":Str))=false:=by decide)(hcd:(x==("__classdict__":Str))=false:=by decide):PE X (.Name x pos) (xw5 i):=⟨by
 intro pins s σ H Q I h
 obtain⟨v,e,h⟩:=h
 obtain⟨m,hn,hl⟩:=I.loc
 obtain⟨u,r,l⟩:=hl i x v hN e hv
 have fin:EP X pins σ Q u s:=⟨v,H,I,r,h⟩
 rcases l with ⟨hk,hm⟩|⟨hk,c,hc,hcell⟩
 ·exact wpAny_Name (wpAny_loadName_local I.ok.kind hk hn hm fin) hd
 ·rcases hk with hk|hk
  ·exact wpAny_Name (wpAny_loadName_cell I.ok.kind hk hc hcell fin) hd
  ·exact wpAny_Name (wpAny_loadName_free I.ok.kind hk hc hcell fin hcd) hd⟩
theorem gW{i j pos}:PE X (.Constant (.int i) j pos) (tC (.int i)):=⟨fun _ _ _ H _ I h=>wpAny_Constant_int ⟨.int i,H,I.tok _,⟨_,rfl⟩,h⟩⟩
theorem xf9{b j pos}:PE X (.Constant (.bool b) j pos) (tC (.bl b)):=⟨fun _ _ _ H _ I h=>Constant_bool ⟨.bl b,H,I,rfl,h⟩⟩
theorem ym4{j pos}:PE X (.Constant .none j pos) (tC .non):=⟨fun _ _ _ H _ I h=>Constant_none ⟨.non,H,I,rfl,h⟩⟩
theorem ym5{x j pos}:PE X (.Constant (.str x) j pos) (tC (.str x)):=⟨fun _ _ _ H _ I h=>Calls.Constant_str ⟨.str x,H,I.tok _,⟨_,rfl⟩,h⟩⟩
def Gl(X:Cx)(x:Str):Prop:=X.env.kindOf x=some .globalImplicit
theorem yA{E:Value->Shared->Prop}{pins:tzB}{s:Shared}{σ:St}{H:Hp}{x:Str}{u:Value}{pos:Pos}{Q:Value->Shared->Prop}(I:Inv X pins σ H s)(hg:Gl X x)(hm:X.mg x=some u)(h:Q u s)
  (hd:(x==("__debug__":Str))=false:=by decide):wpAny (model X.prog X.w) X.A (eval (.Name x pos) X.env) Q E s:=
 Calls.Name_function_global I.ok.kind hg (Calls.loadGlobal_global (by rw [I.ok.glob];exact I.mod.glob.keeps I.bk) hm h) hd
theorem wS{E:Value->Shared->Prop}{pins:tzB}{s:Shared}{σ:St}{H:Hp}{x:Str}{u:Value}{pos:Pos}{Q:Value->Shared->Prop}(I:Inv X pins σ H s)(hg:Gl X x)(hm:X.mg x=none)(hv:bootBuiltins x=some u)(h:Q u s)
  (hn:x≠"__name__":=by decide) (hd:(x==("__debug__":Str))=false:=by decide):wpAny (model X.prog X.w) X.A (eval (.Name x pos) X.env) Q E s:=by
 obtain⟨mb,h1,h2⟩:=I.mod.blt
 exact Calls.Name_function_global I.ok.kind hg (Calls.loadGlobal_builtin (by rw [I.ok.glob];exact I.mod.glob.keeps I.bk) hm (by rw [I.ok.blt];exact h1.keeps I.bk) ((h2 x hn).trans hv) h) hd
theorem xi6{x:Str}{v:V}{u:Value}{pos:Pos}(hg:Gl X x)(hm:X.mg x=some u)(r:bZ v u)(hd:(x==("__debug__":Str))=false:=by decide):PE X (.Name x pos) (tC v):=
 ⟨fun _ _ _ H _ I h=>yA I hg hm ⟨v,H,I,r,h⟩ hd⟩
variable{a b:Expr}{ta tb:TE}{pos:Pos}
def PC(X:Cx)(op:CmpOp)(a b:Expr)(t:TE):Prop:=
 ∀(pins:tzB) (s:Shared) (σ:St) (H:Hp) (Q:VK),Inv X pins σ H s->t σ H Q->
  wpAny (model X.prog X.w) X.A (eval a X.env) (fun v s₁=>wpAny (model X.prog X.w) X.A (eval b X.env) (fun u s₂=>wpAny (model X.prog X.w) X.A (compareOp op v u) (EP X pins σ Q) X.xe s₂) X.xe s₁) X.xe s
theorem yw9(b:Expr){op:CmpOp}(h:op≠ .In)(h2:op≠ .NotIn):behindInMarks op b=false:=by
 have e1:(op==CmpOp.In)=false:=by cases op<;>first|rfl|exact absurd rfl h
 have e2:(op==CmpOp.NotIn)=false:=by cases op<;>first|rfl|exact absurd rfl h2
 cases b<;>simp [behindInMarks,e1,e2]
def tB(t:TE):TT:=fun σ H Q=>t σ H fun x H1=>∃c,x= .bl c/\Q c H1
theorem xq1{op:CmpOp}{t:TE}(h:PC X op a b t)(h1:behindInMarks op b=false:=by first|exact yw9 _ (by decide) (by decide)|rfl):PT X (.Compare a [op] [b] pos) (tB t):=⟨by
 intro pins s σ H Q I hw
 refine wpAny_isTrue_Compare1 (thn (h pins s σ H _ I hw) fun v s1 h1=>thn h1 fun u s2 h2=>thn h2 fun c s3 ⟨x,H1,I1,r1,q1⟩=> ?_) h1
 obtain⟨d,rfl,q⟩:=q1
 cases r1
 exact wpAny_truthy_bool ⟨H1,I1,q⟩⟩
variable{tA tB':TT}{cE:List Expr}
def we7(t u:TT):TT:=fun σ H Q=>t σ H fun c H1=>if c=true then u σ H1 Q else Q false H1
def tOr(t u:TT):TT:=fun σ H Q=>t σ H fun c H1=>if c=true then Q true H1 else u σ H1 Q
def we8(t:TT):TT:=fun σ H Q=>t σ H fun c H1=>Q (!c) H1
theorem xi7(ha:PT X a tA):PW X (.BoolOp .And [a] pos) tA:=⟨by
 intro wh pins s σ H Q I h
 refine isTrue_and (thn (ha pins s σ H Q I h) fun c s1 e=> ?_)
 cases c with
 |true=>exact isTrue_and_nil e
 |false=>exact e⟩
theorem xq2(ha:PT X a tA):PW X (.BoolOp .Or [a] pos) tA:=⟨by
 intro wh pins s σ H Q I h
 refine isTrue_or (thn (ha pins s σ H Q I h) fun c s1 e=> ?_)
 cases c with
 |false=>exact isTrue_or_nil e
 |true=>exact e⟩
theorem xq3(ha:PT X a tA)(hb:PW X (.BoolOp .And (b::cE) pos) tB'):PW X (.BoolOp .And (a::b::cE) pos) (we7 tA tB'):=⟨by
 intro wh pins s σ H Q I h
 refine isTrue_and (thn (ha pins s σ H _ I h) fun c s1 ⟨H1,I1,q1⟩=> ?_)
 cases c with
 |true=>exact hb wh pins s1 σ H1 Q I1 q1
 |false=>exact⟨H1,I1,q1⟩⟩
theorem xz3(ha:PT X a tA)(hb:PW X (.BoolOp .Or (b::cE) pos) tB'):PW X (.BoolOp .Or (a::b::cE) pos) (tOr tA tB'):=⟨by
 intro wh pins s σ H Q I h
 refine isTrue_or (thn (ha pins s σ H _ I h) fun c s1 ⟨H1,I1,q1⟩=> ?_)
 cases c with
 |true=>exact⟨H1,I1,q1⟩
 |false=>exact hb wh pins s1 σ H1 Q I1 q1⟩
theorem xq4(ha:PT X a tA):PT X (.UnaryOp .Not a pos) (we8 tA):=⟨by
 intro pins s σ H Q I h
 exact isTrue_not (ha pins s σ H (fun c H1=>Q (!c) H1) I h)⟩
def wb7(ta tb:TE):TE:=fun σ H Q=>ta σ H fun x H1=>∃c,x= .bl c/\if c=true then tb σ H1 Q else Q (.bl false) H1
def we9(ta tb:TE):TE:=fun σ H Q=>ta σ H fun x H1=>∃c,x= .bl c/\if c=true then Q (.bl true) H1 else tb σ H1 Q
theorem xq5{op}{t:TE}(h:PE X a t):PE X (.BoolOp op [a] pos) t:=⟨fun pins s σ H Q I hw=>BoolOp_one (h pins s σ H Q I hw)⟩
theorem xq6(ha:PE X a ta)(hb:PE X (.BoolOp .And (b::cE) pos) tb):PE X (.BoolOp .And (a::b::cE) pos) (wb7 ta tb):=⟨by
 intro pins s σ H Q I h
 refine BoolOp_and (thn (ha pins s σ H _ I h) fun v s1 ⟨x,H1,I1,r1,q1⟩=> ?_)
 obtain⟨c,rfl,q1⟩:=q1
 cases r1
 refine wpAny_truthy_bool ?_
 cases c with
 |true=>exact hb pins s1 σ H1 Q I1 q1
 |false=>exact⟨.bl false,H1,I1,rfl,q1⟩⟩
theorem xz4(ha:PE X a ta)(hb:PE X (.BoolOp .Or (b::cE) pos) tb):PE X (.BoolOp .Or (a::b::cE) pos) (we9 ta tb):=⟨by
 intro pins s σ H Q I h
 refine BoolOp_or (thn (ha pins s σ H _ I h) fun v s1 ⟨x,H1,I1,r1,q1⟩=> ?_)
 obtain⟨c,rfl,q1⟩:=q1
 cases r1
 refine wpAny_truthy_bool ?_
 cases c with
 |false=>exact hb pins s1 σ H1 Q I1 q1
 |true=>exact⟨.bl true,H1,I1,rfl,q1⟩⟩
end
def SqL(K:tz0)(H:Hp)(a:Addr)(xs:List V):Prop:=
 Rd H a (.lst xs)\/
  ∃(o:Obj) (its:Array Value) (n:Nat),K.lookup a=some o/\o.cls= .type "list"/\o.dict=none/\o.data= .seq its n/\its.size<=sizeLine/\bG xs its.toList
def SqT(K:tz0)(H:Hp)(a:Addr)(xs:List V):Prop:=
 Rd H a (.tup xs)\/
  ∃(o:Obj) (its:Array Value) (n:Nat),K.lookup a=some o/\o.cls= .type "tuple"/\o.data= .seq its n/\its.size<=sizeLine/\bG xs its.toList
def wf0:Value->Option V
 | .none=>some .non
 | .bool b=>some (.bl b)
 | .int i _=>some (.int i)
 | .str x _=>some (.str x)
 | .bytes b _=>some (.byt b)
 | .float b _=>some (.flt b)
 | .ref a=>some (.ref a)
 | .type n=>some (.ty n)
 |_=>none
theorem bZ.abs{x:V}{u:Value}(r:bZ x u):wf0 u=some x:=by
 cases x with
 |non=>cases r;rfl
 |bl _=>cases r;rfl
 |int _=>obtain⟨t,rfl⟩:=r;rfl
 |str _=>obtain⟨t,rfl⟩:=r;rfl
 |byt _=>obtain⟨t,rfl⟩:=r;rfl
 |flt _=>obtain⟨t,rfl⟩:=r;rfl
 |ref _=>cases r;rfl
 |ty _=>cases r;rfl
theorem bZ.inj{x y:V}{u:Value}(r:bZ x u)(q:bZ y u):x=y:=Option.some.inj (r.abs.symm.trans q.abs)
theorem bG.inj:∀{xs ys:List V} {us:List Value},bG xs us->bG ys us->xs=ys
 |_,_,_,.nil,.nil=>rfl
 |_,_,_,.cons r t,.cons r' t'=>by rw [r.inj r',bG.inj t t']
section
variable{X:Cx}{pins:tzB}{σ:St}{H:Hp}{s:Shared}{a:Addr}{xs ys:List V}
theorem SqL.of{K:tz0}(h:H a=some (.lst xs)):SqL K H a xs:= .inl (.inl h)
theorem SqT.of{K:tz0}(h:H a=some (.tup xs)):SqT K H a xs:= .inl (.inl h)
theorem Inv.list(I:Inv X pins σ H s)(h:SqL X.K H a xs):∃its:List Value,bG xs its/\PlainL s.heap a its.toArray/\xs.length<=sizeLine:=by
 rcases h with h|⟨o,its,n,hk,hc,hd,hs,hz,r⟩
 ·obtain⟨z,its,n,r,e⟩:=h.ok I.hok
  exact⟨its,r,⟨_,n,e,rfl,rfl,rfl⟩,z⟩
 ·refine⟨its.toList,r,⟨o,n,I.kIn a o hk,hc,hd,by simpa using hs⟩,?_⟩
  have e:=r.length
  simp only [Array.length_toList] at e
  omega
theorem Inv.tuple(I:Inv X pins σ H s)(h:SqT X.K H a xs):∃its:List Value,bG xs its/\IsTup s.heap a its.toArray/\xs.length<=sizeLine:=by
 rcases h with h|⟨o,its,n,hk,hc,hs,hz,r⟩
 ·obtain⟨z,its,r,p⟩:=h.ok I.hok
  exact⟨its,r,p,z⟩
 ·refine⟨its.toList,r,⟨o,I.kIn a o hk,hc,n,by simpa using hs⟩,?_⟩
  have e:=r.length
  simp only [Array.length_toList] at e
  omega
theorem Inv.list_inj(I:Inv X pins σ H s)(h:SqL X.K H a xs)(h':SqL X.K H a ys):xs=ys:=by
 obtain⟨its,r,⟨o,n,e,_,_,d⟩,_⟩:=I.list h
 obtain⟨its',r',⟨o',n',e',_,_,d'⟩,_⟩:=I.list h'
 rw [e] at e';cases e'
 rw [d] at d'
 injection d' with d1 _
 have:its=its':=by simpa using congrArg Array.toList d1
 subst this
 exact r.inj r'
theorem Inv.tuple_inj(I:Inv X pins σ H s)(h:SqT X.K H a xs)(h':SqT X.K H a ys):xs=ys:=by
 obtain⟨its,r,⟨o,e,_,n,d⟩,_⟩:=I.tuple h
 obtain⟨its',r',⟨o',e',_,n',d'⟩,_⟩:=I.tuple h'
 rw [e] at e';cases e'
 rw [d] at d'
 injection d' with d1 _
 have:its=its':=by simpa using congrArg Array.toList d1
 subst this
 exact r.inj r'
end
abbrev Cx.wish(X:Cx)(E:Value->Shared->Prop):Cx:={X with xe:=E}
abbrev Cx.nox(X:Cx):Cx:=X.wish fun _ _=>False
theorem Cx.Ok.wish{X:Cx}(ok:X.Ok)(E:Value->Shared->Prop):(X.wish E).Ok:=
 ⟨ok.mod,ok.kind,ok.glob,ok.blt,ok.above,ok.inj,ok.has,ok.cab,ok.hd,ok.frames,ok.stk,ok.exf,ok.bs,ok.bsz,ok.noex,ok.exfs,ok.funs,ok.frf⟩
theorem Cx.Ok.unwish{X:Cx}{E:Value->Shared->Prop}(ok:(X.wish E).Ok):X.Ok:=
 ⟨ok.mod,ok.kind,ok.glob,ok.blt,ok.above,ok.inj,ok.has,ok.cab,ok.hd,ok.frames,ok.stk,ok.exf,ok.bs,ok.bsz,ok.noex,ok.exfs,ok.funs,ok.frf⟩
section
variable{X:Cx}{pins:tzB}{σ:St}{H:Hp}{s:Shared}{E:Value->Shared->Prop}
theorem Inv.wish(I:Inv X pins σ H s)(E:Value->Shared->Prop):Inv (X.wish E) pins σ H s:=⟨I.ok.wish E,I.os,I.bare,I.base,I.loc,I.cell,I.free,I.freeC,I.pin,I.hok,I.len⟩
theorem Inv.unwish(I:Inv (X.wish E) pins σ H s):Inv X pins σ H s:=⟨I.ok.unwish,I.os,I.bare,I.base,I.loc,I.cell,I.free,I.freeC,I.pin,I.hok,I.len⟩
theorem SP.unwish{D:Ends}{f:Flow}{s':Shared}(h:SP (X.wish E) pins D f s'):SP X pins D f s':=by
 cases f with
 |next=>obtain⟨σ',H',I,q⟩:=h;exact⟨σ',H',I.unwish,q⟩
 |brk=>obtain⟨σ',H',I,q⟩:=h;exact⟨σ',H',I.unwish,q⟩
 |cont=>obtain⟨σ',H',I,q⟩:=h;exact⟨σ',H',I.unwish,q⟩
 |ret u=>obtain⟨v,σ',H',I,r,q⟩:=h;exact⟨v,σ',H',I.unwish,r,q⟩
theorem PE.nox{e:Expr}{t:TE}(h:PE X.nox e t):PE X e t:=⟨fun pins s σ H Q I hw=>
 wpAny_mono (h pins s σ H Q (I.wish _) hw) (fun _ _ ⟨v,H',I',r,q⟩=>⟨v,H',I'.unwish,r,q⟩) fun _ _ z=>False.elim z⟩
theorem PT.nox{e:Expr}{t:TT}(h:PT X.nox e t):PT X e t:=⟨fun pins s σ H Q I hw=>
 wpAny_mono (h pins s σ H Q (I.wish _) hw) (fun _ _ ⟨H',I',q⟩=>⟨H',I'.unwish,q⟩) fun _ _ z=>False.elim z⟩
theorem PSs.nox{st:List Stmt}{t:TS}(h:PSs X.nox st t):PSs X st t:=⟨fun pins s σ H D I hw=>
 wpAny_mono (h pins s σ H D (I.wish _) hw) (fun _ _ q=>q.unwish) fun _ _ z=>False.elim z⟩
end
section
variable{X:Cx}{st:Stmt}{cE:List Stmt}{t u:TS}{e:Expr}{te:TE}{pos:Pos}
def wb8:TS:=fun D σ H=>D.nx σ H
def wf1(t u:TS):TS:=fun D σ H=>t {D with nx:=u D} σ H
theorem ya9:PSs X [] wb8:=⟨fun _ _ σ H _ I h=>wpAny_execs_nil ⟨σ,H,I,h⟩⟩
theorem lW(h1:PS X st t)(h2:PSs X cE u):PSs X (st::cE) (wf1 t u):=⟨by
 intro pins s σ H D I h
 refine wpAny_execs_cons (thn (h1 pins s σ H {D with nx:=u D} I h) fun f s1 q=> ?_)
 cases f with
 |next=>
  obtain⟨σ',H',I',q⟩:=q
  exact h2 pins s1 σ' H' D I' q
 |ret v=>exact q
 |brk=>exact q
 |cont=>exact q⟩
theorem yB(h1:PS X st t):PSs X [st] t:=⟨by
 intro pins s σ H D I h
 refine wpAny_execs_cons (thn (h1 pins s σ H D I h) fun f s1 q=> ?_)
 cases f with
 |next=>exact wpAny_execs_nil q
 |ret v=>exact q
 |brk=>exact q
 |cont=>exact q⟩
theorem Inv.quiet{pins:tzB}{σ:St}{H:Hp}{s:Shared}(I:Inv X pins σ H s):interactive X.env=false:=by simp [interactive,I.ok.kind]
def wb9(te:TE):TS:=fun D σ H=>te σ H fun _ H1=>D.nx σ H1
theorem xi8(he:PE X e te)(hs:swapsWith e none pos.line X.env=pure false:=by rfl):PS X (.Expr e pos) (wb9 te):=⟨by
 intro pins s σ H D I h
 exact wpAny_Expr_any (thn (he pins s σ H _ I h) fun v s1 ⟨x,H1,I1,r1,q1⟩=>⟨σ,H1,I1,q1⟩) I.quiet hs⟩
def wf2(te:TE):TS:=fun D σ H=>te σ H D.rt
theorem wT(he:PE X e te):PS X (.Return (some e) pos) (wf2 te):=⟨by
 intro pins s σ H D I h
 exact wpAny_Return_some (thn (he pins s σ H _ I h) fun v s1 ⟨x,H1,I1,r1,q1⟩=>⟨x,σ,H1,I1,r1,q1⟩)⟩
def wf3(c:TT)(t u:TS):TS:=fun D σ H=>c σ H fun b H1=>if b=true then t D σ H1 else u D σ H1
theorem xg0{c:Expr}{a b:List Stmt}{tc:TT}(hc:PT X c tc)(ha:PSs X a t)(hb:PSs X b u):PS X (.If c a b pos) (wf3 tc t u):=⟨by
 intro pins s σ H D I h
 refine wpAny_If (thn (hc pins s σ H _ I h) fun d s1 ⟨H1,I1,q1⟩=> ?_)
 cases d with
 |true=>exact ha pins s1 σ H1 D I1 q1
 |false=>exact hb pins s1 σ H1 D I1 q1⟩
end
abbrev TG:=V->St->Hp->(St->Hp->Prop)->Prop
abbrev TGs:=List V->St->Hp->(St->Hp->Prop)->Prop
def PGd(X:Cx)(target:Expr)(t:TG):Prop:=
 ∀(pins:tzB) (s:Shared) (σ:St) (H:Hp) (v:V) (u:Value) (Q:St->Hp->Prop),Inv X pins σ H s->bZ v u->t v σ H Q->
  wpAny (model X.prog X.w) X.A (assign target X.env u) (fun _ s'=>∃σ' H',Inv X pins σ' H' s'/\Q σ' H') X.xe s
structure PG(X:Cx)(target:Expr)(t:TG):Prop where
 go:PGd X target t
instance {X:Cx} {target:Expr} {t:TG}:CoeFun (PG X target t) fun _=>PGd X target t:=⟨PG.go⟩
def xw6(X:Cx)(ts:List Expr)(t:TGs):Prop:=
 ∀(pins:tzB) (s:Shared) (σ:St) (H:Hp) (vs:List V) (us:List Value) (Q:St->Hp->Prop),Inv X pins σ H s->bG vs us->t vs σ H Q->
  wpAny (model X.prog X.w) X.A (assignInOrder ((assignEach ts X.env).map (·.2)) us) (fun _ s'=>∃σ' H',Inv X pins σ' H' s'/\Q σ' H') X.xe s
structure PGs(X:Cx)(ts:List Expr)(t:TGs):Prop where
 go:xw6 X ts t
instance {X:Cx} {ts:List Expr} {t:TGs}:CoeFun (PGs X ts t) fun _=>xw6 X ts t:=⟨PGs.go⟩
abbrev xe3:=V->V->V->Hp->(Hp->Prop)->Prop
def xw7(X:Cx)(t:xe3):Prop:=
 ∀(pins:tzB) (s:Shared) (σ:St) (H:Hp) (o i v:V) (ov iv u:Value) (Q:Hp->Prop),Inv X pins σ H s->bZ o ov->bZ i iv->bZ v u->t o i v H Q->
  wpAny (model X.prog X.w) X.A (setItem ov iv u) (fun _ s'=>∃H',Inv X pins σ H' s'/\Q H') X.xe s
section
variable{X:Cx}{pos:Pos}
def vQ(i:Nat):TG:=fun v σ H Q=>Q (σ.set i (some v)) H
theorem eN{i:Nat}{x:Str}(hN:X.N.Nodup)(hi:X.N[i]? =some x)(hx:Loc X.env.scope x)(hf:X.fn x=true\/X.env.scope.names.lookup x=some .local:=by first|exact .inl rfl|exact .inr rfl|assumption):PG X (.Name x pos) (vQ i):=⟨by
 intro pins s σ H v u Q I r h
 exact wpAny_assign_Name (zr3 I hN hi hx r (fun s' I'=>⟨_,H,I',h⟩) hf)⟩
def xw8:TGs:=fun vs σ H Q=>vs=[]/\Q σ H
def xh5(t:TG)(u:TGs):TGs:=fun vs σ H Q=>∃v r,vs=v::r/\t v σ H fun σ' H'=>u r σ' H' Q
theorem zg0:PGs X [] xw8:=⟨by
 intro pins s σ H vs us Q I r h
 obtain⟨e,h⟩:=h
 subst e
 cases r
 exact assignInOrder_nil ⟨σ,H,I,h⟩⟩
theorem iP{e:Expr}{es:List Expr}{t:TG}{u:TGs}(h1:PG X e t)(h2:PGs X es u)
  (hs:(assignEach (e::es) X.env).map (·.2)=assign e X.env::(assignEach es X.env).map (·.2):=by rfl):PGs X (e::es) (xh5 t u):=⟨by
 intro pins s σ H vs us Q I r h
 obtain⟨v,vr,e1,h⟩:=h
 subst e1
 cases r with
 |cons r rr=>
  rw [hs]
  refine assignInOrder_cons (thn (h1 pins s σ H _ _ _ I r h) fun _ s1 ⟨σ1,H1,I1,q1⟩=> ?_)
  exact h2 pins s1 σ1 H1 _ _ Q I1 rr q1⟩
def xe4(K:tz0)(n:Nat)(t:TGs):TG:=fun v σ H Q=>∃a xs,v= .ref a/\SqT K H a xs/\xs.length=n/\t xs σ H Q
theorem xq7{es:List Expr}{k:Nat}{t:TGs}{n:Nat}(hc:X.calm=true)(h:PGs X es t)
  (hn:(assignEach es X.env).length=n:=by rfl) (hst:(assignEach es X.env).findIdx? (·.1)=none:=by rfl):PG X (.Tuple es k pos) (xe4 X.K n t):=⟨by
 intro pins s σ H v u Q I r hw
 obtain⟨a,xs,e1,hq,hl,hw⟩:=hw
 subst e1
 cases r
 obtain⟨its,rv,ht,hz⟩:=I.tuple hq
 refine assign_Tuple_tuple (I.ok.hd hc) ht (by simp [hn,<-hl,rv.length]) hst fun h' hx=> ?_
 have I1:Inv X pins σ H {s with heap:=h'}:=I.kept (t':=s.toks) fun b o e=>hx b o (Nat.ne_of_lt (Heap.lt_size e)) e
 exact h pins _ σ H xs _ Q I1 (by simpa using rv) hw⟩
def wf4(to ti:TE)(t:xe3):TG:=fun v σ H Q=>to σ H fun o H1=>ti σ H1 fun i H2=>t o i v H2 fun H3=>Q σ H3
theorem xq8{o i:Expr}{to ti:TE}{t:xe3}(ho:PE X o to)(hi:PE X i ti)(hs:xw7 X t)
  (ha:∀v,assign (.Subscript o i pos) X.env v=(do
   let ov<-holding [v] (eval o X.env)
   let iv<-holding [v,ov] (eval i X.env)
   standAt pos
   holding [v,ov,iv] (setItem ov iv v)
   release [v,ov,iv] []):=by intro _;rfl):PG X (.Subscript o i pos) (wf4 to ti t):=⟨by
 intro pins s σ H v u Q I r h
 rw [ha]
 refine wpAny_bind (wpAny_holding (thn (ho pins s σ H _ I h) fun ov s1 ⟨x,H1,I1,r1,q1⟩=> ?_))
 refine wpAny_bind (wpAny_holding (thn (hi pins s1 σ H1 _ I1 q1) fun iv s2 ⟨y,H2,I2,r2,q2⟩=> ?_))
 refine wpAny_bind (wpAny_standAt (wpAny_bind (wpAny_holding (thn (hs pins s2 σ H2 x y v ov iv u _ I2 r1 r2 r q2) fun _ s3 ⟨H3,I3,q3⟩=> ?_))))
 exact wpAny_release ⟨σ,H3,I3,q3⟩⟩
def xw9(te:TE)(g:TG):TS:=fun D σ H=>te σ H fun x H1=>g x σ H1 D.nx
theorem ym6{tg e:Expr}{te:TE}{g:TG}(he:PE X e te)(hg:PG X tg g)(hs:swapsWithSole [tg] e pos.line X.env=pure false:=by rfl)(hw:swappedStores [tg] e X.env=pure none:=by rfl)
  (h1:(assignEach [tg] X.env).map (·.2)=[assign tg X.env]:=by rfl):PS X (.Assign [tg] e pos) (xw9 te g):=⟨by
 intro pins s σ H D I h
 refine wpAny_Assign_stores (thn (he pins s σ H _ I h) fun v s1 ⟨x,H1,I1,r1,q1⟩=> ?_) hs hw
 rw [h1]
 exact thn (hg pins s1 σ H1 x v _ I1 r1 q1) fun _ s2 q=>q⟩
theorem uC{i:Nat}{x:Str}{e:Expr}{te:TE}{pos':Pos}(hN:X.N.Nodup)(hi:X.N[i]? =some x)(hx:Loc X.env.scope x)(he:PE X e te)(hs:swapsWith e (some (.Name x pos')) pos.line X.env=pure false:=by rfl)(hf:X.fn x=true\/X.env.scope.names.lookup x=some .local:=by first|exact .inl rfl|exact .inr rfl|assumption):
  PS X (.Assign [.Name x pos'] e pos) (xw9 te (vQ i)):=⟨by
 intro pins s σ H D I h
 refine wpAny_Assign_Name (thn (he pins s σ H _ I h) fun v s1 ⟨y,H1,I1,r1,q1⟩=> ?_) hs
 exact zr3 I1 hN hi hx r1 (fun s2 I2=>⟨_,H1,I2,q1⟩) hf⟩
def xx0(c:TT)(tb:TS):TS:=fun D σ H=>∃W:Nat->St->Hp->Prop,(∃m,W m σ H)/\∀m σ H,W m σ H->
 c σ H fun b H1=>if b=true then ∃N:St->Hp->Prop,(∀σ' H',N σ' H'->∃m',m'<m/\W m' σ' H')/\tb {D with nx:=N,ct:=N,bk:=D.nx} σ H1 else D.nx σ H1
theorem yx0{c:Expr}{body:List Stmt}{tc:TT}{tb:TS}(hp:PassesOwn (model X.prog X.w) X.A X.env X.xe)(hc:PT X c tc)(hb:PSs X body tb):PS X (.While c body [] pos) (xx0 tc tb):=⟨by
 intro pins s σ H D I h
 obtain⟨W,⟨m0,w0⟩,turn⟩:=h
 refine wpAny_While (codeAny_whileLoop (fun n s'=>∃σ' H',Inv X pins σ' H' s'/\W n σ' H') ?_ m0 ⟨σ,H,I,w0⟩)
 rintro n s1 ⟨σ1,H1,I1,w1⟩
 refine wpAny_passesOwn hp (thn (hc pins s1 σ1 H1 _ I1 (turn n σ1 H1 w1)) fun b s2 ⟨H2,I2,q2⟩=> ?_)
 cases b with
 | true=>
  obtain⟨N,hN,q2⟩:=q2
  rw [if_pos rfl]
  refine wpAny_passesOwn hp (thn (hb pins s2 σ1 H2 _ I2 q2) fun f s3 q3=> ?_)
  cases f with
  |next=>
   obtain⟨σ3,H3,I3,n3⟩:=q3
   obtain⟨m',hm,w3⟩:=hN σ3 H3 n3
   exact⟨m',hm,σ3,H3,I3,w3⟩
  |cont=>
   obtain⟨σ3,H3,I3,n3⟩:=q3
   obtain⟨m',hm,w3⟩:=hN σ3 H3 n3
   exact⟨m',hm,σ3,H3,I3,w3⟩
  |brk=>exact q3
  |ret v=>exact q3
 |false=>
  rw [if_neg Bool.false_ne_true]
  exact wpAny_execs_nil ⟨σ1,H2,I2,q2⟩⟩
end
structure It where
 go:Nat->Hp->Prop
 yld:Nat->Hp->V->Hp->Prop
 stop:Nat->Hp->Prop
def nC(X:Cx)(pins:tzB)(H:Hp)(b:Addr):Prop:=
 H b=none/\b≠X.env.locals/\b∉X.fs/\(b∈X.ex\/X.s₀.heap.objs.size<=b)/\(∀x c,X.env.cells.lookup x=some c->c≠b)/\∀p∈X.pn++pins,p.1≠b
theorem Inv.fpOk{X:Cx}{pins:tzB}{σ:St}{H H':Hp}{s:Shared}{b:Addr}(I:Inv X pins σ H s)(hb:s.heap.objs.size<=b)(hn:H' b=none):nC X pins H' b:=by
 refine⟨hn,Nat.ne_of_gt (Nat.lt_of_lt_of_le I.lt hb),I.nofs hb,.inr (Nat.le_trans I.sz hb),fun x c e z=> ?_,fun p hp z=> ?_⟩
 ·obtain⟨v,q⟩:=I.cell x c e
  exact absurd (Nat.lt_of_lt_of_le q.lt (by rw [z];exact hb)) (Nat.lt_irrefl _)
 ·exact absurd (Nat.lt_of_lt_of_le (Heap.lt_size (I.pin p hp).1) (by rw [z];exact hb)) (Nat.lt_irrefl _)
structure Turn(P:Program)(w:World)(K:tz0)(tg:Expr)(J:It)(fp:List Addr)(it:Addr)(tn:Nat->Heap->Prop):Prop where
 mem:it∈fp
 obj:∀i h,tn i h->∀b∈fp,∃o,h.get? b=some o/\∀v,o.data≠ .cell v
 keep:∀i h h',tn i h->(∀b∈fp,∀o,h.get? b=some o->h'.get? b=some o)->tn i h'
 item:∀(X:Cx),X.prog=P->X.w=w->X.K=K->X.calm=true->∀(i:Nat) (pins:tzB) (s:Shared) (σ:St) (H:Hp) (E:Value->Shared->Prop),Inv X pins σ H s->(∀b∈fp,nC X pins H b)->tn i s.heap->J.go i H->
  wpAny (model P w) X.A (pyNext (.ref it)) (fun r s1=>∃u,r=some u/\
   wpAny (model P w) X.A (letOwnedTupleGo tg (.ref it) u) (fun _ s2=>∃x H',Inv X pins σ H' s2/\bZ x u/\J.yld i H x H'/\tn (i+1) s2.heap/\∀b∈fp,H' b=none) E s1) E s
 done:∀(X:Cx),X.prog=P->X.w=w->X.K=K->X.calm=true->∀(i:Nat) (pins:tzB) (s:Shared) (σ:St) (H:Hp) (E:Value->Shared->Prop),Inv X pins σ H s->(∀b∈fp,nC X pins H b)->tn i s.heap->J.stop i H->
  wpAny (model P w) X.A (pyNext (.ref it)) (fun r s1=>r=none/\Inv X pins σ H s1) E s
 self:∀(A:Around) (i:Nat) (s:Shared) (Q:Value->Shared->Prop) (E:Value->Shared->Prop),tn i s.heap->Q (.ref it) s->wpAny (model P w) A (pyIter (.ref it)) Q E s
abbrev TI:=St->Hp->(It->Hp->Prop)->Prop
def PIE(X:Cx)(pins:tzB)(σ:St)(tg:Expr)(R:It->Hp->Prop)(itv:Value)(s2:Shared):Prop:=
 ∃(it:Addr) (fp:List Addr) (tn:Nat->Heap->Prop) (J:It) (H':Hp),itv= .ref it/\Inv X pins σ H' s2/\Turn X.prog X.w X.K tg J fp it tn/\tn 0 s2.heap/\(∀b∈fp,nC X pins H' b)/\R J H'
def PId(X:Cx)(tg iter:Expr)(wi:TI):Prop:=
 ∀(pins:tzB) (s:Shared) (σ:St) (H:Hp) (R:It->Hp->Prop),Inv X pins σ H s->wi σ H R->
  wpAny (model X.prog X.w) X.A (eval iter X.env) (fun v s1=>wpAny (model X.prog X.w) X.A (pyIter v) (PIE X pins σ tg R) X.xe s1) X.xe s
structure PI(X:Cx)(tg iter:Expr)(wi:TI):Prop where
 go:PId X tg iter wi
instance {X:Cx} {tg iter:Expr} {wi:TI}:CoeFun (PI X tg iter wi) fun _=>PId X tg iter wi:=⟨PI.go⟩
theorem zo7{M:Model}{A:Around}{E:Value->Shared->Prop}{s:Shared}{tg:Expr}{it:Addr}{u:Value}{o:Obj}{n:String}{vs:Array Value}{Q:Unit->Shared->Prop}(ho:s.heap.get? it=some o)(hc:o.cls= .type n)(hd:o.data= .fields vs)
  (hn:["enumerate","zip","dict_itemiterator","dict_reverseitemiterator","odict_iterator","itertools.zip_longest","itertools.pairwise"].contains n=false) (hQ:Q () s):wpAny M A (letOwnedTupleGo tg (.ref it) u) Q E s:=by
 unfold letOwnedTupleGo
 cases tg<;>first
  |exact wpAny_pure hQ
  | (cases u<;>first
    |exact wpAny_pure hQ
    | (refine wpAny_bind (wpAny_load ho ?_)
       rw [hc,hd]
       show wpAny M A (if (["enumerate","zip","dict_itemiterator","dict_reverseitemiterator","odict_iterator","itertools.zip_longest","itertools.pairwise"].contains n&&vs[0]? ==some (rawInt _))=true then _ else _) Q E s
       rw [if_neg (by intro h;rw [hn,Bool.false_and] at h;cases h)]
       exact wpAny_pure hQ))
def Itl(K:tz0)(a:Addr):It:=
 ⟨fun i H=>∃xs x,SqL K H a xs/\xs[i]? =some x,fun i H x H'=>H'=H/\∀xs,SqL K H a xs->xs[i]? =some x,fun i H=>∃xs,SqL K H a xs/\xs.length<=i⟩
def Itt(K:tz0)(a:Addr):It:=
 ⟨fun i H=>∃xs x,SqT K H a xs/\xs[i]? =some x,fun i H x H'=>H'=H/\∀xs,SqT K H a xs->xs[i]? =some x,fun i H=>∃xs,SqT K H a xs/\xs.length<=i⟩
def Itr(lo:Int)(n:Nat):It:=⟨fun i _=>i<n,fun i H x H'=>H'=H/\x= .int (lo+i),fun i _=>n<=i⟩
theorem ym7{P:Program}{w:World}{K:tz0}{tg:Expr}(a it:Addr):Turn P w K tg (Itl K a) [it] it (fun i h=>h.IsListIter it a i) where
 mem:=by simp
 obj:=fun i h st b hb=>by
  have e:b=it:=by simpa using hb
  subst e
  obtain⟨o,e,c,d⟩:=st
  exact⟨o,e,fun v z=>by rw [d] at z;cases z⟩
 keep:=fun i h h' st k=>st.at fun o e=>k it (by simp) o e
 item:=by
  intro X hP hw hK hc i pins s σ H E I hf st hg
  subst hP hw hK
  obtain⟨xs,x,hq,hx⟩:=hg
  obtain⟨its,rv,p,hz⟩:=I.list hq
  obtain⟨u,hu,ru⟩:=rv.get hx
  obtain⟨f0,f1,f2,f3,f4,f5⟩:=hf it (by simp)
  refine wpAny_pyNext_list_item st p.isList (x:=u) (by simpa using hu) fun h' st' sb=> ?_
  have I1:Inv X pins σ H {s with heap:=h'}:=I.turned (t':=s.toks) (fun b o hb e=>(sb.2 b hb).trans e) f0 f1 f3 f4 f5
  obtain⟨o,e,c,d⟩:=id st'
  exact⟨u,rfl,zo7 (s:={s with heap:=h'}) e c d (by decide) ⟨x,H,I1,ru,⟨rfl,fun ys hy=>by rw [I.list_inj hy hq];exact hx⟩,st',fun b hb=>(hf b hb).1⟩⟩
 done:=by
  intro X hP hw hK hc i pins s σ H E I hf st hg
  subst hP hw hK
  obtain⟨xs,hq,hx⟩:=hg
  obtain⟨its,rv,p,hz⟩:=I.list hq
  obtain⟨f0,f1,f2,f3,f4,f5⟩:=hf it (by simp)
  have hl:=rv.length
  exact wpAny_pyNext_list_end (I.ok.hd hc) st p.isList (by simp;omega) fun h' eb=>⟨rfl,I.turned (t':=s.toks) (fun b o hb e=>eb b o hb e) f0 f1 f3 f4 f5⟩
 self:=fun _ _ _ _ _ st h=>wpAny_pyIter_listiter st h
theorem yf7{P:Program}{w:World}{K:tz0}{tg:Expr}(a it:Addr):Turn P w K tg (Itt K a) [it] it (fun i h=>h.IsTupleIter it a i) where
 mem:=by simp
 obj:=fun i h st b hb=>by
  have e:b=it:=by simpa using hb
  subst e
  obtain⟨o,e,c,d⟩:=st
  exact⟨o,e,fun v z=>by rw [d] at z;cases z⟩
 keep:=fun i h h' st k=>st.at fun o e=>k it (by simp) o e
 item:=by
  intro X hP hw hK hc i pins s σ H E I hf st hg
  subst hP hw hK
  obtain⟨xs,x,hq,hx⟩:=hg
  obtain⟨its,rv,p,hz⟩:=I.tuple hq
  obtain⟨u,hu,ru⟩:=rv.get hx
  obtain⟨f0,f1,f2,f3,f4,f5⟩:=hf it (by simp)
  refine wpAny_pyNext_tuple_item st (show s.heap.IsTuple a its.toArray from p) (x:=u) (by simpa using hu) fun h' st' sb=> ?_
  have I1:Inv X pins σ H {s with heap:=h'}:=I.turned (t':=s.toks) (fun b o hb e=>(sb.2 b hb).trans e) f0 f1 f3 f4 f5
  obtain⟨o,e,c,d⟩:=id st'
  exact⟨u,rfl,zo7 (s:={s with heap:=h'}) e c d (by decide) ⟨x,H,I1,ru,⟨rfl,fun ys hy=>by rw [I.tuple_inj hy hq];exact hx⟩,st',fun b hb=>(hf b hb).1⟩⟩
 done:=by
  intro X hP hw hK hc i pins s σ H E I hf st hg
  subst hP hw hK
  obtain⟨xs,hq,hx⟩:=hg
  obtain⟨its,rv,p,hz⟩:=I.tuple hq
  obtain⟨f0,f1,f2,f3,f4,f5⟩:=hf it (by simp)
  have hl:=rv.length
  exact wpAny_pyNext_tuple_end (I.ok.hd hc) st (show s.heap.IsTuple a its.toArray from p) (by simp;omega) fun h' eb=>⟨rfl,I.turned (t':=s.toks) (fun b o hb e=>eb b o hb e) f0 f1 f3 f4 f5⟩
 self:=fun _ _ _ _ _ st h=>wpAny_pyIter_tupleiter st h
theorem yf8{P:Program}{w:World}{K:tz0}{tg:Expr}(it:Addr)(lo:Int)(n:Nat):Turn P w K tg (Itr lo n) [it] it (fun i h=>IsRangeIter h it (lo+(i:Nat)*1) ((n:Int)-(i:Nat)) 1) where
 mem:=by simp
 obj:=fun i h st b hb=>by
  have e:b=it:=by simpa using hb
  subst e
  exact⟨_,st,fun v z=>by
   have z':Data.fields _=Data.cell v:=z
   cases z'⟩
 keep:=fun i h h' st k=>k it (by simp) _ st
 item:=by
  intro X hP hw hK hc i pins s σ H E I hf st hg
  subst hP hw hK
  obtain⟨f0,f1,f2,f3,f4,f5⟩:=hf it (by simp)
  have W:=Walks.range (prog:=X.prog) (w:=X.w) (I.ok.hd hc) it lo 1 n
  refine W.item i s _ _ hg st fun v h' tk hv st' kk=> ?_
  obtain⟨t,rfl⟩:=hv
  have I1:Inv X pins σ H {s with heap:=h',toks:=tk}:=I.turned (fun b o hb e=>kk b o (by simpa using hb) e) f0 f1 f3 f4 f5
  refine⟨_,rfl,zo7 (s:={s with heap:=h',toks:=tk}) (n:="range_iterator") st' rfl rfl (by decide) ⟨.int (lo+i),H,I1,⟨t,?_⟩,⟨rfl,rfl⟩,st',fun b hb=>(hf b hb).1⟩⟩
  rw [Int.mul_one]
 done:=by
  intro X hP hw hK hc i pins s σ H E I hf st hg
  subst hP hw hK
  obtain⟨f0,f1,f2,f3,f4,f5⟩:=hf it (by simp)
  exact wpAny_pyNext_range_end (I.ok.hd hc) st (by have:n<=i:=hg;omega) fun h' eb=>⟨rfl,I.turned (t':=s.toks) (fun b o hb e=>eb b o hb e) f0 f1 f3 f4 f5⟩
 self:=fun _ _ _ _ _ st h=>wpAny_pyIter_rangeiter st h
section
variable{X:Cx}{tg:Expr}
theorem zr4{pins:tzB}{σ:St}{H:Hp}{s:Shared}{R:It->Hp->Prop}{E:Value->Shared->Prop}{lo hi:Int}{t u v:Tok}{tk:Nat}(I:Inv X pins σ H s)(h1: -(2^62)<=lo)(h2:lo<2^62)(h3: -(2^62)<=hi)(h4:hi<2^62)
  (q:R (Itr lo (hi-lo).toNat) H):wpAny (model X.prog X.w) X.A (pyIter (.ref s.heap.objs.size)) (PIE X pins σ tg R) E {s with heap:=s.heap.push {cls:= .type "range",data:= .fields #[.int lo t,.int hi u,.int 1 v]},toks:=tk}:=by
 refine wpAny_pyIter_range (IsRange.new ..) (small_one h1 h2 h3 h4) ?_
 have I1:Inv X pins σ H {s with heap:=s.heap.push {cls:= .type "range",data:= .fields #[.int lo t,.int hi u,.int 1 v]},toks:=tk}:=I.kept fun b o e=>Heap.get?_push_of_some _ e
 refine⟨(s.heap.push {cls:= .type "range",data:= .fields #[.int lo t,.int hi u,.int 1 v]}).objs.size,[(s.heap.push {cls:= .type "range",data:= .fields #[.int lo t,.int hi u,.int 1 v]}).objs.size],_,_,H,rfl,
  I1.kept (t':=tk) fun b o e=>Heap.get?_push_of_some _ e,yf8 _ lo (hi-lo).toNat,?_,fun b hb=> ?_,q⟩
 ·have e1:lo+((0:Nat):Int)*1=lo:=by simp
  have e2:(((hi-lo).toNat:Nat):Int)-((0:Nat):Int)=Builtin.Range.rangeSize lo hi 1:=by rw [rangeSize_one];split<;>omega
  show IsRangeIter _ _ (lo+((0:Nat):Int)*1) ((((hi-lo).toNat:Nat):Int)-((0:Nat):Int)) 1
  rw [e1,e2]
  exact Heap.get?_push_size _ rfl
 ·have e:b=(s.heap.push {cls:= .type "range",data:= .fields #[.int lo t,.int hi u,.int 1 v]}).objs.size:=by simpa using hb
  subst e
  exact I1.fpOk (Nat.le_refl _) (I1.hok.fresh (Nat.le_refl _))
def wc0(ta:TA):TI:=fun σ H R=>ta σ H fun vs H1=>∃j:Int,vs=[.int j]/\ -(2^62)<=j/\j<2^62/\R (Itr 0 j.toNat) H1
def wc1(ta:TA):TI:=fun σ H R=>ta σ H fun vs H1=>∃i j:Int,vs=[.int i,.int j]/\(-(2^62)<=i/\i<2^62/\ -(2^62)<=j/\j<2^62)/\R (Itr i (j-i).toNat) H1
theorem ym8{a:Expr}{ta:TA}{p pos:Pos}(hg:Gl X "range")(hm:X.mg "range"=none)(ha:PA X [a] ta)(hs:starEach [a] X.env=[(false,eval a X.env)]:=by rfl):PI X tg (.Call (.Name "range" p) [a] [] pos) (wc0 ta):=⟨by
 intro pins s σ H R I h
 refine Call_ (wS I hg hm boot_range (PyProof.Rows.callWith_type1 (thn (ha pos pins s σ H _ I h) fun us s1 ⟨vs,H1,I1,r1,q1⟩=> ?_) hs rfl))
 obtain⟨j,e,q1,q2,q⟩:=q1
 subst e
 cases r1 with
 |cons r rr=>
  cases rr
  obtain⟨t,rfl⟩:=r
  exact call_range_1 (zr4 I1 (by omega) (by omega) q1 q2 (by simpa using q))⟩
theorem ym9{a b:Expr}{ta:TA}{p pos:Pos}(hg:Gl X "range")(hm:X.mg "range"=none)(ha:PA X [a,b] ta)(hs:starEach [a,b] X.env=[(false,eval a X.env),(false,eval b X.env)]:=by rfl)(hs2:starEach [b] X.env=[(false,eval b X.env)]:=by rfl):
  PI X tg (.Call (.Name "range" p) [a,b] [] pos) (wc1 ta):=⟨by
 intro pins s σ H R I h
 refine Call_ (wS I hg hm boot_range (PyProof.Rows.callWith_type1 (thn (ha pos pins s σ H _ I h) fun us s1 ⟨vs,H1,I1,r1,q1⟩=> ?_) (by rw [hs,hs2]) (by rw [hs2];rfl)))
 obtain⟨i,j,e,⟨q1,q2,q3,q4⟩,q⟩:=q1
 subst e
 cases r1 with
 | cons r rr=>
  cases rr with
  |cons r' rr=>
   cases rr
   obtain⟨t,rfl⟩:=r
   obtain⟨t',rfl⟩:=r'
   exact call_range_2 (zr4 I1 q1 q2 q3 q4 q)⟩
def wf5(wi:TI)(g:TG)(tb:TS):TS:=fun D σ H=>wi σ H fun J H1=>∃W:Nat->Nat->St->Hp->Prop,(∃m,W 0 m σ H1)/\∀i m σ H,W i m σ H->
 (J.stop i H/\D.nx σ H)\/(J.go i H/\∃N:St->Hp->Prop,(∀σ' H',N σ' H'->∃m',m'<m/\W (i+1) m' σ' H')/\∀x H',J.yld i H x H'->g x σ H' fun σ2 H2=>tb {D with nx:=N,ct:=N,bk:=D.nx} σ2 H2)
def uR(fp:List Addr)(h:Heap):tzB:=fp.filterMap fun b=>(h.get? b).map fun o=>(b,o)
theorem qK{fp:List Addr}{h:Heap}{b:Addr}{o:Obj}(hb:b∈fp)(e:h.get? b=some o):(b,o)∈uR fp h:=List.mem_filterMap.mpr ⟨b,hb,by rw [e];rfl⟩
theorem yn0{fp:List Addr}{h:Heap}{p:Addr×Obj}(hp:p∈uR fp h):p.1∈fp/\h.get? p.1=some p.2:=by
 obtain⟨b,hb,e⟩:=List.mem_filterMap.mp hp
 cases q:h.get? b with
 |none=>rw [q] at e;cases e
 |some o=>
  rw [q] at e
  have e':(b,o)=p:=Option.some.inj e
  subst e'
  exact⟨hb,q⟩
theorem Inv.pinned{pins:tzB}{σ:St}{H:Hp}{s:Shared}{fp:List Addr}(I:Inv X pins σ H s)(hf:∀b∈fp,nC X pins H b)(ho:∀b∈fp,∃o,s.heap.get? b=some o/\∀v,o.data≠ .cell v):Inv X (pins++uR fp s.heap) σ H s:=
 I.pins_of fun p hp=>(List.mem_append.mp hp).elim (fun z=>I.pin p (List.mem_append_right _ z)) fun z=>by
  obtain⟨hb,e⟩:=yn0 z
  obtain⟨f0,f1,f2,_⟩:=hf p.1 hb
  obtain⟨o,e',d⟩:=ho p.1 hb
  rw [e] at e';cases e'
  exact⟨e,f0,f1,f2,d⟩
theorem Inv.unpinned{pins pl:tzB}{σ:St}{H:Hp}{s:Shared}(I:Inv X (pins++pl) σ H s):Inv X pins σ H s:=I.pins_of fun p hp=>I.pin p (List.mem_append_right _ (List.mem_append_left _ hp))
theorem zr5{iter:Expr}{body:List Stmt}{wi:TI}{g:TG}{tb:TS}{pos:Pos}(hp:PassesOwn (model X.prog X.w) X.A X.env X.xe)(hc:X.calm=true)(hi:PI X tg iter wi)(hg:PG X tg g)(hb:PSs X body tb)
  (hs:∀x,foldedSetIterable iter X.env x=pure x:=by intro _;rfl):PS X (.For tg iter body [] pos) (wf5 wi g tb):=⟨by
 intro pins s σ H D I h
 refine wpAny_For (thn (hi pins s σ H _ I h) fun v s1 h1=>thn h1 fun itv s2 h2=> ?_) hs
 obtain⟨it,fp,tn,J,H2,e,I2,T,st2,f2,W,⟨m0,w0⟩,turn⟩:=h2
 subst e
 have stat:∀{H':Hp},(∀b∈fp,H' b=none)->∀b∈fp,nC X pins H' b:=fun hn b hb=>⟨hn b hb,(f2 b hb).2⟩
 refine codeAny_forLoop_any (fun n s'=>∃i σ' H',Inv X pins σ' H' s'/\tn i s'.heap/\(∀b∈fp,H' b=none)/\W i n σ' H') ?_ m0 ⟨0,σ,H2,I2,st2,fun b hb=>(f2 b hb).1,w0⟩
 rintro n s3 ⟨i,σ3,H3,I3,st3,fr3,w3⟩
 rcases turn i n σ3 H3 w3 with ⟨stop,qn⟩|⟨go,N,hN,step⟩
 ·refine wpAny_passesOwn hp (thn (T.done X rfl rfl rfl hc i pins s3 σ3 H3 X.xe I3 (stat fr3) st3 stop) fun r s4 ⟨hr,I4⟩=> ?_)
  subst hr
  exact wpAny_execs_nil ⟨σ3,H3,I4,qn⟩
 ·refine wpAny_passesOwn hp (thn (T.item X rfl rfl rfl hc i pins s3 σ3 H3 X.xe I3 (stat fr3) st3 go) fun r s4 ⟨u,hr,h4⟩=> ?_)
  subst hr
  refine wpAny_passesOwn hp (thn h4 fun _ s5 ⟨x,H5,I5,r5,y5,st5,fr5⟩=> ?_)
  have I5':=I5.pinned (stat fr5) (T.obj _ _ st5)
  refine wpAny_passesOwn hp (thn (hg _ s5 σ3 H5 x u _ I5' r5 (step x H5 y5)) fun _ s6 ⟨σ6,H6,I6,q6⟩=> ?_)
  refine wpAny_passesOwn hp (thn (hb _ s6 σ6 H6 _ I6 q6) fun f s7 q7=> ?_)
  have again:∀{σ7:St} {H7:Hp},Inv X (pins++uR fp s5.heap) σ7 H7 s7->N σ7 H7->∃m,m<n/\∃i σ' H',Inv X pins σ' H' s7/\tn i s7.heap/\(∀b∈fp,H' b=none)/\W i m σ' H':=fun {σ7 H7} I7 n7=>by
   obtain⟨m',hm,w7⟩:=hN σ7 H7 n7
   refine⟨m',hm,i+1,σ7,H7,I7.unpinned,T.keep _ _ _ st5 fun b hb o e=>(I7.pin (b,o) (List.mem_append_right _ (List.mem_append_right _ (qK hb e)))).1,fun b hb=> ?_,w7⟩
   obtain⟨o,e,d⟩:=T.obj _ _ st5 b hb
   exact(I7.pin (b,o) (List.mem_append_right _ (List.mem_append_right _ (qK hb e)))).2.1
  cases f with
  |next=>obtain⟨σ7,H7,I7,n7⟩:=q7;exact again I7 n7
  |cont=>obtain⟨σ7,H7,I7,n7⟩:=q7;exact again I7 n7
  |brk=>obtain⟨σ7,H7,I7,q7⟩:=q7;exact⟨σ7,H7,I7.unpinned,q7⟩
  |ret v=>obtain⟨x7,σ7,H7,I7,r7,q7⟩:=q7;exact⟨x7,σ7,H7,I7.unpinned,r7,q7⟩⟩
end
abbrev R2:=V->V->Hp->VK->Prop
def xx1(X:Cx)(f:Value->Value->Sem Value)(r:R2):Prop:=
 ∀(pins:tzB) (s:Shared) (σ:St) (H:Hp) (x y:V) (v u:Value) (Q:VK),Inv X pins σ H s->bZ x v->bZ y u->r x y H Q->
  wpAny (model X.prog X.w) X.A (f v u) (EP X pins σ Q) X.xe s
structure OpR(X:Cx)(f:Value->Value->Sem Value)(r:R2):Prop where
 go:xx1 X f r
instance {X:Cx} {f:Value->Value->Sem Value} {r:R2}:CoeFun (OpR X f r) fun _=>xx1 X f r:=⟨OpR.go⟩
def UnR(X:Cx)(f:Value->Sem Value)(r:V->Hp->VK->Prop):Prop:=
 ∀(pins:tzB) (s:Shared) (σ:St) (H:Hp) (x:V) (v:Value) (Q:VK),Inv X pins σ H s->bZ x v->r x H Q->
  wpAny (model X.prog X.w) X.A (f v) (EP X pins σ Q) X.xe s
def yw2(X:Cx)(f:Value)(r:List V->Hp->VK->Prop):Prop:=
 ∀(pins:tzB) (s:Shared) (σ:St) (H:Hp) (xs:List V) (us:List Value) (Q:VK),Inv X pins σ H s->bG xs us->r xs H Q->
  wpAny (model X.prog X.w) X.A (call f us) (EP X pins σ Q) X.xe s
structure CallR(X:Cx)(f:Value)(r:List V->Hp->VK->Prop):Prop where
 go:yw2 X f r
instance {X:Cx} {f:Value} {r:List V->Hp->VK->Prop}:CoeFun (CallR X f r) fun _=>yw2 X f r:=⟨CallR.go⟩
def wf6(X:Cx)(r:V->Hp->(Bool->Hp->Prop)->Prop):Prop:=
 ∀(pins:tzB) (s:Shared) (σ:St) (H:Hp) (x:V) (v:Value) (Q:Bool->Hp->Prop),Inv X pins σ H s->bZ x v->r x H Q->
  wpAny (model X.prog X.w) X.A (truthy v) (TP X pins σ Q) X.xe s
def tOp(r:R2)(ta tb:TE):TE:=fun σ H Q=>ta σ H fun x H1=>tb σ H1 fun y H2=>r x y H2 Q
def tUn(r:V->Hp->VK->Prop)(ta:TE):TE:=fun σ H Q=>ta σ H fun x H1=>r x H1 Q
def rI(C:Int->Int->Prop)(g:Int->Int->V):R2:=fun x y H Q=>∃i j,x= .int i/\y= .int j/\C i j/\Q (g i j) H
def rI0(g:Int->Int->V):R2:=fun x y H Q=>∃i j,x= .int i/\y= .int j/\Q (g i j) H
def rU(g:Int->V):V->Hp->VK->Prop:=fun x H Q=>∃i,x= .int i/\Q (g i) H
section
variable{X:Cx}{a b c:Expr}{ta tb tc:TE}{pos:Pos}
theorem yx1(ha:PE X a ta)(hb:PE X b tb){pins:tzB}{s:Shared}{σ:St}{H:Hp}{R:V->V->Hp->Prop}(I:Inv X pins σ H s)
  (h:ta σ H fun x H1=>tb σ H1 fun y H2=>R x y H2) {Q:Value->Shared->Prop} {f:Value->Value->Sem Value}
  (hf:∀v u s2 x y H2,Inv X pins σ H2 s2->bZ x v->bZ y u->R x y H2->wpAny (model X.prog X.w) X.A (f v u) Q X.xe s2):
  wpAny (model X.prog X.w) X.A (eval a X.env) (fun v s₁=>wpAny (model X.prog X.w) X.A (eval b X.env) (fun u s₂=>wpAny (model X.prog X.w) X.A (f v u) Q X.xe s₂) X.xe s₁) X.xe s:=by
 refine thn (ha pins s σ H _ I h) fun v s1 ⟨x,H1,I1,r1,q1⟩=> ?_
 refine thn (hb pins s1 σ H1 _ I1 q1) fun u s2 ⟨y,H2,I2,r2,q2⟩=> ?_
 exact hf v u s2 x y H2 I2 r1 r2 q2
theorem fR{op:Operator}{r:R2}(ho:OpR X (binaryOp op) r)(ha:PE X a ta)(hb:PE X b tb):PE X (.BinOp a op b pos) (tOp r ta tb):=⟨by
 intro pins s σ H Q I h
 exact wpAny_BinOp (yx1 ha hb I h fun v u s2 x y H2 I2 rx ry q=>ho pins s2 σ H2 x y v u Q I2 rx ry q)⟩
theorem xz5{op:UnaryOp}{r:V->Hp->VK->Prop}(ho:UnR X (unaryOp op) r)(ha:PE X a ta):PE X (.UnaryOp op a pos) (tUn r ta):=⟨by
 intro pins s σ H Q I h
 exact UnaryOp_ (thn (ha pins s σ H _ I h) fun v s1 ⟨x,H1,I1,r1,q1⟩=>ho pins s1 σ H1 x v Q I1 r1 q1)⟩
theorem opI{f:Value->Value->Sem Value}{C:Int->Int->Prop}{g:Int->Int->Int}
  (rule:∀(i j:Int) (t u:Tok) (s:Shared) (Q:Value->Shared->Prop) (E:Value->Shared->Prop),C i j->Q (.int (g i j) s.toks) {s with toks:=s.toks+1}->wpAny (model X.prog X.w) X.A (f (.int i t) (.int j u)) Q E s):
  OpR X f (rI C fun i j=> .int (g i j)):=⟨by
 intro pins s σ H x y v u Q I rx ry h
 obtain⟨i,j,rfl,rfl,hc,q⟩:=h
 obtain⟨t,rfl⟩:=rx
 obtain⟨t',rfl⟩:=ry
 exact rule i j t t' s _ _ hc ⟨.int (g i j),H,I.tok _,⟨_,rfl⟩,q⟩⟩
theorem yx2{f:Value->Value->Sem Value}{g:Int->Int->Int}
  (rule:∀(i j:Int) (t u:Tok) (s:Shared) (Q:Value->Shared->Prop) (E:Value->Shared->Prop),Q (.int (g i j) s.toks) {s with toks:=s.toks+1}->wpAny (model X.prog X.w) X.A (f (.int i t) (.int j u)) Q E s):
  OpR X f (rI0 fun i j=> .int (g i j)):=⟨by
 intro pins s σ H x y v u Q I rx ry h
 obtain⟨i,j,rfl,rfl,q⟩:=h
 obtain⟨t,rfl⟩:=rx
 obtain⟨t',rfl⟩:=ry
 exact rule i j t t' s _ _ ⟨.int (g i j),H,I.tok _,⟨_,rfl⟩,q⟩⟩
theorem yx3{f:Value->Value->Sem Value}{g:Int->Int->Bool}
  (rule:∀(i j:Int) (t u:Tok) (s:Shared) (Q:Value->Shared->Prop) (E:Value->Shared->Prop),Q (.bool (g i j)) s->wpAny (model X.prog X.w) X.A (f (.int i t) (.int j u)) Q E s):
  OpR X f (rI0 fun i j=> .bl (g i j)):=⟨by
 intro pins s σ H x y v u Q I rx ry h
 obtain⟨i,j,rfl,rfl,q⟩:=h
 obtain⟨t,rfl⟩:=rx
 obtain⟨t',rfl⟩:=ry
 exact rule i j t t' s _ _ ⟨.bl (g i j),H,I,rfl,q⟩⟩
def wf7(i j:Int):Prop:=0<j/\j<1073741824
def xe5(i j:Int):Prop:=(-(2^64)<i/\i<2^64)\/(-(2^64)<j/\j<2^64)
theorem xe5.ok{i j:Int}(h:xe5 i j):IntMulOk i j:=by
 rcases h with ⟨h1,h2⟩|⟨h1,h2⟩
 ·exact .of_left (intBits_le_64 h1 h2)
 ·exact .of_right (intBits_le_64 h1 h2)
theorem yf9(k:Nat):(0:Int)<=2^k:=by
 rw [two_pow_cast]
 exact Int.natCast_nonneg _
theorem uD:OpR X (binaryOp .Add) (rI0 fun i j=> .int (i+j)):=yx2 fun _ _ _ _ _ _ _ q=>add_int q
theorem xq9:OpR X (binaryOp .Sub) (rI0 fun i j=> .int (i-j)):=yx2 fun _ _ _ _ _ _ _ q=>sub_int q
theorem mR:OpR X (binaryOp .Mult) (rI xe5 fun i j=> .int (i*j)):=opI fun _ _ _ _ _ _ _ hc q=>mul_int q hc.ok
theorem yb0:OpR X (binaryOp .FloorDiv) (rI wf7 fun i j=> .int (i/j)):=opI fun i j _ _ _ _ _ hc q=>by
 have h1:(0:Int)<j:=hc.1
 have h2:j<1073741824:=hc.2
 exact floordiv_int (by omega) (by rw [Int.fdiv_eq_ediv_of_nonneg i (by omega)];exact q) (.inl (PyProof.noPylong_small (by omega)))
theorem za8:OpR X (binaryOp .Mod) (rI (fun _ j=>0<j) fun i j=> .int (i % j)):=opI fun i j _ _ _ _ _ hc q=>by
 have h1:(0:Int)<j:=hc
 exact mod_int' (by omega) (by rw [Int.fmod_eq_emod_of_nonneg i (by omega)];exact q)
theorem xr0:OpR X (binaryOp .RShift) (rI (fun _ j=>0<=j) fun i j=> .int (i/2^j.toNat)):=opI fun i j _ _ _ _ _ hc q=>
 rshift_int hc (by rw [Int.fdiv_eq_ediv_of_nonneg i (yf9 _)];exact q)
theorem yn1:OpR X (binaryOp .BitAnd) (rI0 fun i j=> .int (Builtin.bitAnd i j)):=yx2 fun _ _ _ _ _ _ _ q=>and_int q
theorem unI{f:Value->Sem Value}{g:Int->Int}
  (rule:∀(i:Int) (t:Tok) (s:Shared) (Q:Value->Shared->Prop) (E:Value->Shared->Prop),Q (.int (g i) s.toks) {s with toks:=s.toks+1}->wpAny (model X.prog X.w) X.A (f (.int i t)) Q E s):
  UnR X f (rU fun i=> .int (g i)):=by
 intro pins s σ H x v Q I rx h
 obtain⟨i,rfl,q⟩:=h
 obtain⟨t,rfl⟩:=rx
 exact rule i t s _ _ ⟨.int (g i),H,I.tok _,⟨_,rfl⟩,q⟩
theorem xr1:UnR X (unaryOp .USub) (rU fun i=> .int (-i)):=unI fun _ _ _ _ _ q=>neg_int q
end
def xx2:V->V->Bool
 | .non,.non=>true| .non,.int _=>true| .int _,.non=>true| .non,.bl _=>true| .bl _,.non=>true| .non,.str _=>true| .str _,.non=>true
 | .int _,.int _=>true| .bl _,.bl _=>true| .str _,.str _=>true| .byt _,.byt _=>true
 | .int _,.str _=>true| .str _,.int _=>true| .bl _,.str _=>true| .str _,.bl _=>true
 |_,_=>false
def rEq:R2:=fun x y H Q=>xx2 x y=true/\Q (.bl (decide (x=y))) H
def rNe:R2:=fun x y H Q=>xx2 x y=true/\Q (.bl (!decide (x=y))) H
theorem yb1{i j:Int}:decide (V.int i=V.int j)=(i==j):=by
 rw [Bool.eq_iff_iff]
 simp
theorem yn2{i j:Bool}:decide (V.bl i=V.bl j)=(i==j):=by
 rw [Bool.eq_iff_iff]
 simp
theorem yb2{i j:Str}:decide (V.str i=V.str j)=(i==j):=by
 rw [Bool.eq_iff_iff]
 simp
theorem yb3{i j:Array UInt8}:decide (V.byt i=V.byt j)=(i.toList==j.toList):=by
 rw [Bool.eq_iff_iff]
 cases i
 cases j
 simp
section
variable{X:Cx}{a b c:Expr}{ta tb tc:TE}{pos:Pos}
theorem cQ{pins:tzB}{σ:St}{H:Hp}{s:Shared}{Q:VK}{k k':Bool}(I:Inv X pins σ H s)(q:Q (.bl k) H)(e:k=k'):EP X pins σ Q (.bool k') s:=by
 subst e
 exact⟨.bl k,H,I,rfl,q⟩
theorem yg0:OpR X (compareOp .Eq) rEq:=⟨by
 intro pins s σ H x y v u Q I rx ry h
 obtain⟨hs,q⟩:=h
 cases x with
 |non=>
  cases rx
  cases y with
  |non=>cases ry;exact PySem.EqNone.eq_none_none (cQ I q (by simp))
  |bl j=>cases ry;exact PySem.EqNone.eq_none_bool (cQ I q (by simp))
  |int j=>obtain⟨t',rfl⟩:=ry;exact PySem.EqNone.eq_none_int (cQ I q (by simp))
  |str j=>obtain⟨t',rfl⟩:=ry;exact PySem.EqNone.eq_none_str (cQ I q (by simp))
  |_=>exact absurd (show false=true from hs) Bool.false_ne_true
 |bl i=>
  cases rx
  cases y with
  |non=>cases ry;exact PySem.EqNone.eq_bool_none (cQ I q (by simp))
  |bl j=>cases ry;exact eq_bool (cQ I q yn2)
  |str j=>obtain⟨t',rfl⟩:=ry;exact PySem.EqMixed.eq_bool_str (cQ I q (by simp))
  |_=>exact absurd (show false=true from hs) Bool.false_ne_true
 |int i=>
  obtain⟨t,rfl⟩:=rx
  cases y with
  |non=>cases ry;exact PySem.EqNone.eq_int_none (cQ I q (by simp))
  |int j=>obtain⟨t',rfl⟩:=ry;exact eq_int (cQ I q yb1)
  |str j=>obtain⟨t',rfl⟩:=ry;exact PySem.EqMixed.eq_int_str (cQ I q (by simp))
  |_=>exact absurd (show false=true from hs) Bool.false_ne_true
 |str i=>
  obtain⟨t,rfl⟩:=rx
  cases y with
  |non=>cases ry;exact PySem.EqNone.eq_str_none (cQ I q (by simp))
  |bl j=>cases ry;exact PySem.EqMixed.eq_str_bool (cQ I q (by simp))
  |int j=>obtain⟨t',rfl⟩:=ry;exact PySem.EqMixed.eq_str_int (cQ I q (by simp))
  |str j=>obtain⟨t',rfl⟩:=ry;exact eq_str (cQ I q yb2)
  |_=>exact absurd (show false=true from hs) Bool.false_ne_true
 |byt i=>
  obtain⟨t,rfl⟩:=rx
  cases y with
  |byt j=>obtain⟨t',rfl⟩:=ry;exact PySem.W.eq_bytes (cQ I q yb3)
  |_=>exact absurd (show false=true from hs) Bool.false_ne_true
 |_=>cases y<;>exact absurd (show false=true from hs) Bool.false_ne_true⟩
theorem xg1:OpR X (compareOp .NotEq) rNe:=⟨by
 intro pins s σ H x y v u Q I rx ry h
 obtain⟨hs,q⟩:=h
 cases x with
 |non=>
  cases rx
  cases y with
  |non=>cases ry;exact PySem.EqNone.ne_none_none (cQ I q (by simp))
  |bl j=>cases ry;exact PySem.EqNone.ne_none_bool (cQ I q (by simp))
  |int j=>obtain⟨t',rfl⟩:=ry;exact PySem.EqNone.ne_none_int (cQ I q (by simp))
  |str j=>obtain⟨t',rfl⟩:=ry;exact PySem.EqNone.ne_none_str (cQ I q (by simp))
  |_=>exact absurd (show false=true from hs) Bool.false_ne_true
 |bl i=>
  cases rx
  cases y with
  |non=>cases ry;exact PySem.EqNone.ne_bool_none (cQ I q (by simp))
  |bl j=>cases ry;exact ne_bool (cQ I q (congrArg not yn2))
  |str j=>obtain⟨t',rfl⟩:=ry;exact PySem.EqMixed.ne_bool_str (cQ I q (by simp))
  |_=>exact absurd (show false=true from hs) Bool.false_ne_true
 |int i=>
  obtain⟨t,rfl⟩:=rx
  cases y with
  |non=>cases ry;exact PySem.EqNone.ne_int_none (cQ I q (by simp))
  |int j=>obtain⟨t',rfl⟩:=ry;exact ne_int (cQ I q (congrArg not yb1))
  |str j=>obtain⟨t',rfl⟩:=ry;exact PySem.EqMixed.ne_int_str (cQ I q (by simp))
  |_=>exact absurd (show false=true from hs) Bool.false_ne_true
 |str i=>
  obtain⟨t,rfl⟩:=rx
  cases y with
  |non=>cases ry;exact PySem.EqNone.ne_str_none (cQ I q (by simp))
  |bl j=>cases ry;exact PySem.EqMixed.ne_str_bool (cQ I q (by simp))
  |int j=>obtain⟨t',rfl⟩:=ry;exact PySem.EqMixed.ne_str_int (cQ I q (by simp))
  |str j=>obtain⟨t',rfl⟩:=ry;exact ne_str (cQ I q (congrArg not yb2))
  |_=>exact absurd (show false=true from hs) Bool.false_ne_true
 |byt i=>
  obtain⟨t,rfl⟩:=rx
  cases y with
  |byt j=>obtain⟨t',rfl⟩:=ry;exact PySem.W.ne_bytes (cQ I q (congrArg not yb3))
  |_=>exact absurd (show false=true from hs) Bool.false_ne_true
 |_=>cases y<;>exact absurd (show false=true from hs) Bool.false_ne_true⟩
theorem xz6:OpR X (compareOp .Lt) (rI0 fun i j=> .bl (decide (i<j))):=yx3 fun _ _ _ _ _ _ _ q=>lt_int q
theorem xz7:OpR X (compareOp .LtE) (rI0 fun i j=> .bl (decide (i<=j))):=yx3 fun _ _ _ _ _ _ _ q=>le_int q
theorem xz8:OpR X (compareOp .Gt) (rI0 fun i j=> .bl (decide (j<i))):=yx3 fun _ _ _ _ _ _ _ q=>gt_int q
theorem yn3:OpR X (compareOp .Lt) (fun x y H Q=>∃i j,x= .str i/\y= .str j/\Q (.bl (decide (i.cps.toList<j.cps.toList))) H):=⟨by
 intro pins s σ H x y v u Q I rx ry h
 obtain⟨i,j,rfl,rfl,q⟩:=h
 obtain⟨t,rfl⟩:=rx
 obtain⟨t',rfl⟩:=ry
 exact lt_str (cQ I q rfl)⟩
theorem xr2:OpR X (compareOp .Is) (fun x y H Q=>y= .non/\Q (.bl (decide (x= .non))) H):=⟨by
 intro pins s σ H x y v u Q I rx ry h
 obtain⟨rfl,q⟩:=h
 cases ry
 refine is_none_gen (cQ I q ?_)
 cases x<;>first
  |(cases rx;rfl)
  |(obtain⟨t,rfl⟩:=rx;rfl)⟩
theorem xi9:OpR X (compareOp .IsNot) (fun x y H Q=>y= .non/\Q (.bl (!decide (x= .non))) H):=⟨by
 intro pins s σ H x y v u Q I rx ry h
 obtain⟨rfl,q⟩:=h
 cases ry
 refine isnot_none_gen (cQ I q ?_)
 cases x<;>first
  |(cases rx;rfl)
  |(obtain⟨t,rfl⟩:=rx;rfl)⟩
theorem OpR.or{f:Value->Value->Sem Value}{r r':R2}(h:OpR X f r)(h':OpR X f r'):OpR X f (fun x y H Q=>r x y H Q\/r' x y H Q):=⟨by
 intro pins s σ H x y v u Q I rx ry q
 rcases q with q|q
 ·exact h pins s σ H x y v u Q I rx ry q
 ·exact h' pins s σ H x y v u Q I rx ry q⟩
theorem bR(b:Expr){op:CmpOp}(h:op≠ .In:=by decide)(h2:op≠ .NotIn:=by decide):behindInMarks op b=false:=by
 have e1:(op==CmpOp.In)=false:=by cases op<;>first|rfl|exact absurd rfl h
 have e2:(op==CmpOp.NotIn)=false:=by cases op<;>first|rfl|exact absurd rfl h2
 cases b<;>simp [behindInMarks,e1,e2]
theorem yb4{op:CmpOp}{r:R2}(ho:OpR X (compareOp op) r)(ha:PE X a ta)(hb:PE X b tb)(hm:behindInMarks op b=false):PE X (.Compare a [op] [b] pos) (tOp r ta tb):=⟨by
 intro pins s σ H Q I h
 exact wpAny_Compare1 (yx1 ha hb I h fun v u s2 x y H2 I2 rx ry q=>ho pins s2 σ H2 x y v u Q I2 rx ry q) hm⟩
def wc2(t:TE):TT:=fun σ H Q=>t σ H fun x H'=>∃k,x= .bl k/\Q k H'
theorem yb5{op:CmpOp}{r:R2}(ho:OpR X (compareOp op) r)(ha:PE X a ta)(hb:PE X b tb)(hm:behindInMarks op b=false):PT X (.Compare a [op] [b] pos) (wc2 (tOp r ta tb)):=⟨by
 intro pins s σ H Q I h
 refine wpAny_isTrue_Compare1 (thn (ha pins s σ H _ I h) fun v s1 ⟨x,H1,I1,r1,q1⟩=>thn (hb pins s1 σ H1 _ I1 q1) fun u s2 ⟨y,H2,I2,r2,q2⟩=>
  thn (ho pins s2 σ H2 x y v u _ I2 r1 r2 q2) fun c s3 ⟨z,H3,I3,r3,k,e,q3⟩=> ?_) hm
 subst e
 cases r3
 exact wpAny_truthy_bool ⟨H3,I3,q3⟩⟩
def xe6(K:tz0)(x:V)(H:Hp)(k:Bool):Prop:=
 match x with
 | .non=>k=false
 | .bl b=>k=b
 | .int i=>k=(i !=0)
 | .str y=>y.length<=sizeLine/\k=((y.length:Int) !=0)
 | .byt y=>y.size<=sizeLine/\k=((y.size:Int) !=0)
 | .ref p=>(∃xs,SqL K H p xs/\k= !xs.isEmpty)\/(∃xs,SqT K H p xs/\k= !xs.isEmpty)\/∃kvs,H p=some (.dK kvs)/\k= !kvs.isEmpty
 |_=>False
theorem yg1{κ:Type}{kvs:List (κ×V)}{vs:List (κ×Value)}(r:KV kvs vs):(!vs.isEmpty)= !kvs.isEmpty:=by
 cases r<;>rfl
theorem za9{xs:List V}{its:List Value}(r:bG xs its):(!its.toArray.isEmpty)= !xs.isEmpty:=by
 cases r<;>simp
theorem rC:(sizeLine:Nat)<2^63:=by rw [sizeLine_eq];decide
theorem xr3:wf6 X (fun x H Q=>∃k,xe6 X.K x H k/\Q k H):=by
 intro pins s σ H x v Q I rx h
 obtain⟨k,e,q⟩:=h
 have hl:=rC
 have hs:sizeLine=16777216:=sizeLine_eq
 cases x with
 |non=>
  cases rx
  have e':k=false:=e
  subst e'
  exact truthy_none ⟨H,I,q⟩
 |bl b=>
  cases rx
  have e':k=b:=e
  subst e'
  exact wpAny_truthy_bool ⟨H,I,q⟩
 |int i=>
  obtain⟨t,rfl⟩:=rx
  have e':k=(i !=0):=e
  subst e'
  exact PySem.P.truthy_int ⟨H,I,q⟩
 |str y=>
  obtain⟨t,rfl⟩:=rx
  obtain⟨hy,e'⟩:y.length<=sizeLine/\k=((y.length:Int) !=0):=e
  subst e'
  exact PySem.P.truthy_str (by omega) ⟨H,I.tok _,q⟩
 |byt y=>
  obtain⟨t,rfl⟩:=rx
  obtain⟨hy,e'⟩:y.size<=sizeLine/\k=((y.size:Int) !=0):=e
  subst e'
  exact PySem.W.truthy_bytes (by omega) ⟨H,I.tok _,q⟩
 | ref p=>
  cases rx
  have e':(∃xs,SqL X.K H p xs/\k= !xs.isEmpty)\/(∃xs,SqT X.K H p xs/\k= !xs.isEmpty)\/∃kvs,H p=some (.dK kvs)/\k= !kvs.isEmpty:=e
  rcases e' with ⟨xs,hx,e'⟩|⟨xs,hx,e'⟩|⟨kvs,hx,e'⟩
  ·subst e'
   obtain⟨its,r,pl,hz⟩:=I.list hx
   have hlen:=r.length
   exact wpAny_truthy_list pl.isList (by simp only [List.size_toArray];omega) ⟨H,I.tok _,by rw [za9 r];exact q⟩
  ·subst e'
   obtain⟨its,r,pl,hz⟩:=I.tuple hx
   have hlen:=r.length
   exact truthy_tuple pl (by simp only [List.size_toArray];omega) ⟨H,I.tok _,by rw [za9 r];exact q⟩
  ·subst e'
   obtain⟨hz,hS,vs,r,m⟩:kvs.length<=sizeLine/\(p==sysModules)=false/\∃vs,KV kvs vs/\s.heap.DictOf (eC X.prog X.w) p vs:=I.hok p _ hx
   have hlen:kvs.length=vs.length:=Paired.length r
   exact wpAny_truthy_dict hS m (by omega) ⟨H,I.tok _,by rw [yg1 r];exact q⟩
 |_=>exact(show False from e).elim
theorem zr6(ha:PE X a ta)(he:∀whole,isTrue a X.env whole=(do let v<-whole;standAt a.pos;holding [v] (truthy v))):
  PT X a (fun σ H Q=>ta σ H fun x H'=>∃k,xe6 X.K x H' k/\Q k H'):=⟨by
 intro pins s σ H Q I h
 exact isTrue_plain (thn (ha pins s σ H _ I h) fun v s1 ⟨x,H1,I1,r1,q1⟩=>xr3 pins s1 σ H1 x v Q I1 r1 q1) (he _)⟩
theorem yg2:OpR X (binaryOp .Add) (fun x y H Q=>∃i j,x= .str i/\y= .str j/\i.length+j.length<=sizeLine/\Q (.str (i++j)) H):=⟨by
 intro pins s σ H x y v u Q I rx ry h
 obtain⟨i,j,rfl,rfl,hz,q⟩:=h
 obtain⟨t,rfl⟩:=rx
 obtain⟨t',rfl⟩:=ry
 exact add_str (fun t' tk=>⟨.str (i++j),H,I.tok _,⟨_,rfl⟩,q⟩) hz⟩
theorem lK{x:V}{us:List Value}(r:bG [x] us):∃u,us=[u]/\bZ x u:=by
 cases r with
 |cons r1 r2=>cases r2;exact⟨_,rfl,r1⟩
theorem xg2{x y:V}{us:List Value}(r:bG [x,y] us):∃u w',us=[u,w']/\bZ x u/\bZ y w':=by
 cases r with
 |cons r1 r2=>
  cases r2 with
  |cons r3 r4=>cases r4;exact⟨_,_,rfl,r1,r3⟩
theorem zj4(hc:X.calm=true):CallR X (.builtin "max") (fun xs H Q=>∃i j,xs=[.int i,.int j]/\Q (.int (if j>i then j else i)) H):=⟨by
 intro pins s σ H xs us Q I r h
 obtain⟨i,j,rfl,q⟩:=h
 obtain⟨u,w',rfl,⟨t,rfl⟩,⟨t',rfl⟩⟩:=xg2 r
 refine max_two_ints (I.ok.hd hc) fun h' tk k=>⟨_,H,I.kept k,?_,q⟩
 by_cases hj:j>i
 ·rw [if_pos hj,if_pos hj];exact⟨_,rfl⟩
 ·rw [if_neg hj,if_neg hj];exact⟨_,rfl⟩⟩
theorem yn4(hc:X.calm=true):CallR X (.builtin "min") (fun xs H Q=>∃i j,xs=[.int i,.int j]/\Q (.int (if j<i then j else i)) H):=⟨by
 intro pins s σ H xs us Q I r h
 obtain⟨i,j,rfl,q⟩:=h
 obtain⟨u,w',rfl,⟨t,rfl⟩,⟨t',rfl⟩⟩:=xg2 r
 refine min_two_ints (I.ok.hd hc) fun h' tk k=>⟨_,H,I.kept k,?_,q⟩
 by_cases hj:j<i
 ·rw [if_pos hj,if_pos hj];exact⟨_,rfl⟩
 ·rw [if_neg hj,if_neg hj];exact⟨_,rfl⟩⟩
theorem zj5:CallR X (.type "int") (fun xs H Q=>(∃i,xs=[.int i]/\Q (.int i) H)\/∃k,xs=[.bl k]/\Q (.int (if k then 1 else 0)) H):=⟨by
 intro pins s σ H xs us Q I r h
 rcases h with ⟨i,rfl,q⟩|⟨k,rfl,q⟩
 ·obtain⟨u,rfl,t,rfl⟩:=lK r
  exact call_int_int ⟨.int i,H,I,⟨_,rfl⟩,q⟩
 ·obtain⟨u,rfl,r1⟩:=lK r
  cases r1
  exact call_int_bool ⟨.int (if k then 1 else 0),H,I.tok _,⟨_,rfl⟩,q⟩⟩
end
structure ObjM(h:Heap)(x dx C:Addr)(mA:tzA):Prop where
 obj:h.get? x=some (PySem.W.instObj C dx)
 ns:h.Ns1 dx mA
 ne:dx≠x
theorem yn5{h:Heap}{dx:Addr}{mA:tzA}(n:h.Ns1 dx mA):∃od,h.get? dx=some od/\∀name,PySem.W.lookIn name od=some (mA name):=by
 obtain⟨o,es,ep,ho,hd,hk,_,hm⟩:=n
 refine⟨o,ho,fun name=> ?_⟩
 have e:=hm name
 unfold nsFind findBy at e
 rw [<-Array.find?_toList] at e
 unfold PySem.W.lookIn
 rw [hd]
 dsimp only
 split
 ·rename_i y q
  rw [q] at e
  exact congrArg some e
 ·rename_i q
  rw [q] at e
  have a:es.toList.any (·.refKey)=false:=by
   rw [List.any_eq_false]
   intro y hy
   obtain⟨z,t,hkey⟩:=hk y (Array.mem_toList_iff.mp hy)
   simp [DictEntry.refKey,hkey]
  have a':¬es.toList.any (·.refKey)=true:=by rw [a];exact Bool.false_ne_true
  rw [if_neg a']
  exact congrArg some e
theorem ObjM.look{h:Heap}{x dx C:Addr}{mA:tzA}(I:ObjM h x dx C mA):∃od,PySem.W.InstAt h x (PySem.W.instObj C dx) C (some od)/\∀name,PySem.W.lookIn name od=some (mA name):=
 let ⟨od,ho,hl⟩:=yn5 I.ns
 ⟨od,⟨I.obj,rfl,rfl,ho⟩,hl⟩
section
variable{prog:Program}{w:World}{A:Around}{E:Value->Shared->Prop}{s:Shared}{K:tz0}{x dx C f:Addr}{mA:tzA}{name:Str}{v:Value}
theorem yb6{expr:Bool}{Q:Value->Shared->Prop}(X:K.In s.heap)(I:ObjM s.heap x dx C mA)(hg:PySem.W.plainGet K C name=true)(hh:PySem.W.hasDictIn K C=true)
  (ha:PySem.W.findIn K (.ref C) name=some none) (hv:mA name=some v) (hv':PySem.W.handedIn v=true) (h:Q v {s with toks:=s.toks+1}):
  wpAny (model prog w) A (getAttr (.ref x) name expr) Q E s:=by
 obtain⟨od,J,hl⟩:=I.look
 exact PySem.W.get_value X J (PySem.W.plainGet_of hg).1 (PySem.W.findObj_own hh ha rfl (by rw [hl,hv])) hv' h
theorem zr7{pl:Sem Bool}{Q:Value×List Value->Shared->Prop}(X:K.In s.heap)(I:ObjM s.heap x dx C mA)(hg:PySem.W.plainGet K C name=true)
  (hf:PySem.W.findIn K (.ref C) name=some (some (.ref f))) (ht:PySem.W.isFn K (.ref f)=true) (hv:mA name=none) (h:Q (.ref f,[.ref x]) s):
  wpAny (model prog w) A (getMethod (.ref x) name pl) Q E s:=by
 obtain⟨od,J,hl⟩:=I.look
 exact PySem.W.method_fn X J (PySem.W.plainGet_of hg).1 (PySem.W.plainGet_of hg).2 hf (beq_iff_eq.mp ht) (by show(PySem.W.lookIn name od).map (·.isSome)=some false;rw [hl,hv];rfl) h
theorem xj0{ns:List Str}{Q:Unit->Shared->Prop}(X:K.In s.heap)(I:ObjM s.heap x dx C mA)
  (hs:PySem.W.findIn K (.ref C) "__setattr__"=some (some (.builtin "object.__setattr__"))) (hp:PySem.W.plainOver K C=true) (ht:PySem.W.takerIn K C name=some none) (hh:PySem.W.hasDictIn K C=true)
  (hw:PySem.Within mA ns) (hsz:ns.length<=sizeLine)
  (h:∀h',ObjM h' x dx C (fun y=>if y=name then some v else mA y)->Heap.SameBut dx s.heap h'->Q () {s with heap:=h',toks:=s.toks+2}):
  wpAny (model prog w) A (setAttr (.ref x) name v) Q E s:=by
 obtain⟨od,J,hl⟩:=I.look
 refine PySem.W.set_plain X J hs (PySem.W.osa_open (s:={s with toks:=s.toks+1}) (r:=none) X J hp ht fun b=> ?_)
 obtain⟨cd,hc,hd'⟩:=PySem.W.any_some hh
 have hx:s.heap.get? x=some ⟨.ref C,some dx,.plain,#[]⟩:=I.obj
 refine wpAny_bind (wpAny_pure (wpAny_bind (wpAny_bind (wpAny_loadPart hx (wpAny_bind (PySem.W.Looks.here (s:={s with toks:=s.toks+1}) (PySem.W.looks_clsIn X hc) ?_))))))
 rw [hd']
 refine wpAny_pure (a:=some dx) (wpAny_bind (wpAny_pure (wpAny_bind ?_)))
 refine wpAny_nsSet1 (s:={s with toks:=s.toks+1}) I.ns fun h' hn2 hs2=> ?_
 obtain⟨oD,esD,epD,hoD,hdD,hcD⟩:=hn2.count (PySem.Within.cons name v hw)
 refine wpAny_bind (wpAny_lookBehind hoD (by rw [hdD];exact pastItsLine_dict (Nat.le_trans hcD (by rw [List.length_cons];omega))) ?_)
 exact wpAny_pure (h _ ⟨(hs2.2 _ (Ne.symm I.ne)).trans I.obj,hn2,I.ne⟩ hs2)
theorem yx4{R:Result->Shared->Prop}{vs:List Value}{kw:List (Str×Value)}(X:K.In s.heap)(hm:PySem.W.makesIn K C=true)
  (hi:PySem.W.findIn K (.ref C) "__init__"=some (some (.ref f))) (hf:PySem.W.typeIn K (.ref f)=some (.type "function"))
  (h:codeAny (model prog w) (A.under (.builtin "type.__call__" ⟨.ref C::vs,kw⟩)) (.call (.ref f) ⟨.ref (s.heap.objs.size+1)::vs,kw⟩) (PySem.W.InitBack (s.heap.objs.size+1) R)
   {s with heap:=(s.heap.push PySem.W.emptyDict).push (PySem.W.instObj C s.heap.objs.size)}):
  codeAny (model prog w) A (.call (.ref C) ⟨vs,kw⟩) R s:=by
 obtain⟨hh,g,d,t,os⟩:=s
 exact PySem.W.make_core (PySem.W.makes_of X hm) (PySem.W.looks_findIn X hi) (fun self=>PySem.W.bind_fn X self hf) (.inl rfl) h
end
def fZ(f:Str)(v:V):List (Str×V)->List (Str×V)
 |[]=>[(f,v)]
 |(g,x)::r=>if g=f then(g,v)::r else(g,x)::fZ f v r
theorem zA(f g:Str)(v:V):∀fs:List (Str×V),(fZ f v fs).lookup g=if g=f then some v else fs.lookup g
 | []=>by
  show List.lookup g [(f,v)]=_
  by_cases h:g=f
  ·have hb:(g==f)=true:=beq_iff_eq.mpr h
   simp only [List.lookup,hb,if_pos h]
  ·have hb:(g==f)=false:=beq_eq_false_iff_ne.mpr h
   simp only [List.lookup,hb,if_neg h]
 | (k,x)::r=>by
  have ih:=zA f g v r
  rw [show fZ f v ((k,x)::r)=(if k=f then(k,v)::r else(k,x)::fZ f v r) from rfl]
  by_cases hk:k=f
  ·rw [if_pos hk]
   by_cases h:g=k
   ·have hb:(g==k)=true:=beq_iff_eq.mpr h
    simp only [List.lookup,hb,if_pos (h.trans hk)]
   ·have hb:(g==k)=false:=beq_eq_false_iff_ne.mpr h
    simp only [List.lookup,hb,if_neg (fun e:g=f=>h (e.trans hk.symm))]
  ·rw [if_neg hk]
   by_cases h:g=k
   ·have hb:(g==k)=true:=beq_iff_eq.mpr h
    simp only [List.lookup,hb,if_neg (fun e:g=f=>hk (h.symm.trans e))]
   ·have hb:(g==k)=false:=beq_eq_false_iff_ne.mpr h
    simp only [List.lookup,hb]
    exact ih
theorem wU(f:Str)(v:V):∀fs:List (Str×V),f∈(fZ f v fs).map (·.1)/\∀g,g∈fs.map (·.1)->g∈(fZ f v fs).map (·.1)
 |[]=>⟨by simp [fZ],fun g h=>by simp at h⟩
 | (k,x)::r=>by
  obtain⟨i1,i2⟩:=wU f v r
  rw [show fZ f v ((k,x)::r)=(if k=f then(k,v)::r else(k,x)::fZ f v r) from rfl]
  by_cases hk:k=f
  ·rw [if_pos hk]
   subst hk
   exact⟨by simp,fun g h=>by simpa using h⟩
  ·rw [if_neg hk]
   refine⟨?_,fun g h=> ?_⟩
   ·rw [List.map_cons]
    exact List.mem_cons_of_mem _ i1
   ·rw [List.map_cons] at h|-
    rcases List.mem_cons.mp h with e|e
    ·exact List.mem_cons.mpr (.inl e)
    ·exact List.mem_cons_of_mem _ (i2 g e)
theorem zB(f:Str)(v:V):∀fs:List (Str×V),(fZ f v fs).length<=fs.length+1
 |[]=>by simp [fZ]
 |(k,x)::r=>by
  have ih:=zB f v r
  rw [show fZ f v ((k,x)::r)=(if k=f then(k,v)::r else(k,x)::fZ f v r) from rfl]
  by_cases hk:k=f
  ·rw [if_pos hk,List.length_cons,List.length_cons];omega
  ·rw [if_neg hk,List.length_cons,List.length_cons];omega
theorem iQ.some_of{v:V}{o:Option Value}(r:iQ (some v) o):∃u,o=some u/\bZ v u:=by
 cases o with
 |none=>exact(show False from r).elim
 |some u=>exact⟨u,rfl,r⟩
theorem iQ.none_of{o:Option Value}(r:iQ none o):o=none:=by
 cases o with
 |none=>rfl
 |some u=>exact(show False from r).elim
theorem zj6{v:V}{u:Value}(r:bZ v u):PySem.W.handedIn u=true:=by
 cases v with
 |non=>cases(show u=Value.none from r);rfl
 |bl b=>cases(show u=Value.bool b from r);rfl
 |int i=>obtain⟨t,e⟩:=(show ∃t,u=Value.int i t from r);cases e;rfl
 |str x=>obtain⟨t,e⟩:=(show ∃t,u=Value.str x t from r);cases e;rfl
 |byt b=>obtain⟨t,e⟩:=(show ∃t,u=Value.bytes b t from r);cases e;rfl
 |flt b=>obtain⟨t,e⟩:=(show ∃t,u=Value.float b t from r);cases e;rfl
 |ref a=>cases(show u=Value.ref a from r);rfl
 |ty n=>cases(show u=Value.type n from r);rfl
section
variable{P:Program}{w:World}{H H':Hp}{h h':Heap}{a C dx:Addr}{fs fs':List (Str×V)}
theorem zg1(hok:HOk P w H h)(e:H a=some (.ins C dx fs)):∃mA,ObjM h a dx C mA/\(∀f,iQ (fs.lookup f) (mA f))/\PySem.Within mA (fs.map (·.1))/\fs.length<=1000/\H dx=some (.own a):=by
 obtain⟨d,z,ne,ob,mA,n,r,q⟩:=(show dL P w H h a (.ins C dx fs) from hok a _ e)
 exact⟨mA,⟨ob,n,ne⟩,r,q,z,d⟩
end
structure Cls(K:tz0)(C:Addr):Prop where
 pg:PySem.W.plainGet K C Str.empty=true
 hd:PySem.W.hasDictIn K C=true
 po:PySem.W.plainOver K C=true
 sa:PySem.W.findIn K (.ref C) "__setattr__"=some (some (.builtin "object.__setattr__"))
theorem Cls.get{K:tz0}{C:Addr}(c:Cls K C)(f:Str):PySem.W.plainGet K C f=true:=c.pg
def cY(K:tz0)(C:Addr)(f:Str):Prop:=PySem.W.findIn K (.ref C) f=some none
theorem cY.taker{K:tz0}{C:Addr}{f:Str}(n:cY K C f):PySem.W.takerIn K C f=some none:=by
 unfold PySem.W.takerIn
 rw [show PySem.W.findIn K (.ref C) f=some none from n]
 rfl
structure Con(K:tz0)(C:Addr)(f:Str)(v:V)(u:Value):Prop where
 at_:PySem.W.findIn K (.ref C) f=some (some u)
 rel:bZ v u
 get:PySem.W.specialIn K u "__get__"=some none
 cp:PySem.W.copiedNames.contains f=false
structure Meth(K:tz0)(C:Addr)(m:Str)(f:Addr):Prop where
 at_:PySem.W.findIn K (.ref C) m=some (some (.ref f))
 fn:PySem.W.isFn K (.ref f)=true
 kp:PySem.W.keepIn K (.ref f)=true
section
variable{X:Cx}{pins:tzB}{σ:St}{H:Hp}{s:Shared}{a C dx:Addr}{fs:List (Str×V)}{f:Str}{v:V}{A:Around}{E:Value->Shared->Prop}
theorem yg3{b:Bool}{Q:Value->Shared->Prop}(I:Inv X pins σ H s)(e:H a=some (.ins C dx fs))(c:Cls X.K C)(n:cY X.K C f)(l:fs.lookup f=some v)
  (h:∀u s',Inv X pins σ H s'->bZ v u->Q u s'):wpAny (model X.prog X.w) A (getAttr (.ref a) f b) Q E s:=by
 obtain⟨mA,O,r,_,_,_⟩:=zg1 I.hok e
 obtain⟨u,hu,ru⟩:=iQ.some_of (v:=v) (o:=mA f) (by rw [<-l];exact r f)
 exact yb6 I.kIn O (c.get f) c.hd n hu (zj6 ru) (h u _ (I.tok _) ru)
theorem yg4{m:Str}{g:Addr}{pl:Sem Bool}{Q:Value×List Value->Shared->Prop}(I:Inv X pins σ H s)(e:H a=some (.ins C dx fs))(c:Cls X.K C)(k:Meth X.K C m g)(l:fs.lookup m=none)
  (h:Q (.ref g,[.ref a]) s):wpAny (model X.prog X.w) A (getMethod (.ref a) m pl) Q E s:=by
 obtain⟨mA,O,r,_,_,_⟩:=zg1 I.hok e
 have hn:mA m=none:=iQ.none_of (by rw [<-l];exact r m)
 exact zr7 I.kIn O (c.get m) k.at_ k.fn hn h
theorem yg5{y:V}{u:Value}{Q:Unit->Shared->Prop}(I:Inv X pins σ H s)(e:H a=some (.ins C dx fs))(c:Cls X.K C)(n:cY X.K C f)(hl:fs.length<1000)(ry:bZ y u)
  (h:∀s',Inv X pins σ (upd H a (.ins C dx (fZ f y fs))) s'->Q () s'):wpAny (model X.prog X.w) A (setAttr (.ref a) f u) Q E s:=by
 obtain⟨mA,O,r,wi,_,ho⟩:=zg1 I.hok e
 have hz:(fs.map (·.1)).length<=sizeLine:=by rw [List.length_map,sizeLine_eq];omega
 refine xj0 I.kIn O c.sa c.po n.taker c.hd wi hz fun h' O' sb=>h _ ?_
 have hd:∃o,h'.get? dx=some o:=let ⟨o,_,_,e',_⟩:=O'.ns;⟨o,e'⟩
 refine I.write (x:=a) (e:=dx) (by rw [e];exact True.intro) (.inr ho) (fun b q hb z=>(sb.2 b hb).trans z) hd ?_
 refine⟨by rw [bF O.ne];exact ho,?_,O.ne,O'.obj,_,O'.ns,fun g=> ?_,fun g hg=> ?_⟩
 ·have:=zB f y fs;omega
 ·show iQ ((fZ f y fs).lookup g) (if g=f then some u else mA g)
  rw [zA]
  by_cases q:g=f
  ·rw [if_pos q,if_pos q];exact ry
  ·rw [if_neg q,if_neg q];exact r g
 ·by_cases q:g=f
  ·rw [q];exact(wU f y fs).1
  ·refine(wU f y fs).2 g (wi g fun z=>hg ?_)
   show(if g=f then some u else mA g)=none
   rw [if_neg q];exact z
theorem Inv.made(I:Inv X pins σ H s):Inv X pins σ (upd (upd H s.heap.objs.size (.own (s.heap.objs.size+1))) (s.heap.objs.size+1) (.ins C s.heap.objs.size []))
  {s with heap:=(s.heap.push PySem.W.emptyDict).push (PySem.W.instObj C s.heap.objs.size)}:=by
 have e1:(s.heap.push PySem.W.emptyDict).get? s.heap.objs.size=some PySem.W.emptyDict:=Heap.get?_push_size s.heap rfl
 have e2:((s.heap.push PySem.W.emptyDict).push (PySem.W.instObj C s.heap.objs.size)).get? (s.heap.objs.size+1)=some (PySem.W.instObj C s.heap.objs.size):=by
  have:=Heap.get?_push_size (s.heap.push PySem.W.emptyDict) (o:=PySem.W.instObj C s.heap.objs.size) rfl
  rwa [Heap.size_push] at this
 have e3:(s.heap.push PySem.W.emptyDict).Ns s.heap.objs.size (fun _=>none):=⟨PySem.W.emptyDict,#[],_,e1,rfl,(fun e he=>absurd he (by simp)),fun _=>rfl⟩
 have I1:=I.laid (a:=s.heap.objs.size) (o:= .own (s.heap.objs.size+1)) (h':=s.heap.push PySem.W.emptyDict) (t':=s.toks) (fun b u q=>Heap.get?_push_of_some _ q) (Nat.le_refl _) ⟨_,e1⟩
 refine I1.laid (a:=s.heap.objs.size+1) (o:= .ins C s.heap.objs.size []) (t':=s.toks) (fun b u q=>Heap.get?_push_of_some _ q) (Nat.le_of_eq (Heap.size_push _ _)) ?_
 have ne:s.heap.objs.size≠s.heap.objs.size+1:=Nat.ne_of_lt (Nat.lt_succ_self _)
 refine⟨by rw [bF ne,cJ],Nat.zero_le _,ne,e2,fun _=>none,(Heap.Ns1.of_empty e3).at fun o q=>Heap.get?_push_of_some _ q,fun _=>True.intro,fun y hy=>absurd rfl hy⟩
theorem yb7{prog:Program}{w:World}{env:Env}{e:Expr}{f:Str}{pos:Pos}{s:Shared}{Q:Value->Shared->Prop}(hb:attributeBase e f env (eval e env)=eval e env)
  (h:wpAny (model prog w) A (eval e env) (fun o s₁=>wpAny (model prog w) A (getAttr o f true) Q E s₁) E s):wpAny (model prog w) A (eval (.Attribute e f pos) env) Q E s:=
 Attribute_any_ h (by rw [arm_eval_Attribute,hb])
end
def wf8(K:tz0)(ta:TE)(f:Str):TE:=fun σ H Q=>ta σ H fun x H1=>∃a C dx fs v,x= .ref a/\H1 a=some (.ins C dx fs)/\Cls K C/\cY K C f/\fs.lookup f=some v/\Q v H1
def wf9(K:tz0)(ta tv:TE)(f:Str):TS:=fun D σ H=>tv σ H fun y H1=>ta σ H1 fun x H2=>∃a C dx fs,x= .ref a/\H2 a=some (.ins C dx fs)/\Cls K C/\cY K C f/\fs.length<1000/\
 D.nx σ (upd H2 a (.ins C dx (fZ f y fs)))
section
variable{X:Cx}{o e value:Expr}{f:Str}{pos pos' tpos:Pos}{ta tv:TE}
theorem xr4(he:PE X e ta)(hb:attributeBase e f X.env (eval e X.env)=eval e X.env):PE X (.Attribute e f pos) (wf8 X.K ta f):=⟨by
 intro pins s σ H Q I h
 refine yb7 hb (thn (he pins s σ H _ I h) fun u s1 ⟨x,H1,I1,rx,a,C,dx,fs,v,ex,ea,c,n,l,q⟩=> ?_)
 subst ex
 obtain rfl:u=Value.ref a:=rx
 exact yg3 I1 ea c n l fun u' s2 I2 ru=>⟨v,H1,I2,ru,q⟩⟩
theorem xr5(ha:PE X o ta)(hv:PE X value tv)(hs:swapsWith value (some (.Attribute o f pos')) pos.line X.env=pure false):PS X (.Assign [.Attribute o f pos'] value pos) (wf9 X.K ta tv f):=⟨by
 intro pins s σ H D I h
 refine plainObj_wpAny_Assign_Attribute (thn (hv pins s σ H _ I h) fun u s1 ⟨y,H1,I1,ry,q⟩=>thn (ha pins s1 σ H1 _ I1 q) fun ov s2 ⟨x,H2,I2,rx,a,C,dx,fs,ex,ea,c,n,l,q2⟩=> ?_) hs
 subst ex
 obtain rfl:ov=Value.ref a:=rx
 exact yg5 I2 ea c n l ry fun s3 I3=>⟨σ,_,I3,q2⟩⟩
end
section
variable{X:Cx}{pins:tzB}{σ:St}{H:Hp}{s:Shared}{A:Around}{E:Value->Shared->Prop}{Q:Value->Shared->Prop}{c:Value}{b:Bool}
inductive TyOf(K:tz0)(H:Hp):V->Value->Prop where
 |non:TyOf K H .non (.type "NoneType")
 |bl (x:Bool):TyOf K H (.bl x) (.type "bool")
 |int (i:Int):TyOf K H (.int i) (.type "int")
 |str (x:Str):TyOf K H (.str x) (.type "str")
 |flt (x:UInt64):TyOf K H (.flt x) (.type "float")
 |lst {a:Addr} {xs:List V} (e:H a=some (.lst xs)):TyOf K H (.ref a) (.type "list")
 |frz {a:Addr} {o:Obj} {xs:List V} (e:H a=some (.frz o (.lst xs))):TyOf K H (.ref a) (.type "list")
 |tup {a:Addr} {xs:List V} (e:H a=some (.tup xs)):TyOf K H (.ref a) (.type "tuple")
 |dK {a:Addr} {kvs:List (Key×V)} (e:H a=some (.dK kvs)):TyOf K H (.ref a) (.type "dict")
 |dT {a:Addr} {kvs:List (List Key×V)} (e:H a=some (.dT kvs)):TyOf K H (.ref a) (.type "dict")
 | ins {a C dx:Addr} {fs:List (Str×V)} (e:H a=some (.ins C dx fs)) (cl:Cls K C) (ha:PySem.W.findIn K (.ref C) "__class__"=some (some (.builtin "object.__class__")))
   (hn:PySem.W.specialIn K (.builtin "object.__class__") "__get__"=some (some (.builtin "getset_descriptor.__get__"))) (htk:PySem.W.takesIn K (.builtin "object.__class__")=some true)
   (hm:PySem.W.mroIn K C (.type "object")=some true):TyOf K H (.ref a) (.ref C)
end
structure Room(k:Nat)(A:Around):Prop where
 hd:A.handled=none
 dp:A.depth+3*k+5<recursionLimit
 un:A.units+16*k+200<cLine
theorem Room.mono{j k:Nat}{A:Around}(r:Room k A)(h:j<=k):Room j A:=⟨r.hd,by have:=r.dp;omega,by have:=r.un;omega⟩
theorem Room.deeper{k:Nat}{A:Around}(r:Room (k+1) A)(env:Env):Room k (A.deeper env):=
 ⟨r.hd,by have:=r.dp;show A.depth+1+3*k+5<_;omega,by have:=r.un;show A.units+3+16*k+200<_;omega⟩
theorem Room.in1{k:Nat}{A:Around}(r:Room (k+1) A):Room k A.in1:=
 ⟨r.hd,by have:=r.dp;show A.depth+3*k+5<_;omega,by have:=r.un;show A.units+1+16*k+200<_;omega⟩
theorem yg6{A:Around}{C:Addr}{us:List Value}{kw:List (Str×Value)}:(A.under (.builtin "type.__call__" ⟨.ref C::us,kw⟩)).depth=A.depth+1:=by
 first|rfl|simp [Around.under,Code.weight,Code.isCreation,Code.isGuard,Code.isCaller,Code.frames,Code.isFrame,guardIds]
theorem yg7{A:Around}{C:Addr}{us:List Value}{kw:List (Str×Value)}:(A.under (.builtin "type.__call__" ⟨.ref C::us,kw⟩)).units=A.units+1:=by
 first|rfl|simp [Around.under,Code.cUnits,Code.frames,Code.isFrame]
theorem Room.make{k:Nat}{A:Around}(r:Room (k+1) A)(C:Addr)(us:List Value)(kw:List (Str×Value)):Room k (A.under (.builtin "type.__call__" ⟨.ref C::us,kw⟩)):=
 ⟨r.hd,by have:=r.dp;rw [yg6];omega,by have:=r.un;rw [yg7];omega⟩
theorem Room.depth{k:Nat}{A:Around}(r:Room k A):A.depth<recursionLimit:=by have:=r.dp;omega
theorem Room.units{k:Nat}{A:Around}(r:Room k A):A.units+64<cLine:=by have:=r.un;omega
theorem Room.units0{k:Nat}{A:Around}(r:Room k A):A.units<cLine:=by have:=r.un;omega
def xe7:TA:=fun _ H Q=>Q [] H
def wc3(ta:TE)(tr:TA):TA:=fun σ H Q=>ta σ H fun x H1=>tr σ H1 fun xs H2=>Q (x::xs) H2
section
variable{X:Cx}{e:Expr}{es:List Expr}{te:TE}{t:TA}{pos:Pos}
theorem mS:PA X [] xe7:=⟨fun _ _ _ _ H Q I h=>Calls.spliced_nil ⟨[],H,I,.nil,h⟩⟩
theorem fM(ha:PE X e te)(hr:PA X es t)(hs:starEach (e::es) X.env=(false,eval e X.env)::starEach es X.env:=by rfl):PA X (e::es) (wc3 te t):=⟨by
 intro pos pins s σ H Q I h
 rw [hs]
 show wpAny _ _ (spliced ((false,eval e X.env)::backTo pos (starEach es X.env))) _ _ s
 refine Calls.spliced_cons (thn (ha pins s σ H _ I h) fun u s1 ⟨x,H1,I1,r1,q1⟩=> ?_)
 exact thn (hr pos pins s1 σ H1 _ I1 q1) fun us s2 ⟨xs,H2,I2,r2,q2⟩=>⟨x::xs,H2,I2,.cons r1 r2,q2⟩⟩
def wg0(t:TA):TE:=fun σ H Q=>t σ H fun xs H1=>xs.length<=sizeLine/\∀p,H1 p=none->Q (.ref p) (upd H1 p (.tup xs))
def wg1(t:TA):TE:=fun σ H Q=>t σ H fun xs H1=>xs.length<=sizeLine/\∀p,H1 p=none->Q (.ref p) (upd H1 p (.lst xs))
theorem xr6{x1}(h:PA X es t):PE X (.Tuple es x1 pos) (wg0 t):=⟨by
 intro pins s σ H Q I hq
 refine wpAny_Tuple_spliced (thn (h pos pins s σ H _ I hq) fun us s1 ⟨xs,H1,I1,r,z,q⟩=>⟨by rw [<-r.length];exact z,?_⟩)
 have hf:H1 s1.heap.objs.size=none:=I1.hok.fresh (Nat.le_refl _)
 refine⟨.ref s1.heap.objs.size,upd H1 s1.heap.objs.size (.tup xs),I1.laid (t':=s1.toks) (fun b u e=>Heap.get?_push_of_some _ e) (Nat.le_refl _) ?_,rfl,q _ hf⟩
 exact⟨z,us,r,⟨_,Heap.get?_push_size _ rfl,rfl,_,rfl⟩⟩⟩
theorem xr7(h:PA X es t):PE X (.List es pos) (wg1 t):=⟨by
 intro pins s σ H Q I hq
 refine wpAny_List_spliced (thn (h pos pins s σ H _ I hq) fun us s1 ⟨xs,H1,I1,r,z,q⟩=>⟨by rw [<-r.length];exact z,?_⟩)
 have hf:H1 s1.heap.objs.size=none:=I1.hok.fresh (Nat.le_refl _)
 refine⟨.ref s1.heap.objs.size,upd H1 s1.heap.objs.size (.lst xs),I1.laid (t':=s1.toks) (fun b u e=>Heap.get?_push_of_some _ e) (Nat.le_refl _) ?_,rfl,q _ hf⟩
 exact⟨z,us,0,r,Heap.get?_push_size _ rfl⟩⟩
end
abbrev Sp:=List V->Hp->VK->XK->Prop
abbrev CXT:=List Env->Hp->Shared->XK->Value->Shared->Prop
structure Env0(P:Program)(w:World)(K:tz0)(mg:tzA)(base:Heap)(A:Around)(outer:List Env)(s:Shared)(H:Hp):Prop where
 frames:A.frames=some outer
 mod:Mod K mg base
 bs:∀b o,base.get? b=some o->s.heap.get? b=some o/\H b=none
 bsz:base.objs.size<=s.heap.objs.size
 funs:s.heap.FunFrames base outer
 frf:∀b∈frs outer,H b=none
 hok:HOk P w H s.heap
 bare:AllBare s.gens
def CE(outer:List Env)(P:Program)(w:World)(H:Hp)(s:Shared)(Q:VK)(u:Value)(s':Shared):Prop:=
 ∃v H',s'.os=s.os/\AllBare s'.gens/\Un (frs outer) [] H H' s.heap s'.heap/\HOk P w H' s'.heap/\bZ v u/\Q v H'
def CR(CX:CXT)(outer:List Env)(P:Program)(w:World)(H:Hp)(s:Shared)(Q:VK)(E:XK)(r:Result)(s':Shared):Prop:=
 match r with
 | .ok (.ret u)=>CE outer P w H s Q u s'
 | .ok _=>False
 | .error e=>CX outer H s E e s'
structure FnOk(P:Program)(w:World)(K:tz0)(mg:tzA)(base:Heap)(CX:CXT)(k:Nat)(f:Addr)(fd:FuncData)(ps:List Str)(sp:Sp):Prop where
 len:∀vs H Q E,sp vs H Q E->vs.length=ps.length
 run:∀(A:Around) (outer:List Env) (s:Shared) (H:Hp) (args:Args) (us:List Value) (vs:List V) (Q:VK) (E:XK),Room k A->Env0 P w K mg base A outer s H->BindsTo s fd args (ps.zip us)->bG vs us->sp vs H Q E->
  codeAny (model P w) A (.call (.ref f) args) (CR CX outer P w H s Q E) s
theorem FnOk.mono{P:Program}{w:World}{K:tz0}{mg:tzA}{base:Heap}{CX:CXT}{j k:Nat}{f:Addr}{fd:FuncData}{ps:List Str}{sp:Sp}(F:FnOk P w K mg base CX j f fd ps sp)(h:j<=k):
  FnOk P w K mg base CX k f fd ps sp:=⟨F.len,fun A outer s H args us vs Q E hr=>F.run A outer s H args us vs Q E (hr.mono h)⟩
theorem FnOk.imp{P:Program}{w:World}{K:tz0}{mg:tzA}{base:Heap}{CX:CXT}{k:Nat}{f:Addr}{fd:FuncData}{ps:List Str}{sp sp':Sp}(F:FnOk P w K mg base CX k f fd ps sp)
  (h:∀vs H Q E,sp' vs H Q E->sp vs H Q E):FnOk P w K mg base CX k f fd ps sp':=
 ⟨fun vs H Q E q=>F.len vs H Q E (h _ _ _ _ q),fun A outer s H args us vs Q E hr he hb hv hs=>F.run A outer s H args us vs Q E hr he hb hv (h _ _ _ _ hs)⟩
theorem Env0.make{P:Program}{w:World}{K:tz0}{mg:tzA}{base:Heap}{A:Around}{outer:List Env}{s:Shared}{H:Hp}(e:Env0 P w K mg base A outer s H)(C:Addr)(us:List Value)(kw:List (Str×Value)):
  Env0 P w K mg base (A.under (.builtin "type.__call__" ⟨.ref C::us,kw⟩)) outer s H:=⟨by first|exact e.frames|(simpa [Around.under,Code.envs,Code.isFrame,pushEnvs] using e.frames),e.mod,e.bs,e.bsz,e.funs,e.frf,e.hok,e.bare⟩
theorem Env0.in1{P:Program}{w:World}{K:tz0}{mg:tzA}{base:Heap}{A:Around}{outer:List Env}{s:Shared}{H:Hp}(e:Env0 P w K mg base A outer s H):
  Env0 P w K mg base A.in1 outer s H:=⟨e.frames,e.mod,e.bs,e.bsz,e.funs,e.frf,e.hok,e.bare⟩
section
variable{X:Cx}{pins:tzB}{σ:St}{H:Hp}{s s':Shared}
theorem Inv.env0(I:Inv X pins σ H s):Env0 X.prog X.w X.K X.mg X.base X.A X.stack s H:=
 ⟨I.ok.frames,I.ok.mod,I.bs,Nat.le_trans I.ok.bsz I.sz,I.stack,I.stkFree,I.hok,I.bare⟩
theorem Inv.after{Q:VK}{u:Value}(I:Inv X pins σ H s)(h:CE X.stack X.prog X.w H s Q u s'):EP X pins σ Q u s':=by
 obtain⟨v,H',os,bare,un,hok,r,q⟩:=h
 obtain⟨hh,g,d,t,os'⟩:=s'
 obtain rfl:os'=s.os:=os
 exact⟨v,H',I.call (h':=hh) (g':=g) (d':=d) (t':=t) (ch:=[]) un hok bare (fun b z=>absurd z (by simp)),r,q⟩
end
def zp6(sp:Sp)(dvs:List V)(E:XK)(t:TA):TE:=fun σ H Q=>t σ H fun vs H1=>sp (vs++dvs) H1 Q E
def wc4(C:Addr)(m:Str)(sp:Sp)(dvs:List V)(E:XK)(ta:TE)(t:TA):TE:=fun σ H Q=>ta σ H fun x H1=>∃a dx fs,x= .ref a/\H1 a=some (.ins C dx fs)/\fs.lookup m=none/\
 t σ H1 fun vs H2=>sp (x::(vs++dvs)) H2 Q E
def wc5(C:Addr)(sp:Sp)(dvs:List V)(E:XK)(t:TA):TE:=fun σ H Q=>t σ H fun vs H1=>∀x dx,H1 x=none->H1 dx=none->dx≠x->
 sp (.ref x::(vs++dvs)) (upd (upd H1 dx (.own x)) x (.ins C dx [])) (fun v H2=>v= .non/\Q (.ref x) H2) E
def jX(K:tz0)(fd:FuncData)(ps:List Str)(ds:List Value):Prop:=
 ∀(s:Shared) (us:List Value),K.In s.heap->(us++ds).length=ps.length->BindsTo s fd ⟨us,[]⟩ (ps.zip (us++ds))
theorem jX.all{K:tz0}{fd:FuncData}{ps:List Str}(h:∀us:List Value,us.length=ps.length->bindArgs fd ⟨us,[]⟩=pure (ps.zip us)):jX K fd ps []:=fun s us _ hl=>by
 rw [List.append_nil] at hl|-
 exact .of_eq (h us hl)
def pG(CX:CXT)(X:Cx)(E:XK):Prop:=∀(pins:tzB) (σ:St) (H:Hp) (s:Shared) (e:Value) (s':Shared),Inv X pins σ H s->CX X.stack H s E e s'->X.xe e s'
section
variable{X:Cx}{CX:CXT}{k:Nat}{f C:Addr}{fd:FuncData}{ps:List Str}{sp:Sp}{dvs:List V}{ds:List Value}{E:XK}{x m:Str}{p pos apos:Pos}{e o:Expr}{es:List Expr}{ta:TE}{t:TA}
theorem zb0{pins:tzB}{σ:St}{H:Hp}{s:Shared}{Q:VK}{us:List Value}{vs:List V}(F:FnOk X.prog X.w X.K X.mg X.base CX k f fd ps sp)(hr:Room k X.A)(hb:jX X.K fd ps ds)(hd:bG dvs ds)(hx:pG CX X E)
  (I:Inv X pins σ H s) (r:bG vs us) (h:sp (vs++dvs) H Q E):wpAny (model X.prog X.w) X.A (call (.ref f) us) (EP X pins σ Q) X.xe s:=by
 have r2:bG (vs++dvs) (us++ds):=r.append hd
 have hl:(us++ds).length=ps.length:=by rw [<-r2.length];exact F.len _ _ _ _ h
 refine wpAny_call (codeAny_mono (F.run X.A X.stack s H ⟨us,[]⟩ (us++ds) (vs++dvs) Q E hr I.env0 (hb s us I.kIn hl) r2 h) fun r s' hq=> ?_)
 cases r with
 |error e=>exact hx pins σ H s e s' I hq
 |ok fl=>
  cases fl with
  |ret u=>exact I.after hq
  |next=>exact False.elim hq
  |brk=>exact False.elim hq
  |cont=>exact False.elim hq
theorem xj1(F:FnOk X.prog X.w X.K X.mg X.base CX k f fd ps sp)(hr:Room k X.A)(hg:Gl X x)(hm:X.mg x=some (.ref f))(hk:PySem.W.keepIn X.K (.ref f)=true)(hb:jX X.K fd ps ds)(hd:bG dvs ds)(hx:pG CX X E)
  (ha:PA X (e::es) t) (hdb:(x==("__debug__":Str))=false:=by decide) (he:starEach (e::es) X.env=(false,eval e X.env)::starEach es X.env:=by rfl) (hpl:(backTo pos (starEach es X.env)).any (·.1)=false:=by rfl):
  PE X (.Call (.Name x p) (e::es) [] pos) (zp6 sp dvs E t):=⟨by
 intro pins s σ H Q I h
 refine wpAny_Call_Name_kw (yA I hg hm ?_ hdb)
 refine PySem.W.callWith_K (h₀:=X.base) I.ok.mod.kin hk (thn (ha pos pins s σ H _ I h) fun us s1 ⟨vs,H1,I1,r,q⟩=>⟨I1.kIn,?_⟩) he hpl
 exact zb0 F hr hb hd hx I1 r q⟩
theorem yx5(F:FnOk X.prog X.w X.K X.mg X.base CX k f fd ps sp)(hr:Room k X.A)(hg:Gl X x)(hm:X.mg x=some (.ref f))(hk:PySem.W.keepIn X.K (.ref f)=true)(hb:jX X.K fd ps ds)(hd:bG dvs ds)(hx:pG CX X E)
  (hdb:(x==("__debug__":Str))=false:=by decide):PE X (.Call (.Name x p) [] [] pos) (zp6 sp dvs E xe7):=⟨by
 intro pins s σ H Q I h
 refine wpAny_Call_Name_kw (yA I hg hm ?_ hdb)
 exact PySem.W.callWith_K0 I.kIn hk (zb0 (us:=[]) F hr hb hd hx I .nil h)⟩
theorem xj2{pl:Sem Bool}(he:PE X o ta)(c:Cls X.K C)(hm:Meth X.K C m f)(F:FnOk X.prog X.w X.K X.mg X.base CX k f fd ps sp)(hr:Room k X.A)(hb:jX X.K fd ps ds)(hd:bG dvs ds)(hx:pG CX X E)(ha:PA X (e::es) t)
  (hst:starEach (e::es) X.env=(false,eval e X.env)::starEach es X.env:=by rfl) (hpl:(backTo pos (starEach es X.env)).any (·.1)=false:=by rfl)
  (ht:eval (.Call (.Attribute o m apos) (e::es) [] pos) X.env=(do
   let ov<-eval o X.env
   standAt apos.atName
   let (f,first)<-holding [ov] (getMethod ov m pl)
   callWith pos f first (backTo pos (starEach (e::es) X.env)) (backToKw pos (keywordEach [] X.env))):=by rfl):
  PE X (.Call (.Attribute o m apos) (e::es) [] pos) (wc4 C m sp dvs E ta t):=⟨by
 intro pins s σ H Q I h
 refine PySem.W.methodCall_KW (pl:=pl) (thn (he pins s σ H _ I h) fun u s1 ⟨x,H1,I1,rx,a,dx,fs,ex,ea,l,q⟩=> ?_) ht
 subst ex
 obtain rfl:u=Value.ref a:=rx
 refine yg4 I1 ea c hm l ?_
 refine PySem.W.callWith_K (first:=[.ref a]) (h₀:=X.base) I.ok.mod.kin hm.kp (thn (ha pos pins s1 σ H1 _ I1 q) fun us s2 ⟨vs,H2,I2,r,q2⟩=>⟨I2.kIn,?_⟩) hst hpl
 exact zb0 (us:= .ref a::us) (vs:= .ref a::vs) F hr hb hd hx I2 (.cons rfl r) q2⟩
structure Mk(K:tz0)(C f:Addr):Prop where
 makes:PySem.W.makesIn K C=true
 init:PySem.W.findIn K (.ref C) "__init__"=some (some (.ref f))
 fn:PySem.W.isFn K (.ref f)=true
 kp:PySem.W.keepIn K (.ref C)=true
theorem yx6{pins:tzB}{σ:St}{H:Hp}{s:Shared}{Q:VK}{us:List Value}{vs:List V}(M:Mk X.K C f)(F:FnOk X.prog X.w X.K X.mg X.base CX k f fd ps sp)(hr:Room (k+1) X.A)(hb:jX X.K fd ps ds)(hd:bG dvs ds)
  (hx:pG CX X E) (I:Inv X pins σ H s) (r:bG vs us)
  (h:∀x dx,H x=none->H dx=none->dx≠x->sp (.ref x::(vs++dvs)) (upd (upd H dx (.own x)) x (.ins C dx [])) (fun v H2=>v= .non/\Q (.ref x) H2) E):
  wpAny (model X.prog X.w) X.A (call (.ref C) us) (EP X pins σ Q) X.xe s:=by
 have hq:=h (s.heap.objs.size+1) s.heap.objs.size (I.hok.fresh (Nat.le_succ _)) (I.hok.fresh (Nat.le_refl _)) (Nat.ne_of_lt (Nat.lt_succ_self _))
 have I2:=Inv.made (C:=C) I
 have r2:bG (V.ref (s.heap.objs.size+1)::(vs++dvs)) (Value.ref (s.heap.objs.size+1)::(us++ds)):= .cons rfl (r.append hd)
 have hl:(Value.ref (s.heap.objs.size+1)::us++ds).length=ps.length:=by
  have e:=r2.length
  rw [F.len _ _ _ _ hq] at e
  exact e.symm
 refine wpAny_call (yx4 (f:=f) I.kIn M.makes M.init (beq_iff_eq.mp M.fn) (codeAny_mono (F.run _ X.stack _ _ ⟨Value.ref (s.heap.objs.size+1)::us,[]⟩ (Value.ref (s.heap.objs.size+1)::(us++ds)) _ _ E (hr.make C us [])
  (I2.env0.make C us []) (hb _ (Value.ref (s.heap.objs.size+1)::us) I2.kIn hl) r2 hq) fun r s' hq'=> ?_))
 cases r with
 |error e=>exact hx pins σ _ _ e s' I2 hq'
 | ok fl=>
  cases fl with
  |ret u=>
   obtain⟨v,H',I3,rv,ev,q3⟩:=I2.after hq'
   subst ev
   exact⟨rv,⟨V.ref (s.heap.objs.size+1),H',I3,rfl,q3⟩⟩
  |next=>exact False.elim hq'
  |brk=>exact False.elim hq'
  |cont=>exact False.elim hq'
theorem xj3(M:Mk X.K C f)(F:FnOk X.prog X.w X.K X.mg X.base CX k f fd ps sp)(hr:Room (k+1) X.A)(hg:Gl X x)(hm:X.mg x=some (.ref C))(hb:jX X.K fd ps ds)(hd:bG dvs ds)(hx:pG CX X E)
  (ha:PA X (e::es) t) (hdb:(x==("__debug__":Str))=false:=by decide) (he:starEach (e::es) X.env=(false,eval e X.env)::starEach es X.env:=by rfl) (hpl:(backTo pos (starEach es X.env)).any (·.1)=false:=by rfl):
  PE X (.Call (.Name x p) (e::es) [] pos) (wc5 C sp dvs E t):=⟨by
 intro pins s σ H Q I h
 refine wpAny_Call_Name_kw (yA I hg hm ?_ hdb)
 refine PySem.W.callWith_K (h₀:=X.base) I.ok.mod.kin M.kp (thn (ha pos pins s σ H _ I h) fun us s1 ⟨vs,H1,I1,r,q⟩=>⟨I1.kIn,?_⟩) he hpl
 exact yx6 M F hr hb hd hx I1 r q⟩
end
section
variable{X:Cx}{CX:CXT}{k:Nat}{f C:Addr}{fd:FuncData}{ps ks:List Str}{sp:Sp}{E:XK}{x m:Str}{p pos apos kpos:Pos}{e o:Expr}{es:List Expr}{kws:List Keyword}{te ta:TE}{t tk:TA}{nm:Option Str}
structure KBinds(K:tz0)(fd:FuncData)(ps ks:List Str)(g:List Value->List Value->List Value)(gV:List V->List V->List V):Prop where
 to:∀(s:Shared) (us ws:List Value),K.In s.heap->(g us ws).length=ps.length->BindsTo s fd ⟨us,ks.zip ws⟩ (ps.zip (g us ws))
 rel:∀{vs:List V} {us:List Value} {zs:List V} {ws:List Value},bG vs us->bG zs ws->bG (gV vs zs) (g us ws)
variable{g:List Value->List Value->List Value}{gV:List V->List V->List V}
end
structure FnScope(N P:List Str)(sc:Scope):Prop where
 kind:sc.kind= .function
 co:sc.isCoroutine=false
 gen:sc.isGenerator=false
 nd:N.Nodup
 pre:N.take P.length=P
 par:∀x∈P,sc.names.lookup x=some .local\/sc.names.lookup x=some .cell
 nofree:∀y∈sc.names,y.2≠ .free
theorem zj7{kindOf:Str->Option NameKind}{x:Str}:∀{binds:List (Str×Value)} {m:tzA},(∀v,(x,v)∉binds)->bindL kindOf binds m x=m x
 |[],_,_=>rfl
 | (n,v)::r,m,h=>by
  unfold bindL
  rw [zj7 fun w hw=>h w (List.mem_cons_of_mem _ hw)]
  split
  ·have:x≠n:=by rintro rfl;exact h v List.mem_cons_self
   simp [this]
  ·rfl
theorem zj8{kindOf:Str->Option NameKind}{x:Str}:∀{binds:List (Str×Value)} {m:tzA},(∀v,(x,v)∉binds)->bindC kindOf binds m x=m x
 |[],_,_=>rfl
 | (n,v)::r,m,h=>by
  unfold bindC
  rw [zj8 fun w hw=>h w (List.mem_cons_of_mem _ hw)]
  split
  ·rfl
  ·have:x≠n:=by rintro rfl;exact h v List.mem_cons_self
   simp [this]
theorem zj9{kindOf:Str->Option NameKind}{x:Str}{v:Value}:∀{P:List Str} {vs:List Value} {i:Nat} {m:tzA},P.Nodup->P[i]? =some x->vs[i]? =some v->kindOf x=some .local->
  bindL kindOf (P.zip vs) m x=some v
 |[],_,_,_,_,h,_,_=>by simp at h
 |_::_,[],_,_,_,_,h,_=>by simp at h
 |p::P,w::vs,0,m,nd,h1,h2,hk=>by
  simp at h1 h2;subst h1;subst h2
  show bindL kindOf ((p,w)::P.zip vs) m p=_
  unfold bindL
  rw [zj7 fun v hv=>(List.nodup_cons.mp nd).1 (List.of_mem_zip hv).1,if_pos hk]
  simp
 |p::P,w::vs,i+1,m,nd,h1,h2,hk=>by
  show bindL kindOf ((p,w)::P.zip vs) m x=_
  unfold bindL
  exact zj9 (i:=i) (List.nodup_cons.mp nd).2 (by simpa using h1) (by simpa using h2) hk
theorem zk0{kindOf:Str->Option NameKind}{x:Str}{v:Value}:∀{P:List Str} {vs:List Value} {i:Nat} {m:tzA},P.Nodup->P[i]? =some x->vs[i]? =some v->kindOf x≠some .local->
  bindC kindOf (P.zip vs) m x=some v
 |[],_,_,_,_,h,_,_=>by simp at h
 |_::_,[],_,_,_,_,h,_=>by simp at h
 |p::P,w::vs,0,m,nd,h1,h2,hk=>by
  simp at h1 h2;subst h1;subst h2
  show bindC kindOf ((p,w)::P.zip vs) m p=_
  unfold bindC
  rw [zj8 fun v hv=>(List.nodup_cons.mp nd).1 (List.of_mem_zip hv).1,if_neg hk]
  simp
 |p::P,w::vs,i+1,m,nd,h1,h2,hk=>by
  show bindC kindOf ((p,w)::P.zip vs) m x=_
  unfold bindC
  exact zk0 (i:=i) (List.nodup_cons.mp nd).2 (by simpa using h1) (by simpa using h2) hk
def start(N:List Str)(vs:List V):St:=vs.map some++List.replicate (N.length-vs.length) none
def xO(CX:CXT)(P:Program)(w:World)(K:tz0)(mg:tzA)(base:Heap)(N:List Str)(qual:Str)(scope:Scope)(f:Addr)(cd:Value)(A:Around)(outer:List Env)(s:Shared)(H:Hp)(E:XK):Cx where
 prog:=P
 w:=w
 K:=K
 mg:=mg
 base:=base
 A:=A.deeper (envOfC qual scope s.heap.objs.size f cd)
 N:=N
 s₀:=s
 H₀:=H
 env:=envOfC qual scope s.heap.objs.size f cd
 outer:=outer
 stack:=envOfC qual scope s.heap.objs.size f cd::outer
 ex:=[]
 calm:=true
 fn:=fun _=>true
 pn:=[]
 xe:=fun e s'=>wpAny (model P w) (A.deeper (envOfC qual scope s.heap.objs.size f cd)) (leaving (envOfC qual scope s.heap.objs.size f cd) e) (fun _ s''=>CX outer H s E e s'') (fun e' s''=>CX outer H s E e' s'') s'
theorem zr8{sc:Scope}{n:Nat}{x:Str}(h:sc.names.lookup x=some .cell):∃c,(cellsFrom n sc.names []).lookup x=some c:=by
 have q:=PySem.W.cellsFrom_some sc.names n [] (.inl h)
 exact Option.isSome_iff_exists.mp q
theorem yn6{CX:CXT}{P:Program}{w:World}{K:tz0}{mg:tzA}{base:Heap}{N ps:List Str}{qual:Str}{scope:Scope}{f:Addr}{cd:Value}{A:Around}{outer:List Env}{s s1:Shared}{H:Hp}{E:XK}{us:List Value}{vs:List V}
  (S:FnScope N ps scope) (hd:A.handled=none) (e0:Env0 P w K mg base A outer s H) (hl:vs.length=ps.length) (r:bG vs us)
  (x:InCallC s s.heap.objs.size (bindL (envOfC qual scope s.heap.objs.size f cd).kindOf (ps.zip us) fun _=>none) (cellsFrom (s.heap.objs.size+1) scope.names []) (bindC (envOfC qual scope s.heap.objs.size f cd).kindOf (ps.zip us) fun _=>none) s1):
  Inv (xO CX P w K mg base N qual scope f cd A outer s H E) [] (start N vs) H s1:=by
 have hpl:ps.length<=N.length:=by have:=congrArg List.length S.pre;rw [List.length_take] at this;omega
 obtain⟨h1,tk,rfl,hk⟩:=x.done
 have noA:∀b:Addr,b∉(xO CX P w K mg base N qual scope f cd A outer s H E).ex:=fun b z=>absurd (show b∈([]:List Addr) from z) (by simp)
 refine⟨⟨e0.mod,S.kind,rfl,rfl,Nat.le_refl _,fun y z c h1 h2=> ?_,fun y hy=> ?_,fun y c _ h=> ?_,fun _=>hd,Around.frames_deeper e0.frames,.inr ⟨rfl,rfl⟩,fun b z=>absurd z (noA b),e0.bs,e0.bsz,fun b _ _=>noA b,fun b z=>absurd z (noA b),e0.funs,e0.frf⟩,
  rfl,e0.bare,Un.kept hk,⟨_,x.toInCall.ns,fun i y v h1 h2 h3=> ?_⟩,fun y c h=>⟨_,x.cell y c h⟩,e0.hok.fresh (Nat.le_refl _),fun y c h=> ?_,fun p hp=>absurd (show p∈([]:tzB) from hp) (by simp),e0.hok.kept hk,?_⟩
 ·exact name_of_addr x.apart (PySem.mem_of_lookup h1) (PySem.mem_of_lookup h2)
 ·have hy:scope.names.lookup y=some .cell\/scope.names.lookup y=some .free:=hy
  rcases hy with hy|hy
  ·exact zr8 hy
  ·exact absurd rfl (S.nofree _ (PySem.mem_of_lookup hy))
 ·exact Nat.le_of_lt (x.above y c (PySem.mem_of_lookup h))
 ·have hi:i<vs.length:=by
   unfold start at h2
   by_cases hi:i<vs.length
   ·exact hi
   ·rw [List.getElem?_append_right (by simpa using hi)] at h2
    rw [List.getElem?_replicate] at h2
    split at h2<;>cases h2
  have ha:vs[i]? =some v:=by
   unfold start at h2
   rw [List.getElem?_append_left (by simpa using hi),List.getElem?_map] at h2
   cases e:vs[i]? with
   |none=>rw [e] at h2;cases h2
   |some a=>rw [e] at h2;cases h2;rfl
  obtain⟨u,hu,rv⟩:=r.get ha
  have hp:ps[i]? =some y:=by
   rw [<-S.pre,List.getElem?_take_of_lt (by omega)];exact h1
  have ndP:ps.Nodup:=by rw [<-S.pre];exact S.nd.sublist (List.take_sublist _ _)
  refine⟨u,rv,?_⟩
  rcases S.par y (List.mem_of_getElem? hp) with k|k
  ·exact .inl ⟨k,zj9 ndP hp hu k⟩
  ·obtain⟨c,e⟩:=zr8 (n:=s.heap.objs.size+1) k
   refine .inr ⟨.inl k,c,e,?_⟩
   have q:=x.cell y c e
   rw [zk0 ndP hp hu (by show scope.names.lookup y≠_;rw [k];decide)] at q
   exact q
 ·exact e0.hok.fresh (Nat.le_of_lt (x.above y c (PySem.mem_of_lookup h)))
 ·unfold start
  show _=N.length
  rw [List.length_append,List.length_map,List.length_replicate]
  omega
theorem xz9{CX:CXT}{P:Program}{w:World}{K:tz0}{mg:tzA}{base:Heap}{k:Nat}{f:Addr}{name qual:Str}{params:Arguments}{body:List Stmt}{scope:Scope}{dV kV doc pm cdv ct oc:Value}{an od:Option Addr}
  {osl:Array (Option Value)} {N ps:List Str} {sp:Sp} (lk:K.lookup f=some ⟨oc,od,.func (PySem.W.fnOf name qual params body scope dV kV doc pm an cdv ct),osl⟩) (hcd:PySem.W.codeIn K cdv qual=true) (S:FnScope N ps scope)
  (len:∀vs H Q E,sp vs H Q E->vs.length=ps.length)
  (hbody:∀(A:Around) (outer:List Env) (s:Shared) (H:Hp) (vs:List V) (Q:VK) (E:XK),Room k (A.deeper (envOfC qual scope s.heap.objs.size f cdv))->sp vs H Q E->
   ∃t,PSs (xO CX P w K mg base N qual scope f cdv A outer s H E) body t/\t {nx:=fun _ H'=>Q .non H',rt:=Q} (start N vs) H):
  FnOk P w K mg base CX (k+1) f (PySem.W.fnOf name qual params body scope dV kV doc pm an cdv ct) ps sp:=by
 refine⟨len,fun A outer s H args us vs Q E hr e0 hb r hsp=> ?_⟩
 have hl:=len _ _ _ _ hsp
 have KX:K.In s.heap:=e0.mod.kin.keeps fun b o e=>(e0.bs b o e).1
 have lim:s.heap.NoLimit:=e0.mod.nolimit.keeps fun b o e=>(e0.bs b o e).1
 have hkind:∀y∈ps.zip us,scope.names.lookup y.1=some .local\/(scope.names.lookup y.1=some .cell/\((cellsFrom (s.heap.objs.size+1) scope.names []).lookup y.1).isSome=true):=fun⟨n,v⟩ hy=>by
  rcases S.par n (List.of_mem_zip hy).1 with q|q
  ·exact .inl q
  ·exact .inr ⟨q,PySem.W.cellsFrom_some _ _ _ (.inl q)⟩
 refine codeAny_call_function hr.depth (KX _ _ lk) rfl S.co S.gen rfl (PySem.W.codeRec_of KX hcd) (hb _ _ _ _ ?_)
 refine wpAny_newFunctionEnv_cells S.kind hkind fun env he s1 x=> ?_
 subst he
 refine⟨lim.keeps x.toInCall.keep,codeAny_func ?_⟩
 obtain⟨t,ht,hq⟩:=hbody A outer s H vs Q E (hr.deeper _) hsp
 have I:Inv (xO CX P w K mg base N qual scope f cdv A outer s H E) [] (start N vs) H s1:=yn6 S hr.hd e0 hl r x
 refine wpAny_mono (ht [] s1 (start N vs) H _ I hq) (fun fl s' hs=> ?_) fun e s' hs=>hs
 have fin:∀{σ':St} {H':Hp} {v:V} {u:Value},Inv (xO CX P w K mg base N qual scope f cdv A outer s H E) [] σ' H' s'->bZ v u->Q v H'->CE outer P w H s Q u s':=
  fun {σ' H' v u} J rv q=>⟨v,H',J.os,J.bare,J.base,J.hok,rv,q⟩
 cases fl with
 |ret u=>
  obtain⟨v,σ',H',J,rv,q⟩:=hs
  exact fin J rv q
 |next=>
  obtain⟨σ',H',J,q⟩:=hs
  exact fin (v:=V.non) (u:=Value.none) J rfl q
 |brk=>
  obtain⟨_,_,_,q⟩:=hs
  exact False.elim q
 |cont=>
  obtain⟨_,_,_,q⟩:=hs
  exact False.elim q
section
variable{X:Cx}{x:Str}{p pos:Pos}{e:Expr}{es:List Expr}{t:TA}{id T:String}{r:List V->Hp->VK->Prop}
def tCB(r:List V->Hp->VK->Prop)(t:TA):TE:=fun σ H Q=>t σ H fun vs H1=>r vs H1 Q
theorem rD(hc:CallR X (.builtin id) r)(hg:Gl X x)(hm:X.mg x=none)(hv:bootBuiltins x=some (.builtin id))(ha:PA X (e::es) t)(hn:x≠"__name__":=by decide)(hdb:(x==("__debug__":Str))=false:=by decide)
  (he:starEach (e::es) X.env=(false,eval e X.env)::starEach es X.env:=by rfl) (hpl:(backTo pos (starEach es X.env)).any (·.1)=false:=by rfl):PE X (.Call (.Name x p) (e::es) [] pos) (tCB r t):=⟨by
 intro pins s σ H Q I h
 refine wpAny_Call_Name_kw (wS I hg hm hv ?_ hn hdb)
 exact PyProof.Rows.callWith_builtin1 (thn (ha pos pins s σ H _ I h) fun us s1 ⟨vs,H1,I1,r1,q1⟩=>hc pins s1 σ H1 vs us Q I1 r1 q1) he hpl⟩
theorem yn7(hc:CallR X (.type T) r)(hg:Gl X x)(hm:X.mg x=none)(hv:bootBuiltins x=some (.type T))(ha:PA X (e::es) t)(hn:x≠"__name__":=by decide)(hdb:(x==("__debug__":Str))=false:=by decide)
  (he:starEach (e::es) X.env=(false,eval e X.env)::starEach es X.env:=by rfl) (hpl:(backTo pos (starEach es X.env)).any (·.1)=false:=by rfl):PE X (.Call (.Name x p) (e::es) [] pos) (tCB r t):=⟨by
 intro pins s σ H Q I h
 refine wpAny_Call_Name_kw (wS I hg hm hv ?_ hn hdb)
 exact PyProof.Rows.callWith_type1 (thn (ha pos pins s σ H _ I h) fun us s1 ⟨vs,H1,I1,r1,q1⟩=>hc pins s1 σ H1 vs us Q I1 r1 q1) he hpl⟩
end
end L2
namespace HT
open PySem PyProof.Rows
def lexLt:List Int->List Int->Bool
 |[],[]=>false
 |[],_::_=>true
 |_::_,[]=>false
 |x::xs,y::ys=>if x=y then lexLt xs ys else decide (x<y)
theorem yg8(x y:Int)(xs ys:List Int):lexLt (x::xs) (y::ys)=if x=y then lexLt xs ys else decide (x<y):=rfl
theorem zn9:lexLt [] []=false:=rfl
theorem zg2(y:Int)(ys:List Int):lexLt [] (y::ys)=true:=rfl
theorem zg3(x:Int)(xs:List Int):lexLt (x::xs) []=false:=rfl
theorem yx7(A:Around)(s:Shared)(a:Int)(t:Tok)(c:Int)(u:Tok):∃e,SeqAt.EqAt A s (.int a t) (.int c u) e/\(e=true↔a=c):=
 ⟨(a==c),SeqAt.EqAt.int_int a t c u,by simp⟩
theorem yx8(A:Around)(s:Shared)(a:Int)(t:Tok)(c:Int)(u:Tok)(prog:Program)(w:World)(E:Value->Shared->Prop)(Q:Value->Shared->Prop)(h:Q (.bool (decide (a<c))) s):
  wpAny (model prog w) A (richCompare .Lt (.int a t) (.int c u)) Q E s:=
 (PyProof.Rows.lt_int h:wpAny (model prog w) A (compareOp .Lt (.int a t) (.int c u)) Q E s)
section
open PySem.SeqAt
open PySem.AutoSeq1 (wpAny_loadPart')
open PySem.MeetsSeq PySem.MeetsSeq2 PySem.MeetsSeq3
theorem zo0(l b:Addr)(items items2:Array Value)(n n2:Nat)(dd dd2:Option Addr)(sl sl2:Array (Option Value))(ns ms:List Int)(hi:IntsAre items.toList ns)(hj:IntsAre items2.toList ms):
  Meets (Builtin.«tuple.__lt__» ⟨[.ref l,.ref b],[]⟩)
   (fun _ R s=>s.heap.get? l=some {cls:= .type "tuple",dict:=dd,data:= .seq items n,slots:=sl}/\s.heap.get? b=some {cls:= .type "tuple",dict:=dd2,data:= .seq items2 n2,slots:=sl2}/\
    R (.ok (.ret (.bool (lexLt ns ms)))) s):=
 .of_wp fun prog w A R s h=>by
  obtain⟨hp,g,d,tk,os⟩:=s;obtain⟨hl,hb,h⟩:=h
  have f2:=AutoSeq1.sub_tuple_tuple
  have z1:items.size=ns.length:=by rw [<-hi.length];simp
  have z2:items2.size=ms.length:=by rw [<-hj.length];simp
  wp_walk using wpAny_loadPart' hl,wpAny_loadPart' hb,wpAny_forIn_list _ (fun cE b s'=>b.1=none/\s'=⟨hp,g,d,tk,os⟩/\∃(vs ws:List Value) (ns' ms':List Int),cE=vs.zip ws/\
   IntsAre vs ns'/\IntsAre ws ms'/\ns'.length+items2.size=ms'.length+items.size/\R (.ok (.ret (.bool (lexLt ns' ms')))) ⟨hp,g,d,tk,os⟩) _
  case turn=>
   rintro⟨y,x⟩ cE b s' ⟨hb',rfl,vs,ws,ns',ms',hz,hvi,hwi,hlen,hR⟩
   cases hvi with
   |nil=>rw [List.zip_nil_left] at hz;cases hz
   | cons a t hvi'=>
    cases hwi with
    |nil=>rw [List.zip_nil_right] at hz;cases hz
    | cons c u hwi'=>
     rw [List.zip_cons_cons] at hz
     injection hz with hyx hrest
     injection hyx with hy hx
     subst hy hx
     rw [yg8] at hR
     simp only [List.length_cons] at hlen
     obtain⟨e,he,hiff⟩:=yx7 A.in1 ⟨hp,g,d,tk,os⟩ a t c u
     refine wpAny_bind (he prog w _ _ ?_)
     cases e with
     |true=>
      rw [if_pos (hiff.mp rfl)] at hR
      wp_walk
      exact⟨rfl,rfl,_,_,_,_,hrest,hvi',hwi',by omega,hR⟩
     |false=>
      rw [if_neg (fun q=>absurd (hiff.mpr q) Bool.false_ne_true)] at hR
      have hri:=yx8 A.in1 ⟨hp,g,d,tk,os⟩ a t c u prog w
      wp_walk using hri
      exact⟨_,rfl,by simpa using hR⟩
  case fin=>
   rintro⟨b1,b2⟩ s' ⟨hb',rfl,vs,ws,ns',ms',hz,hvi,hwi,hlen,hR⟩
   simp only at hb'
   subst hb'
   have hv:lexLt ns' ms'=decide (items.size<items2.size):=by
    cases hvi with
    | nil=>
     cases hwi with
     |nil=>
      simp only [List.length_nil] at hlen
      rw [zn9]
      exact(decide_eq_false (by omega)).symm
     |cons c u hw=>
      simp only [List.length_nil,List.length_cons] at hlen
      rw [zg2]
      exact(decide_eq_true (by omega)).symm
    | cons a t hv=>
     cases hwi with
     |nil=>
      simp only [List.length_nil,List.length_cons] at hlen
      rw [zg3]
      exact(decide_eq_false (by omega)).symm
     |cons c u hw=>
      rw [List.zip_cons_cons] at hz
      cases hz
   rw [hv] at hR
   wp_walk
   exact⟨_,rfl,by simpa [Builtin.Tuple.tupleCompareSizes] using hR⟩
  case h=>
   exact⟨rfl,rfl,items.toList,items2.toList,ns,ms,rfl,hi,hj,by omega,h⟩
end
section
variable{prog:Program}{w:World}{A:Around}{E:Value->Shared->Prop}{s:Shared}
theorem lt_tupInts{l b:Addr}{items items2:Array Value}{ns ms:List Int}{Q:Value->Shared->Prop}(hl:IsTup s.heap l items)(hb:IsTup s.heap b items2)(hi:IntsAre items.toList ns)(hj:IntsAre items2.toList ms)
  (hu:A.units<cLine) (h:Q (.bool (lexLt ns ms)) s):wpAny (model prog w) A (compareOp .Lt (.ref l) (.ref b)) Q E s:=by
 obtain⟨⟨cls,dd,data,sl⟩,ho,hc,n,hd⟩:=id hl
 obtain⟨⟨cls2,dd2,data2,sl2⟩,ho2,hc2,n2,hd2⟩:=id hb
 simp only at hc hd hc2 hd2
 subst hc hd hc2 hd2
 exact richCompare_meets_room (op:= .Lt) ⟨_,ho,rfl⟩ ⟨_,ho2,rfl⟩ PySem.F.slot_tuple_lt PySem.F.entry_tuple_lt (PySem.F.args_tuple_lt_2 _ _) (zo0 l b items items2 n n2 dd dd2 sl sl2 ns ms hi hj)
  ⟨ho,ho2,show Value.bool (lexLt ns ms)≠Value.notImplemented/\Q (.bool (lexLt ns ms)) s from⟨(fun x=>nomatch x),h⟩⟩ hu
theorem cat_tup{t b:Addr}{vs ws:List Value}{Q:Value->Shared->Prop}(ht:IsTup s.heap t vs.toArray)(hb:IsTup s.heap b ws.toArray)(hv:vs≠[])
  (h1:ws=[]->Q (.ref t) s) (h2:ws≠[]->Q (.ref s.heap.objs.size) {s with heap:=s.heap.push {cls:= .type "tuple",data:= .seq (vs++ws).toArray}})
  (hsz:vs.length+ws.length<=sizeLine):wpAny (model prog w) A (binaryOp .Add (.ref t) (.ref b)) Q E s:=by
 obtain⟨⟨cls,dd,data,sl⟩,ho,hc,n,hd⟩:=id ht
 obtain⟨⟨cls2,dd2,data2,sl2⟩,ho2,hc2,n2,hd2⟩:=id hb
 simp only at hc hd hc2 hd2
 subst hc hd hc2 hd2
 have e:vs.toArray++ws.toArray=(vs++ws).toArray:=by simp
 by_cases hw:ws=[]
 ·exact concat_meets ⟨_,ho,rfl⟩ ⟨_,ho2,rfl⟩ noFill_tuple_add seq_tuple_add PySem.F.slot_tuple_add PySem.F.entry_tuple_add (PySem.F.args_tuple_add_2 _ _)
   (tuple_addW1 t b vs.toArray ws.toArray n n2 dd dd2 sl sl2 (by simpa using hv) (by simp [hw])) ⟨ho,ho2,h1 hw⟩
 ·refine concat_meets ⟨_,ho,rfl⟩ ⟨_,ho2,rfl⟩ noFill_tuple_add seq_tuple_add PySem.F.slot_tuple_add PySem.F.entry_tuple_add (PySem.F.args_tuple_add_2 _ _)
   (tuple_addW2 t b vs.toArray ws.toArray n n2 dd dd2 sl sl2 (by simpa using hv) (by simpa using hw) (by rw [List.size_toArray,List.size_toArray];exact hsz)) ⟨ho,ho2,?_⟩
  rw [e]
  exact h2 hw
def sIx(n d:Nat):Option Int->Nat
 |none=>d
 |some v=>if v<0 then(v+(n:Int)).toNat else min v.toNat n
theorem xr8(n d:Nat)(hd:d<=n)(o:Option Int):sIx n d o<=n:=by
 cases o with
 |none=>exact hd
 |some v=>
  show(if v<0 then(v+(n:Int)).toNat else min v.toNat n)<=n
  by_cases hv:v<0
  ·rw [if_pos hv];omega
  ·rw [if_neg hv];exact Nat.min_le_right _ _
theorem yb8(v:Int)(n d:Nat):(if v<0 then max (v+(n:Int)) 0 else min v (n:Int))=((sIx n d (some v):Nat):Int):=by
 show(if v<0 then max (v+(n:Int)) 0 else min v (n:Int))=(((if v<0 then(v+(n:Int)).toNat else min v.toNat n):Nat):Int)
 by_cases hv:v<0
 ·simp only [if_pos hv];omega
 ·simp only [if_neg hv];omega
theorem yg9(lo hi:Option Int)(n:Nat):Builtin.Slice.sliceAdjust lo hi 1 (n:Int)=(((sIx n 0 lo:Nat):Int),((sIx n n hi:Nat):Int)):=by
 have h1:¬((1:Int)<0):=by omega
 unfold Builtin.Slice.sliceAdjust
 simp only [h1,if_false]
 refine Prod.ext ?_ ?_
 ·cases lo with
  |none=>rfl
  |some v=>exact yb8 v n 0
 ·cases hi with
  |none=>rfl
  |some v=>exact yb8 v n n
theorem yh0(i j:Nat):Builtin.Slice.slicePlaces (i:Int) (j:Int) 1=j-i:=by
 unfold Builtin.Slice.slicePlaces
 have h1:(1:Int)>0:=by omega
 simp only [h1,if_true,Int.ediv_one]
 split<;>omega
theorem zb1{v:Value}{o:Option Int}{Q:Option Int->Shared->Prop}(p:IsPart v o)(h:Q o s):wpAny (model prog w) A (Builtin.Slice.slicePartIndex v) Q E s:=by
 cases p with
 |none=>exact slicePart_none h
 |int i t=>exact slicePart_int h
theorem sliceApplied_gen{sl:Addr}{vl vu:Value}{lo hi:Option Int}{n:Nat}{Q:Int×Int×Nat->Shared->Prop}(hs:s.heap.IsSliceOf sl vl vu .none)(pl:IsPart vl lo)(pu:IsPart vu hi)
  (h:Q (((sIx n 0 lo:Nat):Int),1,sIx n n hi-sIx n 0 lo) s):wpAny (model prog w) A (Builtin.Slice.sliceApplied (.ref sl) (pure (n:Int))) Q E s:=by
 obtain⟨os,hos,hcs,hds⟩:=id hs
 unfold Builtin.Slice.sliceApplied Builtin.Slice.sliceFields
 refine wpAny_bind (wpAny_bind (wpAny_field hos hds (x:=vl) rfl (wpAny_bind (wpAny_field hos hds (x:=vu) rfl (wpAny_bind (wpAny_field hos hds (x:= .none) rfl (wpAny_pure ?_)))))))
 refine wpAny_bind (slicePart_none ?_)
 show wpAny _ _ (if ((1:Int)==0)=true then _ else _) _ _ s
 rw [if_neg (by decide)]
 refine wpAny_bind (zb1 pl (wpAny_bind (zb1 pu (wpAny_bind (wpAny_pure ?_)))))
 show wpAny _ _ (match Builtin.Slice.sliceAdjust lo hi 1 (n:Int) with|(lo,hi)=>pure (lo,(1:Int),Builtin.Slice.slicePlaces lo hi 1)) _ _ s
 rw [yg9 lo hi n]
 show wpAny _ _ (pure (((sIx n 0 lo:Nat):Int),(1:Int),Builtin.Slice.slicePlaces ((sIx n 0 lo:Nat):Int) ((sIx n n hi:Nat):Int) 1)) _ _ s
 rw [yh0]
 exact wpAny_pure h
theorem yx9(xs:Array Value)(i k:Nat):((List.range k).filterMap fun(m:Nat)=>xs[((i:Int)+(m:Int)*1).toNat]?).toArray=((xs.toList.drop i).take k).toArray:=by
 have e:(fun(m:Nat)=>xs[((i:Int)+(m:Int)*1).toNat]?)=fun m=>xs[i+m]? :=by
  funext m
  have:((i:Int)+(m:Int)*1).toNat=i+m:=by omega
  rw [this]
 rw [e]
 have:=pick_run xs i k
 rw [List.filterMap_map] at this
 have e2:((fun x=>xs[x]?)∘fun x=>i+x)=fun m=>xs[i+m]? :=rfl
 rw [e2] at this
 rw [this]
theorem getItem_tuple_cut{t sl:Addr}{items:Array Value}{vl vu:Value}{lo hi:Option Int}{Q:Value->Shared->Prop}(ht:IsTup s.heap t items)(hs:s.heap.IsSliceOf sl vl vu .none)(pl:IsPart vl lo)(pu:IsPart vu hi)
  (hw:¬(sIx items.size 0 lo=0/\sIx items.size items.size hi=items.size))
  (h:Q (.ref s.heap.objs.size) {s with heap:=s.heap.push {cls:= .type "tuple",data:= .seq ((items.toList.drop (sIx items.size 0 lo)).take (sIx items.size items.size hi-sIx items.size 0 lo)).toArray}})
  (hsz:items.size<=sizeLine):wpAny (model prog w) A (getItem (.ref t) (.ref sl)) Q E s:=by
 have htake:sizeOk (.seq ((items.toList.drop (sIx items.size 0 lo)).take (sIx items.size items.size hi-sIx items.size 0 lo)).toArray):=by
  show((items.toList.drop (sIx items.size 0 lo)).take (sIx items.size items.size hi-sIx items.size 0 lo)).toArray.size<=sizeLine
  rw [List.size_toArray,List.length_take,List.length_drop,Array.length_toList]
  omega
 have hj:sIx items.size items.size hi<=items.size:=xr8 _ _ (Nat.le_refl _) hi
 obtain⟨os,hos,hcs,hds⟩:=id hs
 have hTs:s.TypeIs (.ref sl) "slice":=⟨os,hos,hcs⟩
 unfold getItem
 try with_reducible refine wpAny_holding ?_
 first|refine wpAny_bind (wpAny_pure ?_)|skip
 refine wpAny_bind (wpAny_sequenceKey ht.typeIs (by decide) ?_)
 refine wpAny_bind (wpAny_callSpecial?_slot (name:=Str.ofString "__getitem__") ht.typeIs PyProof.Rows.slot_tuple_getitem
  (wpAny_call_entry PyProof.Rows.slot_tuple_getitem ht.typeIs entry_tuple_getitem ?_ (args_tuple_getitem _ _)))
 show wpAny _ _ (Builtin.Tuple.tupleItemsOf (.ref t)>>=_) _ _ s
 refine wpAny_bind (tupleItemsOf_ ht ?_)
 refine wpAny_bind (wpAny_typeOf hTs ?_)
 rw [if_pos (by decide)]
 refine wpAny_bind (sliceApplied_gen hs pl pu ?_)
 have hno:¬((((sIx items.size 0 lo:Nat):Int)==0&&(1:Int)==1&&(sIx items.size items.size hi-sIx items.size 0 lo)==items.size)=true):=by
  intro q
  rw [Bool.and_eq_true,Bool.and_eq_true] at q
  have q1:((sIx items.size 0 lo:Nat):Int)=0:=eq_of_beq q.1.1
  have q2:sIx items.size items.size hi-sIx items.size 0 lo=items.size:=eq_of_beq q.2
  exact hw ⟨by omega,by omega⟩
 show wpAny _ _ (if (((sIx items.size 0 lo:Nat):Int)==0&&(1:Int)==1&&(sIx items.size items.size hi-sIx items.size 0 lo)==items.size)=true then _ else _) _ _ s
 rw [if_neg hno,yx9]
 first
  |exact wpAny_bind (m:=Builtin.Tuple.tupleExact _) (wpAny_newObj_type (wpAny_pure ⟨_,rfl,wpAny_pure h⟩) htake)
  |exact wpAny_bind (m:=Builtin.Tuple.tupleExact _) (wpAny_newObj_type (wpAny_bind (wpAny_pure (wpAny_pure ⟨_,rfl,wpAny_pure h⟩))) htake)
  |exact wpAny_bind (wpAny_bind (m:=Builtin.Tuple.tupleExact _) (wpAny_newObj_type (wpAny_pure (wpAny_pure ⟨_,rfl,wpAny_pure h⟩)) htake))
  |exact wpAny_bind (wpAny_bind (m:=Builtin.Tuple.tupleExact _) (wpAny_newObj_type (wpAny_pure ⟨_,rfl,wpAny_pure h⟩) htake))
end
end HT
namespace L2
open PySem PySem.Spec PyProof.Rows
abbrev TO:=St->Hp->(Option Int->Hp->Prop)->Prop
def POd(X:Cx)(e:Option Expr)(t:TO):Prop:=
 ∀(pins:tzB) (s:Shared) (σ:St) (H:Hp) (Q:Option Int->Hp->Prop),Inv X pins σ H s->t σ H Q->
  wpAny (model X.prog X.w) X.A (evalPart e X.env) (fun u s'=>∃o H',Inv X pins σ H' s'/\IsPart u o/\Q o H') X.xe s
structure PO(X:Cx)(e:Option Expr)(t:TO):Prop where
 go:POd X e t
instance {X:Cx} {e:Option Expr} {t:TO}:CoeFun (PO X e t) fun _=>POd X e t:=⟨PO.go⟩
def xp4:TO:=fun _ H Q=>Q none H
def wc6(t:TE):TO:=fun σ H Q=>t σ H fun x H1=>∃i,x= .int i/\Q (some i) H1
theorem zb2{ns:List Int}:∀{us:List Value},bG (ns.map V.int) us->IntsAre us ns:=by
 induction ns with
 |nil=>intro us r;rw [List.map_nil] at r;cases r;exact .nil
 | cons n ns ih=>
  intro us r
  rw [List.map_cons] at r
  cases r with
  |cons r1 r2=>
   obtain⟨t,e⟩:=r1
   subst e
   exact .cons n t (ih r2)
section
variable{X:Cx}{e:Expr}{te:TE}{lo hi:Option Expr}{tl th:TO}{pos p2:Pos}
theorem xj4:PO X none xp4:=⟨by
 intro pins s σ H Q I h
 rw [evalPart_none]
 exact wpAny_pure ⟨none,H,I,.none,h⟩⟩
theorem xj5(h:PE X e te):PO X (some e) (wc6 te):=⟨by
 intro pins s σ H Q I hw
 rw [evalPart_some]
 refine thn (h pins s σ H _ I hw) fun u s1 ⟨x,H1,I1,r1,q1⟩=> ?_
 obtain⟨i,rfl,q⟩:=q1
 obtain⟨t,rfl⟩:=r1
 exact⟨some i,H1,I1,.int i t,q⟩⟩
def SlR(X:Cx)(r:V->Option Int->Option Int->Hp->VK->Prop):Prop:=
 ∀(pins:tzB) (s:Shared) (σ:St) (H:Hp) (x:V) (v vl vu:Value) (lo hi:Option Int) (sl:Addr) (Q:VK),Inv X pins σ H s->bZ x v->s.heap.IsSliceOf sl vl vu .none->IsPart vl lo->IsPart vu hi->r x lo hi H Q->
  ∃T id,typeLookup (.type T) "__getitem__"=pure (some (.builtin id))/\s.TypeIs v T/\wpAny (model X.prog X.w) X.A (getItem v (.ref sl)) (EP X pins σ Q) X.xe s
theorem SlR.or{r r':V->Option Int->Option Int->Hp->VK->Prop}(h:SlR X r)(h':SlR X r'):SlR X (fun x lo hi H Q=>r x lo hi H Q\/r' x lo hi H Q):=by
 intro pins s σ H x v vl vu lo hi sl Q I rx hs pl pu q
 rcases q with q|q
 ·exact h pins s σ H x v vl vu lo hi sl Q I rx hs pl pu q
 ·exact h' pins s σ H x v vl vu lo hi sl Q I rx hs pl pu q
def tSl(r:V->Option Int->Option Int->Hp->VK->Prop)(te:TE)(tl th:TO):TE:=fun σ H Q=>te σ H fun x H1=>tl σ H1 fun l H2=>th σ H2 fun u H3=>r x l u H3 Q
theorem yy0{r:V->Option Int->Option Int->Hp->VK->Prop}(hr:SlR X r)(he:PE X e te)(hl:PO X lo tl)(hu:PO X hi th):PE X (.Subscript e (.Slice lo hi none p2) pos) (tSl r te tl th):=⟨by
 intro pins s σ H Q I h
 refine Subscript_ (thn (he pins s σ H _ I h) fun v s1 ⟨x,H1,I1,r1,q1⟩=> ?_)
 refine wpAny_Slice (thn (hl pins s1 σ H1 _ I1 q1) fun vl s2 ⟨l,H2,I2,pl,q2⟩=>thn (hu pins s2 σ H2 _ I2 q2) fun vu s3 ⟨u,H3,I3,pu,q3⟩=> ?_)
 rw [evalPart_none]
 refine wpAny_pure ?_
 have I4:Inv X pins σ H3 {s3 with heap:=s3.heap.push {cls:= .type "slice",data:= .fields #[vl,vu,.none]}}:=I3.kept (t':=s3.toks) fun b ob q=>Heap.get?_push_of_some _ q
 obtain⟨T,id,hT,ht,hg⟩:=hr pins {s3 with heap:=s3.heap.push {cls:= .type "slice",data:= .fields #[vl,vu,.none]}} σ H3 x v vl vu l u s3.heap.objs.size Q I4 r1 (Heap.IsSliceOf.new ..) pl pu q3
 show wpAny (model X.prog X.w) X.A (subscriptTail e (.Slice lo hi none p2) v (.ref s3.heap.objs.size)) (EP X pins σ Q) X.xe {s3 with heap:=s3.heap.push {cls:= .type "slice",data:= .fields #[vl,vu,.none]}}
 exact tail_any (ops:=[.ref s3.heap.objs.size,v]) ht hT hg (by with_unfolding_all rfl)⟩
def vR(xs:List V)(lo hi:Option Int):List V:=(xs.drop (HT.sIx xs.length 0 lo)).take (HT.sIx xs.length xs.length hi-HT.sIx xs.length 0 lo)
theorem zC(xs:List V)(lo hi:Option Int):(vR xs lo hi).length<=xs.length:=by
 unfold vR
 rw [List.length_take,List.length_drop]
 omega
def wg2(K:tz0):V->Option Int->Option Int->Hp->VK->Prop:=fun x lo hi H Q=>∃a xs,x= .ref a/\SqT K H a xs/\
 ¬(HT.sIx xs.length 0 lo=0/\HT.sIx xs.length xs.length hi=xs.length)/\∀p,H p=none->Q (.ref p) (upd H p (.tup (vR xs lo hi)))
theorem xr9:SlR X (wg2 X.K):=by
 intro pins s σ H x v vl vu lo hi sl Q I rx hs pl pu h
 obtain⟨a,xs,rfl,hx,hw,q⟩:=h
 cases rx
 obtain⟨its,r,ht,hz⟩:=I.tuple hx
 have hlen:its.toArray.size=xs.length:=by rw [List.size_toArray];exact r.length.symm
 refine⟨"tuple",_,PyProof.Rows.slot_tuple_getitem.lookup,ht.typeIs,?_⟩
 refine HT.getItem_tuple_cut ht hs pl pu (by rw [hlen];exact hw) ?_ (by rw [hlen];exact hz)
 rw [hlen]
 refine⟨.ref s.heap.objs.size,_,I.laid (t':=s.toks) (o:= .tup (vR xs lo hi)) (fun b ob q=>Heap.get?_push_of_some _ q) (Nat.le_refl _) ?_,rfl,q _ (I.hok.fresh (Nat.le_refl _))⟩
 exact⟨Nat.le_trans (zC xs lo hi) hz,_,(r.drop (HT.sIx xs.length 0 lo)).take (HT.sIx xs.length xs.length hi-HT.sIx xs.length 0 lo),IsTup.new _ _⟩
def wg3(K:tz0):R2:=fun x y H Q=>∃a b ns ms,x= .ref a/\y= .ref b/\SqT K H a (ns.map V.int)/\SqT K H b (ms.map V.int)/\Q (.bl (HT.lexLt ns ms)) H
theorem xs0(hu:X.A.units<cLine):OpR X (compareOp .Lt) (wg3 X.K):=⟨by
 intro pins s σ H x y v u Q I rx ry h
 obtain⟨a,b,ns,ms,rfl,rfl,ha,hb,q⟩:=h
 cases rx
 cases ry
 obtain⟨its,r1,p1,_⟩:=I.tuple ha
 obtain⟨its2,r2,p2,_⟩:=I.tuple hb
 have i1:IntsAre its.toArray.toList ns:=zb2 r1
 have i2:IntsAre its2.toArray.toList ms:=zb2 r2
 exact HT.lt_tupInts p1 p2 i1 i2 hu ⟨.bl (HT.lexLt ns ms),H,I,rfl,q⟩⟩
def wc7(K:tz0):R2:=fun x y H Q=>∃a b xs ys,x= .ref a/\y= .ref b/\SqT K H a xs/\SqT K H b ys/\xs≠[]/\xs.length+ys.length<=sizeLine/\
 (ys=[]->Q (.ref a) H)/\(ys≠[]->∀p,H p=none->Q (.ref p) (upd H p (.tup (xs++ys))))
theorem bG.nil_iff{xs:List V}{us:List Value}(r:bG xs us):us=[]↔xs=[]:=by
 cases r with
 |nil=>simp
 |cons _ _=>simp
theorem xj6:OpR X (binaryOp .Add) (wc7 X.K):=⟨by
 intro pins s σ H x y v u Q I rx ry h
 obtain⟨a,b,xs,ys,rfl,rfl,ha,hb,hx,hz,q1,q2⟩:=h
 cases rx
 cases ry
 obtain⟨its,r1,p1,_⟩:=I.tuple ha
 obtain⟨its2,r2,p2,_⟩:=I.tuple hb
 refine HT.cat_tup p1 p2 (fun z=>hx (r1.nil_iff.mp z)) (fun z=>⟨.ref a,H,I,rfl,q1 (r2.nil_iff.mp z)⟩) (fun z=> ?_) (by rw [<-r1.length,<-r2.length];exact hz)
 refine⟨.ref s.heap.objs.size,_,I.laid (t':=s.toks) (o:= .tup (xs++ys)) (fun b ob q=>Heap.get?_push_of_some _ q) (Nat.le_refl _) ?_,rfl,q2 (fun w=>z (r2.nil_iff.mpr w)) _ (I.hok.fresh (Nat.le_refl _))⟩
 exact⟨by rw [List.length_append];exact hz,_,r1.append r2,IsTup.new _ _⟩⟩
end
def ixN(n:Nat)(i:Int):Option Nat:=if 0<=i then(if i<n then some i.toNat else none) else if-(n:Int)<=i then some (i+n).toNat else none
def atI{α:Type}(xs:List α)(i:Int):Option α:=(ixN xs.length i).bind fun j=>xs[j]?
theorem yC{n:Nat}{i:Int}{j:Nat}(h:ixN n i=some j):seqIndex? i n=some j/\j<n/\ -(n:Int)<=i/\i<n:=by
 unfold ixN at h
 by_cases h0:0<=i
 ·rw [if_pos h0] at h
  by_cases h1:i<n
  ·rw [if_pos h1] at h
   have e:i.toNat=j:=Option.some.inj h
   exact⟨by rw [seqIndex_of h0 h1,e],by omega,by omega,h1⟩
  ·rw [if_neg h1] at h;cases h
 ·rw [if_neg h0] at h
  by_cases h1: -(n:Int)<=i
  ·rw [if_pos h1] at h
   have e:(i+n).toNat=j:=Option.some.inj h
   exact⟨by rw [seqIndex_neg (by omega) h1,e],by omega,h1,by omega⟩
  ·rw [if_neg h1] at h;cases h
theorem mE{α:Type}{xs:List α}{i:Int}{v:α}(h:atI xs i=some v):∃j,seqIndex? i xs.length=some j/\xs[j]? =some v/\j<xs.length/\ -(xs.length:Int)<=i/\i<xs.length:=by
 unfold atI at h
 cases e:ixN xs.length i with
 |none=>rw [e] at h;cases h
 |some j=>
  rw [e] at h
  obtain⟨h1,h2,h3,h4⟩:=yC e
  exact⟨j,h1,h,h2,h3,h4⟩
theorem zg4{α:Type}{xs:List α}{j:Nat}{v:α}(h:xs[j]? =some v):atI xs (j:Int)=some v:=by
 have hj:j<xs.length:=(List.getElem?_eq_some_iff.mp h).1
 have e:ixN xs.length (j:Int)=some j:=by
  unfold ixN
  rw [if_pos (by omega),if_pos (by omega)];simp
 unfold atI;rw [e];exact h
theorem zr9{α:Type}(xs:List α)(v:α):atI (xs++[v]) (-1)=some v:=by
 have hl:(xs++[v]).length=xs.length+1:=by simp
 have e:ixN (xs++[v]).length (-1)=some xs.length:=by
  unfold ixN
  rw [hl,if_neg (by decide),if_pos (by omega)]
  congr 1
  omega
 unfold atI
 rw [e]
 show(xs++[v])[xs.length]? =some v
 simp
def yO(b:Expr):Prop:=∀o i,subscripted b false o i=operate [o,i] (getItem o i)
def IxR(X:Cx)(r:R2):Prop:=
 ∀(value slice:Expr) (pins:tzB) (s:Shared) (σ:St) (H:Hp) (x y:V) (v u:Value) (Q:VK),Inv X pins σ H s->bZ x v->bZ y u->r x y H Q->
  subscripted slice false v u=operate [v,u] (getItem v u)->wpAny (model X.prog X.w) X.A (subscriptTail value slice v u) (EP X pins σ Q) X.xe s
def xx3(X:Cx)(id:String)(r:V->List V->Hp->VK->Prop):Prop:=
 ∀(pins:tzB) (s:Shared) (σ:St) (H:Hp) (x:V) (xs:List V) (v:Value) (us:List Value) (Q:VK),Inv X pins σ H s->bZ x v->bG xs us->r x xs H Q->
  wpAny (model X.prog X.w) X.A (call (.builtin id) (v::us)) (EP X pins σ Q) X.xe s
structure MtR(X:Cx)(id:String)(r:V->List V->Hp->VK->Prop):Prop where
 go:xx3 X id r
instance {X:Cx} {id:String} {r:V->List V->Hp->VK->Prop}:CoeFun (MtR X id r) fun _=>xx3 X id r:=⟨MtR.go⟩
section
variable{X:Cx}{a b:Expr}{ta tb:TE}{pos:Pos}
theorem IxR.or{r r':R2}(h:IxR X r)(h':IxR X r'):IxR X (fun x y H Q=>r x y H Q\/r' x y H Q):=by
 intro value slice pins s σ H x y v u Q I rx ry q hs
 rcases q with q|q
 ·exact h value slice pins s σ H x y v u Q I rx ry q hs
 ·exact h' value slice pins s σ H x y v u Q I rx ry q hs
theorem MtR.or{id:String}{r r':V->List V->Hp->VK->Prop}(h:MtR X id r)(h':MtR X id r'):MtR X id (fun x xs H Q=>r x xs H Q\/r' x xs H Q):=⟨by
 intro pins s σ H x xs v us Q I rx rs q
 rcases q with q|q
 ·exact h pins s σ H x xs v us Q I rx rs q
 ·exact h' pins s σ H x xs v us Q I rx rs q⟩
theorem zo8{r:R2}(hr:IxR X r)(ha:PE X a ta)(hb:PE X b tb)(hs:yO b):PE X (.Subscript a b pos) (tOp r ta tb):=⟨by
 intro pins s σ H Q I h
 exact Subscript_ (yx1 ha hb I h fun v u s2 x y H2 I2 rx ry q=>hr a b pins s2 σ H2 x y v u Q I2 rx ry q (hs _ _))⟩
def xx4(K:tz0):R2:=fun x y H Q=>∃p xs i v,x= .ref p/\y= .int i/\SqL K H p xs/\atI xs i=some v/\Q v H
def xx5(K:tz0):R2:=fun x y H Q=>∃p xs i v,x= .ref p/\y= .int i/\SqT K H p xs/\atI xs i=some v/\Q v H
def xx6:R2:=fun x y H Q=>∃z i c,x= .str z/\y= .int i/\z.length<=sizeLine/\atI z.cps.toList i=some c/\Q (.str ⟨#[c]⟩) H
theorem zg5:IxR X (xx4 X.K):=by
 intro value slice pins s σ H x y v u Q I rx ry h hs
 obtain⟨p,xs,i,z,rfl,rfl,hq,he,q⟩:=h
 cases rx
 obtain⟨t,rfl⟩:=ry
 obtain⟨its,r,pl,hz⟩:=I.list hq
 obtain⟨j,h1,h2,h3,h4,h5⟩:=mE he
 obtain⟨w,ew,rw'⟩:=r.get h2
 have hl:=r.length
 have hn:=rC
 have fin:EP X pins σ Q w s:=⟨z,H,I,rw',q⟩
 by_cases h0:0<=i
 ·have hj:i.toNat=j:=by
   rw [seqIndex_of h0 h5] at h1
   exact Option.some.inj h1
  exact item_listR pl.isList h0 (by omega) (by rw [hj];simpa using ew) fin hs
 ·have hj:(i+(its.toArray.size:Int)).toNat=j:=by
   rw [seqIndex_neg (by omega) h4] at h1
   rw [List.size_toArray,<-hl]
   exact Option.some.inj h1
  exact subscriptTail_builtinR (x:=w) pl.isList.typeIs slot_list_getitem.lookup
   (wpAny_getItem_list_neg (Q:=fun r s'=>r=w/\EP X pins σ Q r s') pl.isList (by omega) (by rw [List.size_toArray]<;>omega) (by omega) (by rw [hj];simpa using ew) ⟨rfl,fin⟩) hs
theorem xs1:IxR X (xx5 X.K):=by
 intro value slice pins s σ H x y v u Q I rx ry h hs
 obtain⟨p,xs,i,z,rfl,rfl,hq,he,q⟩:=h
 cases rx
 obtain⟨t,rfl⟩:=ry
 obtain⟨its,r,pl,hz⟩:=I.tuple hq
 obtain⟨j,h1,h2,h3,h4,h5⟩:=mE he
 obtain⟨w,ew,rw'⟩:=r.get h2
 have hl:=r.length
 have hn:=rC
 have fin:EP X pins σ Q w s:=⟨z,H,I,rw',q⟩
 exact subscriptTail_builtinR (x:=w) pl.typeIs slot_tuple_getitem.lookup
  (getItem_tuple (j:=j) (Q:=fun r s'=>r=w/\EP X pins σ Q r s') pl (by omega) (by omega) (by rw [List.size_toArray,<-hl];exact h1) (by simpa using ew) ⟨rfl,fin⟩) hs
theorem xs2:IxR X xx6:=by
 intro value slice pins s σ H x y v u Q I rx ry h hs
 obtain⟨z,i,c,rfl,rfl,hz,he,q⟩:=h
 obtain⟨t,rfl⟩:=rx
 obtain⟨t',rfl⟩:=ry
 obtain⟨j,h1,h2,h3,h4,h5⟩:=mE he
 have hl:z.cps.toList.length=z.length:=by simp [Str.length]
 rw [hl] at h1 h4 h5
 have hn:=rC
 exact tail_any (typeIs_str s z t) slot_str_getitem.lookup (getItem_str (c:=c) (by
  have e1:decide (i< -(2^63:Int))=false:=decide_eq_false (by omega)
  have e2:decide (i>=2^63)=false:=decide_eq_false (by omega)
  rw [e1,e2,Bool.or_false]) (by rw [h1];simpa using h2) ⟨.str ⟨#[c]⟩,H,I.tok _,⟨_,rfl⟩,q⟩) hs
def rIx(K:tz0):R2:=fun x y H Q=>xx4 K x y H Q\/xx5 K x y H Q\/xx6 x y H Q
theorem yn8:IxR X (rIx X.K):=zg5.or (xs1.or xs2)
theorem yh1(its:List Value)(n j:Nat)(u:Value):Obj.mapSeq (·.setIfInBounds j u) {cls:= .type "list",data:= .seq its.toArray n}={cls:= .type "list",data:= .seq (its.set j u).toArray n}:=by
 simp [Obj.mapSeq]
theorem Inv.lst{pins:tzB}{σ:St}{H:Hp}{s:Shared}{p:Addr}{xs:List V}(I:Inv X pins σ H s)(h:H p=some (.lst xs)):
  ∃(its:List Value) (n:Nat),bG xs its/\s.heap.get? p=some {cls:= .type "list",data:= .seq its.toArray n}/\xs.length<=sizeLine:=by
 obtain⟨z,its,n,r,e⟩:=I.hok p _ h
 exact⟨its,n,r,e,z⟩
theorem Inv.lstUpd{pins:tzB}{σ:St}{H:Hp}{s:Shared}{p:Addr}{xs ys:List V}{its its':List Value}{n n':Nat}{f:Obj->Obj}(I:Inv X pins σ H s)(h:H p=some (.lst xs))
  (ho:s.heap.get? p=some {cls:= .type "list",data:= .seq its.toArray n}) (hf:f {cls:= .type "list",data:= .seq its.toArray n}={cls:= .type "list",data:= .seq its'.toArray n'}) (r:bG ys its') (hz:ys.length<=sizeLine) (t:Nat):
  Inv X pins σ (upd H p (.lst ys)) {s with heap:=s.heap.update p f,toks:=t}:=by
 have e:(s.heap.update p f).get? p=some {cls:= .type "list",data:= .seq its'.toArray n'}:=by
  rw [Heap.get?_update_self f ho (by rw [hf]<;>rfl),hf]
 refine I.write (x:=p) (e:=p) (by rw [h];trivial) (.inl rfl) (fun b u hb q=>(Heap.get?_update_other _ _ (Ne.symm hb)).trans q) ⟨_,e⟩ ?_
 exact⟨hz,its',n',r,e⟩
def wc8:V->V->V->Hp->(Hp->Prop)->Prop:=fun o i v H Q=>∃p xs k j,o= .ref p/\i= .int k/\H p=some (.lst xs)/\ixN xs.length k=some j/\Q (upd H p (.lst (xs.set j v)))
theorem yy1:xw7 X wc8:=by
 intro pins s σ H o i v ov iv u Q I ro ri rv h
 obtain⟨p,xs,k,j,rfl,rfl,hp,hj,q⟩:=h
 cases ro
 obtain⟨t,rfl⟩:=ri
 obtain⟨its,n,r,ho,hz⟩:=I.lst hp
 obtain⟨h1,h2,h3,h4⟩:=yC hj
 have hl:=r.length
 have hn:=rC
 have I':Inv X pins σ (upd H p (.lst (xs.set j v))) {s with heap:=s.heap.update p (Obj.mapSeq (·.setIfInBounds j u))}:=
  I.lstUpd hp ho (yh1 its n j u) (r.set rv j) (by rw [List.length_set];exact hz) s.toks
 by_cases h0:0<=k
 ·have hk:k.toNat=j:=by
   rw [seqIndex_of h0 h4] at h1
   exact Option.some.inj h1
  exact PySem.W.ki_setAt ho h0 (by omega) (by rw [List.size_toArray,<-hl];exact h4) (by rw [hk];exact⟨_,I',q⟩)
 ·have hk:(k+(its.toArray.size:Int)).toNat=j:=by
   rw [seqIndex_neg (by omega) h3] at h1
   rw [List.size_toArray,<-hl]
   exact Option.some.inj h1
  exact PySem.W.ki_setBack ho (by omega) (by rw [List.size_toArray,<-hl];exact h3) (by omega) (by rw [hk];exact⟨_,I',q⟩)
theorem zs0(lo hi:Option Int)(n:Nat):(sliceBounds lo hi none n).1=((HT.sIx n 0 lo:Nat):Int)/\(sliceBounds lo hi none n).2.1=((HT.sIx n n hi:Nat):Int)/\(sliceBounds lo hi none n).2.2=1:=by
 refine⟨?_,?_,rfl⟩
 ·cases lo with
  |none=>simp [sliceBounds,HT.sIx]
  |some i=>
   simp only [sliceBounds,HT.sIx,Option.getD_none,show(1:Int)>0 by decide,if_true]
   by_cases h:i<0
   ·simp only [h,if_true]<;>omega
   ·simp only [h,if_false]<;>omega
 ·cases hi with
  |none=>simp [sliceBounds,HT.sIx]
  |some i=>
   simp only [sliceBounds,HT.sIx,Option.getD_none,show(1:Int)>0 by decide,if_true]
   by_cases h:i<0
   ·simp only [h,if_true]<;>omega
   ·simp only [h,if_false]<;>omega
theorem zo1(its:List Value)(lo hi:Option Int):slicePick its.toArray lo hi none=((its.drop (HT.sIx its.length 0 lo)).take (HT.sIx its.length its.length hi-HT.sIx its.length 0 lo)).toArray:=by
 obtain⟨h1,h2,h3⟩:=zs0 lo hi its.toArray.size
 unfold slicePick
 rw [h1,h2,h3]
 simp only [sliceRange_one,pick_run,List.size_toArray]<;>rfl
def wg4(K:tz0):V->Option Int->Option Int->Hp->VK->Prop:=fun x lo hi H Q=>∃a xs,x= .ref a/\SqL K H a xs/\∀p,H p=none->Q (.ref p) (upd H p (.lst (vR xs lo hi)))
theorem xj7:SlR X (wg4 X.K):=by
 intro pins s σ H x v vl vu lo hi sl Q I rx hs pl pu h
 obtain⟨a,xs,rfl,hx,q⟩:=h
 cases rx
 obtain⟨its,r,ht,hz⟩:=I.list hx
 have hlen:=r.length
 refine⟨"list",_,slot_list_getitem.lookup,ht.isList.typeIs,?_⟩
 refine wpAny_getItem_list_slice ht.isList hs pl pu .none (by simp) ?_ (by rw [List.size_toArray]<;>omega)
 rw [zo1,<-hlen]
 refine⟨.ref s.heap.objs.size,_,I.laid (t':=s.toks) (o:= .lst (vR xs lo hi)) (fun b ob q=>Heap.get?_push_of_some _ q) (Nat.le_refl _) ?_,rfl,q _ (I.hok.fresh (Nat.le_refl _))⟩
 exact⟨Nat.le_trans (zC xs lo hi) hz,_,0,(r.drop (HT.sIx xs.length 0 lo)).take (HT.sIx xs.length xs.length hi-HT.sIx xs.length 0 lo),Heap.get?_push_size _ rfl⟩
def jY:V->Bool
 | .non=>true
 | .bl _=>true
 | .int _=>true
 | .str _=>true
 |_=>false
def eqV:V->V->Bool
 | .non,.non=>true
 | .bl a,.bl b=>a==b
 | .bl a,.int b=>(if a then 1 else 0)==b
 | .int a,.bl b=>a==(if b then 1 else 0)
 | .int a,.int b=>a==b
 | .str a,.str b=>a==b
 |_,_=>false
theorem xs3{A:Around}{s:Shared}{y x:V}{u v:Value}(ry:bZ y u)(rx:bZ x v)(fy:jY y=true)(fx:jY x=true):SeqAt.EqAt A s u v (eqV y x):=by
 cases y with
 |non=>
  cases ry
  cases x with
  |non=>cases rx;exact SeqAt.EqAt.same _
  |bl b=>cases rx;exact SeqAt.EqAt.none_bool b
  |int b=>obtain⟨t,rfl⟩:=rx;exact SeqAt.EqAt.none_int b t
  |str b=>obtain⟨t,rfl⟩:=rx;exact SeqAt.EqAt.none_str b t
  |_=>exact absurd (show false=true from fx) Bool.false_ne_true
 |bl a=>
  cases ry
  cases x with
  |non=>cases rx;exact SeqAt.EqAt.bool_none a
  |bl b=>cases rx;exact SeqAt.EqAt.bool_bool a b
  |int b=>obtain⟨t,rfl⟩:=rx;exact SeqAt.EqAt.bool_int a b t
  |str b=>obtain⟨t,rfl⟩:=rx;exact SeqAt.EqAt.bool_str a b t
  |_=>exact absurd (show false=true from fx) Bool.false_ne_true
 |int a=>
  obtain⟨t',rfl⟩:=ry
  cases x with
  |non=>cases rx;exact SeqAt.EqAt.int_none a t'
  |bl b=>cases rx;exact SeqAt.EqAt.int_bool a t' b
  |int b=>obtain⟨t,rfl⟩:=rx;exact SeqAt.EqAt.int_int a t' b t
  |str b=>obtain⟨t,rfl⟩:=rx;exact SeqAt.EqAt.int_str a t' b t
  |_=>exact absurd (show false=true from fx) Bool.false_ne_true
 |str a=>
  obtain⟨t',rfl⟩:=ry
  cases x with
  |non=>cases rx;exact SeqAt.EqAt.str_none a t'
  |bl b=>cases rx;exact SeqAt.EqAt.str_bool a t' b
  |int b=>obtain⟨t,rfl⟩:=rx;exact SeqAt.EqAt.str_int a t' b t
  |str b=>obtain⟨t,rfl⟩:=rx;exact SeqAt.EqAt.str_str a t' b t
  |_=>exact absurd (show false=true from fx) Bool.false_ne_true
 |_=>exact absurd (show false=true from fy) Bool.false_ne_true
def eqU(x:V)(u:Value):Bool:=match u with
 | .none=>eqV .non x
 | .bool b=>eqV (.bl b) x
 | .int i _=>eqV (.int i) x
 | .str z _=>eqV (.str z) x
 |_=>false
theorem yn9{x y:V}{u:Value}(r:bZ y u)(f:jY y=true):eqU x u=eqV y x:=by
 cases y with
 |non=>cases r;rfl
 |bl b=>cases r;rfl
 |int i=>obtain⟨t,rfl⟩:=r;rfl
 |str z=>obtain⟨t,rfl⟩:=r;rfl
 |_=>exact absurd (show false=true from f) Bool.false_ne_true
theorem zg6{x:V}:∀{xs:List V} {us:List Value},bG xs us->xs.all jY=true->us.any (eqU x)=xs.any fun y=>eqV y x
 |_,_,.nil,_=>rfl
 |y::xs,u::us,.cons r t,f=>by
  rw [List.all_cons,Bool.and_eq_true] at f
  rw [List.any_cons,List.any_cons,yn9 r f.1,zg6 t f.2]
theorem zI{A:Around}{s:Shared}{x:V}{v:Value}(rx:bZ x v)(fx:jY x=true):∀{xs:List V} {us:List Value},bG xs us->xs.all jY=true->∀u∈us,SeqAt.EqAt A s u v (eqU x u)
 |_,_,.nil,_=>fun u hu=>by cases hu
 |y::xs,u::us,.cons r t,f=>fun u' hu=>by
  rw [List.all_cons,Bool.and_eq_true] at f
  rcases List.mem_cons.mp hu with rfl|hu
  ·rw [yn9 r f.1];exact xs3 r rx f.1 fx
  ·exact zI rx fx t f.2 u' hu
def inV(x:V)(xs:List V):Bool:=xs.any fun y=>eqV y x
def rIn(K:tz0)(neg:Bool):R2:=fun x y H Q=>∃p xs,y= .ref p/\(SqL K H p xs\/SqT K H p xs)/\jY x=true/\xs.all jY=true/\Q (.bl (if neg then !inV x xs else inV x xs)) H
theorem yo0:OpR X (compareOp .In) (rIn X.K false):=⟨by
 intro pins s σ H x y v u Q I rx ry h
 obtain⟨p,xs,rfl,hq,fx,fs,q⟩:=h
 cases ry
 rcases hq with hq|hq
 ·obtain⟨its,r,pl,hz⟩:=I.list hq
  refine SeqAt.in_listAt (eqU x) pl.isList (fun w hw=>zI rx fx r fs w (by simpa using hw)) ⟨.bl _,H,I,rfl,?_⟩
  rw [show its.toArray.any (eqU x)=its.any (eqU x) by simp,zg6 r fs]
  exact q
 ·obtain⟨its,r,pl,hz⟩:=I.tuple hq
  refine SeqAt.in_tupleAt (eqU x) pl (fun w hw=>zI rx fx r fs w (by simpa using hw)) ⟨.bl _,H,I,rfl,?_⟩
  rw [show its.toArray.any (eqU x)=its.any (eqU x) by simp,zg6 r fs]
  exact q⟩
theorem iV:CallR X (.builtin "len") (fun xs H Q=>∃p ys,xs=[.ref p]/\(SqL X.K H p ys\/SqT X.K H p ys)/\Q (.int ys.length) H):=⟨by
 intro pins s σ H xs us Q I r h
 obtain⟨p,ys,rfl,hq,q⟩:=h
 obtain⟨u,rfl,rx⟩:=lK r
 cases rx
 have hn:=rC
 rcases hq with hq|hq
 ·obtain⟨its,r',pl,hz⟩:=I.list hq
  have hlen:=r'.length
  exact Calls.call_len_list pl.isList (by simp only [List.size_toArray]<;>omega) ⟨.int ys.length,H,I.tok _,⟨s.toks+1,by rw [List.size_toArray,hlen]⟩,q⟩
 ·obtain⟨its,r',pl,hz⟩:=I.tuple hq
  have hlen:=r'.length
  exact len_tuple pl (by simp only [List.size_toArray]<;>omega) ⟨.int ys.length,H,I.tok _,⟨s.toks+1,by rw [List.size_toArray,hlen]⟩,q⟩⟩
theorem zs1:CallR X (.builtin "len") (fun xs H Q=>∃z,xs=[.str z]/\z.length<=sizeLine/\Q (.int z.length) H):=⟨by
 intro pins s σ H xs us Q I r h
 obtain⟨z,rfl,hz,q⟩:=h
 obtain⟨u,rfl,t,rfl⟩:=lK r
 have hn:=rC
 exact len_str (by omega) ⟨.int z.length,H,I.tok _,⟨_,rfl⟩,q⟩⟩
theorem CallR.or{f:Value}{r r':List V->Hp->VK->Prop}(h:CallR X f r)(h':CallR X f r'):CallR X f (fun xs H Q=>r xs H Q\/r' xs H Q):=⟨by
 intro pins s σ H xs us Q I rs q
 rcases q with q|q
 ·exact h pins s σ H xs us Q I rs q
 ·exact h' pins s σ H xs us Q I rs q⟩
theorem wH:CallR X (.type "tuple") (fun xs H Q=>∃p ys,xs=[.ref p]/\((SqL X.K H p ys/\∀l,H l=none->Q (.ref l) (upd H l (.tup ys)))\/(SqT X.K H p ys/\Q (.ref p) H))):=⟨by
 intro pins s σ H xs us Q I r h
 obtain⟨p,ys,rfl,h⟩:=h
 obtain⟨u,rfl,rx⟩:=lK r
 cases rx
 rcases h with ⟨hq,q⟩|⟨hq,q⟩
 ·obtain⟨its,r',pl,hz⟩:=I.list hq
  have hlen:=r'.length
  refine call_tuple_list pl.isList (fun h' kp=> ?_) (by simp only [List.size_toArray]<;>omega)
  have I1:Inv X pins σ H {s with heap:=h'}:=I.kept (t':=s.toks) kp
  have I2:Inv X pins σ (upd H h'.objs.size (.tup ys)) {s with heap:=h'.push {cls:= .type "tuple",data:= .seq its.toArray}}:=
   I1.laid (t':=s.toks) (fun b o e=>Heap.get?_push_of_some _ e) (Nat.le_refl _) (show dL X.prog X.w _ _ _ (.tup ys) from⟨hz,its,r',IsTup.new _ _⟩)
  exact⟨.ref h'.objs.size,_,I2,rfl,q _ (I1.hok.fresh (Nat.le_refl _))⟩
 ·obtain⟨its,r',pl,hz⟩:=I.tuple hq
  exact call_tuple_same pl ⟨.ref p,H,I,rfl,q⟩⟩
def tyV(K:tz0)(T:String)(x:V)(H:Hp):Prop:=match x with
 | .str _=>T="str"
 | .int _=>T="int"
 | .ref p=>(T="list"/\∃xs,SqL K H p xs)\/(T="tuple"/\∃o,K.lookup p=some o/\o.cls= .type "tuple"/\o.dict=none)\/
   (T="dict"/\((∃kvs,H p=some (.dK kvs))\/∃kvs,H p=some (.dT kvs)))\/(T="set"/\∃S n,H p=some (.set S n))
 |_=>False
theorem yo1{pins:tzB}{σ:St}{H:Hp}{s:Shared}{T:String}{x:V}{v:Value}(I:Inv X pins σ H s)(r:bZ x v)(ty:tyV X.K T x H):
  s.TypeIs v T/\∀a,v= .ref a->∃ob,s.heap.get? a=some ob/\ob.dict=none:=by
 cases x with
 |str z=>
  obtain⟨t,rfl⟩:=r
  cases(show T="str" from ty)
  exact⟨typeIs_str s z t,fun _ e=>nomatch e⟩
 |int i=>
  obtain⟨t,rfl⟩:=r
  cases(show T="int" from ty)
  exact⟨typeIs_int s i t,fun _ e=>nomatch e⟩
 | ref p=>
  cases r
  rcases ty with ⟨rfl,xs,hq⟩|⟨rfl,o,hk,hc,hd⟩|⟨rfl,hk⟩|⟨rfl,S,n,hk⟩
  ·obtain⟨its,_,pl,_⟩:=I.list hq
   refine⟨pl.isList.typeIs,fun a e=> ?_⟩
   cases e
   obtain⟨o,n,e,c,hd,_⟩:=pl
   exact⟨o,e,hd⟩
  ·refine⟨⟨o,I.kIn p o hk,hc⟩,fun a e=> ?_⟩
   cases e
   exact⟨o,I.kIn _ o hk,hd⟩
  ·have z:∃o,s.heap.get? p=some o/\o.ExactDict:=by
    rcases hk with ⟨kvs,hk⟩|⟨kvs,hk⟩
    ·obtain⟨_,_,_,_,o,_,_,e,ex,_⟩:=I.hok p _ hk
     exact⟨o,e,ex⟩
    ·obtain⟨_,_,_,_,o,_,_,e,ex,_⟩:=I.hok p _ hk
     exact⟨o,e,ex⟩
   obtain⟨o,e,ex⟩:=z
   refine⟨⟨o,e,ex.1⟩,fun a e2=> ?_⟩
   cases e2
   exact⟨o,e,ex.2.1⟩
  ·obtain⟨o,_,_,_,e,ex,_⟩:=I.hok p _ hk
   refine⟨⟨o,e,ex.1⟩,fun a e2=> ?_⟩
   cases e2
   exact⟨o,e,ex.2.1⟩
 |_=>exact False.elim ty
def wg5(K:tz0)(T:String)(r:V->List V->Hp->VK->Prop)(to:TE):TE:=fun σ H Q=>to σ H fun x H1=>tyV K T x H1/\r x [] H1 Q
def tBM(K:tz0)(T:String)(r:V->List V->Hp->VK->Prop)(to:TE)(t:TA):TE:=fun σ H Q=>to σ H fun x H1=>tyV K T x H1/\t σ H1 fun xs H2=>r x xs H2 Q
variable{o e:Expr}{es:List Expr}{to:TE}{t:TA}{name:Str}{apos cpos:Pos}{T id:String}{r:V->List V->Hp->VK->Prop}
theorem xs4(pa:PlainAttrs T)(slot:Slot T name id)(hty:typeOf (.builtin id)=pure (.type "method_descriptor"))(hm:MtR X id r)(ho:PE X o to)
  (hbase:attributeBase o name X.env (eval o X.env)=eval o X.env:=by rfl) (hline:(apos.endLine==cpos.line)=true:=by rfl):PE X (.Call (.Attribute o name apos) [] [] cpos) (wg5 X.K T r to):=⟨by
 intro pins s σ H Q I h
 refine wpAny_Call_method0_late hbase hline (thn (ho pins s σ H _ I h) fun v s1 ⟨x,H1,I1,r1,ty,q1⟩=> ?_)
 obtain⟨h1,h2⟩:=yo1 I1 r1 ty
 exact⟨T,id,pa,slot,hty,h1,h2,Calls.callWith_builtin rfl (PySem.evalArgs_none (hm pins s1 σ H1 x [] v [] Q I1 r1 .nil q1))⟩⟩
theorem xg3(pa:PlainAttrs T)(slot:Slot T name id)(hty:typeOf (.builtin id)=pure (.type "method_descriptor"))(hm:MtR X id r)(ho:PE X o to)(ha:PA X (e::es) t)
  (hbase:attributeBase o name X.env (eval o X.env)=eval o X.env:=by rfl)
  (hfew:((backTo cpos (starEach (e::es) X.env)).all (fun x=> !x.1)&&(backToKw cpos (keywordEach [] X.env)).all (fun x=>x.1.isSome)
   &&decide ((e::es).length+([]:List Keyword).length+(if ([]:List Keyword).isEmpty then 0 else 1)<30))=true:=by rfl)
  (hline:(apos.endLine==cpos.line)=true:=by rfl) (hs:starEach (e::es) X.env=(false,eval e X.env)::starEach es X.env:=by rfl) (hplain:(backTo cpos (starEach es X.env)).any (·.1)=false:=by rfl):
  PE X (.Call (.Attribute o name apos) (e::es) [] cpos) (tBM X.K T r to t):=⟨by
 intro pins s σ H Q I h
 refine wpAny_Call_method_late hbase hfew hline rfl (thn (ho pins s σ H _ I h) fun v s1 ⟨x,H1,I1,r1,ty,q1⟩=> ?_)
 obtain⟨h1,h2⟩:=yo1 I1 r1 ty
 refine⟨T,id,pa,slot,hty,h1,h2,?_⟩
 have hA:=ha cpos pins s1 σ H1 _ I1 q1
 rw [hs] at hA|-
 refine Calls.callWith_builtin (by show(false||(backTo cpos (starEach es X.env)).any (·.1))=false;rw [hplain]<;>rfl) (Calls.evalArgs_plain ?_)
 exact thn hA fun us s2 ⟨vs,H2,I2,r2,q2⟩=>hm pins s2 σ H2 x vs v us Q I2 r1 r2 q2⟩
end
theorem bG.one:∀{x:V} {us:List Value},bG [x] us->∃u,us=[u]/\bZ x u
 |_,_,.cons r .nil=>⟨_,rfl,r⟩
theorem bG.zero:∀{us:List Value},bG [] us->us=[]
 |_,.nil=>rfl
theorem bG.dropLast{xs:List V}{us:List Value}(h:bG xs us):bG xs.dropLast us.dropLast:=by
 induction h with
 |nil=>exact .nil
 |cons r t ih=>
  cases t with
  |nil=>exact .nil
  |cons q t'=>exact .cons r ih
theorem bG.eraseIdx:∀{xs:List V} {us:List Value} (i:Nat),bG xs us->bG (xs.eraseIdx i) (us.eraseIdx i)
 |_,_,_,.nil=> .nil
 |_,_,0,.cons _ t=>t
 |_,_,i+1,.cons r t=> .cons r (bG.eraseIdx i t)
theorem bG.reverse{xs:List V}{us:List Value}(h:bG xs us):bG xs.reverse us.reverse:=by
 induction h with
 |nil=>exact .nil
 |cons r t ih=>rw [List.reverse_cons,List.reverse_cons];exact bG.append ih (.cons r .nil)
theorem bG.rep{xs:List V}{us:List Value}(h:bG xs us):∀k:Nat,bG (List.replicate k xs).flatten (List.replicate k us).flatten
 |0=> .nil
 |k+1=>by
  rw [List.replicate_succ,List.replicate_succ,List.flatten_cons,List.flatten_cons]
  exact bG.append h (bG.rep h k)
theorem yh2{α:Type}(l:List α):l.eraseIdx (l.length-1)=l.dropLast:=by
 induction l with
 |nil=>rfl
 | cons a r ih=>
  cases r with
  |nil=>rfl
  | cons b r=>
   have e:(a::b::r).length-1=((b::r).length-1)+1:=by
    have h1:(a::b::r).length=r.length+2:=rfl
    have h2:(b::r).length=r.length+1:=rfl
    omega
   rw [e,List.eraseIdx_cons_succ,ih]
   all_goals rfl
theorem zk1(its:List Value):∀(k:Nat) (acc:List Value),
  List.foldl (fun x1 x2=>x1++x2) acc.toArray (List.replicate k its.toArray)=(acc++(List.replicate k its).flatten).toArray
 |0,acc=>by simp
 | k+1,acc=>by
  have e:acc.toArray++its.toArray=(acc++its).toArray:=by simp
  have e2:(acc++its)++(List.replicate k its).flatten=acc++(List.replicate (k+1) its).flatten:=by
   rw [List.replicate_succ,List.flatten_cons,List.append_assoc]
  rw [<-e2,<-zk1 its k (acc++its),<-e,List.replicate_succ,List.foldl_cons]
section
variable{X:Cx}{pins:tzB}{σ:St}{H:Hp}{s:Shared}{l b:Addr}{xs ys zs:List V}
theorem Inv.lset{its its':List Value}{n:Nat}{f:Array Value->Array Value}{t':Nat}(I:Inv X pins σ H s)(hH:H l=some (.lst xs))
  (e:s.heap.get? l=some {cls:= .type "list",data:= .seq its.toArray n}) (hf:f its.toArray=its'.toArray) (hv:bG ys its') (hz:ys.length<=sizeLine):
  Inv X pins σ (upd H l (.lst ys)) {s with heap:=s.heap.update l (Obj.mapSeq f),toks:=t'}:=by
 have q:=PySem.IsL.update e f
 rw [hf] at q
 refine I.write (x:=l) (e:=l) (by rw [hH];exact trivial) (.inl rfl) (fun b' u hb hu=>(Heap.get?_update_other s.heap (Obj.mapSeq f) (Ne.symm hb)).trans hu) ⟨_,q⟩ ?_
 exact⟨hz,its',_,hv,q⟩
theorem Inv.lnew{its:List Value}{t':Nat}(I:Inv X pins σ H s)(hv:bG ys its)(hz:ys.length<=sizeLine):
  Inv X pins σ (upd H s.heap.objs.size (.lst ys)) {s with heap:=s.heap.push {cls:= .type "list",data:= .seq its.toArray},toks:=t'}:=
 I.laid (fun _ _ q=>Heap.get?_push_of_some _ q) (Nat.le_refl _) ⟨hz,its,0,hv,Heap.get?_push_size _ rfl⟩
theorem Inv.fresh(I:Inv X pins σ H s):H s.heap.objs.size=none:=I.hok.fresh (Nat.le_refl _)
theorem Inv.lstM(I:Inv X pins σ H s)(hH:H l=some (.lst xs)):xs.length<=sizeLine/\∃(its:List Value) (n:Nat),bG xs its/\xs.length=its.length/\s.heap.get? l=some {cls:= .type "list",data:= .seq its.toArray n}:=by
 obtain⟨z,its,n,r,e⟩:=I.hok l _ hH
 exact⟨z,its,n,r,r.length,e⟩
theorem yy2{n:Nat}(h:n<=sizeLine):Builtin.List.listTooLong n=false:=by
 unfold Builtin.List.listTooLong
 exact decide_eq_false (by omega)
end
section
variable{X:Cx}
def xp5:V->List V->Hp->VK->Prop:=fun x vs H Q=>∃l xs y,x= .ref l/\vs=[y]/\H l=some (.lst xs)/\xs.length<sizeLine/\Q .non (upd H l (.lst (xs++[y])))
theorem zk2:MtR X "list.append" xp5:=⟨by
 intro pins s σ H x vs v us Q I rx rv h
 obtain⟨l,xs,y,rfl,rfl,hH,hz,q⟩:=h
 cases rx
 obtain⟨u,rfl,ru⟩:=rv.one
 obtain⟨z,its,n,r,hl,e⟩:=I.lstM hH
 refine call_meets F.slot_list_append ⟨_,e,rfl⟩ F.entry_list_append (F.args_list_append_2 _ _) (PySem.list_append l its.toArray n u (by rw [List.size_toArray];omega)) ⟨e,?_⟩
 refine⟨.non,_,I.lset (its':=its++[u]) hH e (by simp) (r.append (.cons ru .nil)) ?_,rfl,q⟩
 rw [List.length_append,List.length_singleton]
 omega⟩
def wg6:V->List V->Hp->VK->Prop:=fun x vs H Q=>∃l xs y,x= .ref l/\vs=[]/\H l=some (.lst xs)/\xs[xs.length-1]? =some y/\Q y (upd H l (.lst xs.dropLast))
theorem xs5:MtR X "list.pop" wg6:=⟨by
 intro pins s σ H x vs v us Q I rx rv h
 obtain⟨l,xs,y,rfl,rfl,hH,hy,q⟩:=h
 cases rx
 have hus:=rv.zero
 subst hus
 obtain⟨z,its,n,r,hl,e⟩:=I.lstM hH
 obtain⟨u,hu,ru⟩:=r.get hy
 have hy':its.toArray[its.toArray.size-1]? =some u:=by
  show its.toArray[its.length-1]? =some u
  rw [<-Array.getElem?_toList,<-hl]
  exact hu
 refine call_meets F.slot_list_pop ⟨_,e,rfl⟩ F.entry_list_pop (F.args_list_pop_1 _) (MeetsSeq.list_pop_last l its.toArray n u hy' (by rw [List.size_toArray];omega)) ⟨e,?_⟩
 refine⟨y,_,I.lset (its':=its.dropLast) hH e ?_ r.dropLast ?_,ru,q⟩
 ·show its.toArray.eraseIdxIfInBounds (its.toArray.size-1)=its.dropLast.toArray
  rw [List.size_toArray,List.eraseIdxIfInBounds_toArray,yh2]
 ·rw [List.length_dropLast]
  omega⟩
theorem xj8{α:Type}(xs:List α)(k:Nat):(List.replicate k xs).flatten.length=k*xs.length:=by
 induction k with
 |zero=>simp
 |succ k ih=>rw [List.replicate_succ,List.flatten_cons,List.length_append,ih,Nat.succ_mul,Nat.add_comm]
end
end L2
namespace Att
open PySem PySem.W PySem.Calls PyProof.Rows
theorem zb3{P:Params}{h:Heap}:∀(ns:List Int) (vs:List Value),WellAll P h vs (ns.map WData.int)->IntsAre vs ns:=by
 intro ns
 induction ns with
 |nil=>
  intro vs w
  rw [List.map_nil] at w
  cases w
  exact .nil
 | cons n ns ih=>
  intro vs w
  rw [List.map_cons] at w
  cases w with
  |cons a b=>
   cases a
   exact .cons _ _ (ih _ b)
theorem yo2{l:OpenLaw}{n:Nat}(hn:l.most=some n){P:Params}{h:Heap}{args:List WData}{vals:List Value}
  (hpre:l.row.toRowW.claim.pre args=true) (hwl:WellAll P h vals args):
  ∃a vs ns,vals=[Value.ref a]/\args=[WData.list (ns.map WData.int)]/\h.get? a=some {cls:= .type "list",data:= .seq vs.toArray}/\IntsAre vs ns/\ns.length<=n:=by
 have hsh:WShape.hasAll [] args [.list .int]=true:=(pre_splitW hpre).1
 have hc:l.pre.holds [] {args:=args}=true:=(pre_splitW hpre).2
 obtain⟨d,r,rfl,h1,h2⟩:=hasAllW_cons hsh
 obtain rfl:=hasAllW_nil h2
 obtain⟨xs,rfl,h3⟩:=hasW_list h1
 obtain⟨ns,rfl⟩:=items_int h3
 have hlen:ns.length<=n:=by
  unfold OpenLaw.pre at hc
  have h4:(WTm.not (.lt (.lit (.int (n:Int))) (.len (.arg 0)))).holds [] {args:=[.list (ns.map .int)]}=true:=by
   have h4:=(holds_andW hc).1
   rw [hn] at h4
   exact h4
  have h5:=condW_of h4 (w_not (w_lt w_lit (w_len_list (w_arg rfl))))
  rw [List.length_map] at h5
  refine Nat.le_of_not_lt fun q=> ?_
  have q':(n:Int)<((ns.length:Nat):Int):=by omega
  first
   |(rw [decide_eq_true q'] at h5;exact absurd h5 (by decide))
   |(simp at h5;omega)
 cases hwl with
 |cons w1 w2=>
  cases w2
  cases w1 with
  |list ho hall=>exact⟨_,_,ns,rfl,rfl,ho,zb3 ns _ hall,hlen⟩
theorem yo3(l:OpenLaw)(args:List WData):l.row.toRowW.claim.post args (.bool true) args=true:=
 postW_of (r:=l.row.toRowW) (X:=(true==true))
  (show WShape.has [] (.bool true) .bool=true by first|rfl|decide|simp [WShape.has,WShape.arms,WShape.armsAll])
  (show(WTm.eq .res (.lit (.bool true))).value [] {args:=args,res:=some (.bool true),after:=args}=some (.bool (true==true)) from w_eq_bool (w_res rfl) w_lit) rfl
theorem attach_call{l:OpenLaw}{n:Nat}{q:Program}{loose:List Str}{XP:(tzA)->Heap->Prop}{YP:World->Heap->Prop}{d:DefRec}
  (hn:l.most=some n) (hdf:d.params.defaults=[])
  (call:∀(w:World) (s₀ s₁:Shared) (mg mb:tzA) (fa:Addr) (o:Obj) (pm cd doc:Value) (a:Addr) (vs:List Value) (ns:List Int),
   Ground q loose [] XP w s₀ mg mb s₁.heap->YP w s₁.heap->
   s₁.heap.get? fa=some o->o.data= .func (docDef d.name d.params d.body d.scope pm cd doc)->s₁.heap.CodeRec cd d.name->mg d.name=some (.ref fa)->
   s₁.heap.get? a=some {cls:= .type "list",data:= .seq vs.toArray}->IntsAre vs ns->ns.length<=n->s₁.gens= #[]->
   codeAny (model l.prog w) callerA (.call (.ref fa) ⟨[.ref a],[]⟩) (fun r s'=>r= .ok (.ret (.bool true))/\OldK s₁.heap s'.heap/\s'.os=s₁.os/\AllBare s'.gens) s₁):
  WalkO q loose XP YP l.row.toRowW d [] (fun f vs=>PySem.call f vs):=by
 intro w s₀ s₁ mg mb G Y fa o pm cd doc dV kV ho hd hcd hD hmg hg args vals as hpre hlay hrd hwl hlo
 obtain rfl:dV= .none:=Dflts.none hD hdf
 obtain rfl:kV= .none:=Dflts.noKw hD
 obtain⟨a,vs,ns,rfl,rfl,hobj,hints,hlen⟩:=yo2 hn hpre hwl
 refine enter_call (codeAny_mono (call w s₀ s₁ mg mb fa o pm cd doc a vs ns G Y ho (fd_plain hd) hcd hmg hobj hints hlen hg) fun r s' hq=> ?_)
 obtain⟨rfl,h2,h3,h4⟩:=hq
 exact⟨.inl ⟨.bool true,.bool true,[],rfl,fun _=>rfl,.bool true,yo3 l _,fun _=>⟨List.Pairwise.nil,fun _ hm=>(nomatch hm)⟩⟩,h2,h3,h4⟩
end Att
namespace L2
open PySem PySem.Spec PyProof.Rows
theorem zk3:∀{vs:List Value} {ns:List Int},IntsAre vs ns->bG (ns.map V.int) vs
 |_,_,.nil=> .nil
 |_,_,.cons n t h=> .cons ⟨t,rfl⟩ (zk3 h)
def xe8(H:Hp):Prop:=∀b,H b=none\/∃o xs,H b=some (.frz o (.lst xs))
theorem yy3{P:Program}{w:World}{K:tz0}{mg mb:tzA}{CX:CXT}{k:Nat}{fa a:Addr}{fd:FuncData}{x:Str}{sp:Sp}{s₁:Shared}{vs:List Value}{ns:List Int}
  (KX:K.In s₁.heap) (hns:s₁.heap.Ns mainGlobals mg) (hb:s₁.heap.Ns builtinsNs mb) (hbb:∀x:Str,x≠"__name__"->mb x=bootBuiltins x) (hlim:s₁.heap.NoLimit) (hg:s₁.gens= #[])
  (ha:s₁.heap.get? a=some {cls:= .type "list",data:= .seq vs.toArray}) (hi:IntsAre vs ns) (hl:ns.length<=sizeLine) (hr:Room k callerA)
  (F:∀base:Heap,K.In base->base.Ns mainGlobals mg->FnOk P w K mg base CX k fa fd [x] sp) (hbind:∀(s:Shared) (u:Value),BindsTo s fd ⟨[u],[]⟩ [(x,u)])
  (hsp:∀H:Hp,xe8 H->SqL K H a (ns.map V.int)->sp [.ref a] H (fun v _=>v= .bl true) fun _ _ _=>False)
  (hCX:∀H e s',CX [] H s₁ (fun _ _ _=>False) e s'->False):
  codeAny (model P w) callerA (.call (.ref fa) ⟨[.ref a],[]⟩) (fun r s'=>r= .ok (.ret (.bool true))/\OldK s₁.heap s'.heap/\s'.os=s₁.os/\AllBare s'.gens) s₁:=by
 have rv:=zk3 hi
 have lenV:=hi.length
 have core:∀H:Hp,xe8 H->SqL K H a (ns.map V.int)->HOk P w H s₁.heap->(∀b,H b≠none->b=a)->(H a≠none->K.lookup a=none)->
   codeAny (model P w) callerA (.call (.ref fa) ⟨[.ref a],[]⟩) (fun r s'=>r= .ok (.ret (.bool true))/\OldK s₁.heap s'.heap/\s'.os=s₁.os/\AllBare s'.gens) s₁:=by
  intro H hO hS hok hA hK
  have base_of:∀{b:Addr} {o:Obj},s₁.heap.get? b=some o->H b=none->(vP s₁.heap H).get? b=some o:=fun e n=>yw8 e n
  have noA:∀{b:Addr} {o:Obj} {es:Array DictEntry} {ep:Nat},s₁.heap.get? b=some o->o.data= .dict es ep->H b=none:=fun {b o es ep} e d=>by
   cases q:H b with
   |none=>rfl
   |some u=>
    have e':b=a:=hA b (by rw [q];simp)
    subst e'
    rw [ha] at e;cases e
    have d':Data.seq vs.toArray _=Data.dict es ep:=d
    cases d'
  have nsK:∀{b:Addr} {m:tzA},s₁.heap.Ns b m->(vP s₁.heap H).Ns b m:=fun {b m} ⟨o,es,ep,e,d,r⟩=>⟨o,es,ep,base_of e (noA e d),d,r⟩
  have hKb:K.In (vP s₁.heap H):=fun b o e=>base_of (KX b o e) (by
   cases q:H b with
   |none=>rfl
   |some u=>
    have e':b=a:=hA b (by rw [q];simp)
    subst e'
    rw [hK (by rw [q];simp)] at e;cases e)
  have hM:Mod K mg (vP s₁.heap H):=⟨hKb,nsK hns,⟨mb,nsK hb,hbb⟩,let ⟨mc,h1,h2⟩:=hlim;⟨mc,nsK h1,h2⟩⟩
  have e0:Env0 P w K mg (vP s₁.heap H) callerA [] s₁ H:=⟨rfl,hM,fun b o e=>xi5 e,Nat.le_of_eq (ym2 _ _),trivial,fun b hb=>absurd (show b∈([]:List Addr) from hb) (by simp),hok,.of_eq hg⟩
  refine codeAny_mono ((F _ hKb (nsK hns)).run callerA [] s₁ H ⟨[.ref a],[]⟩ [.ref a] [.ref a] _ _ hr e0 (hbind s₁ (.ref a)) (.cons rfl .nil) (hsp H hO hS)) fun r s' h=> ?_
  cases r with
  |error e=>exact(hCX H e s' h).elim
  | ok fl=>
   cases fl with
   |next=>exact False.elim h
   |brk=>exact False.elim h
   |cont=>exact False.elim h
   | ret u=>
    obtain⟨v,H',os,bare,un,hok',r',q⟩:=h
    have q':v= .bl true:=q
    subst q'
    obtain rfl:u=Value.bool true:=r'
    refine⟨rfl,OldK.of_keep fun b o e=> ?_,os,bare⟩
    cases q:H b with
    |none=>exact un.keep b o e q (by intro z;exact absurd (show b∈([]:List Addr) from z) (by simp)) (by simp)
    | some u=>
     rcases hO b with z|⟨ob,xs,z⟩
     ·rw [q] at z;cases z
     ·have z2:=un.frzs b ob _ z
      obtain⟨e1,_⟩:=hok b _ z
      obtain⟨e2,_⟩:=hok' b _ z2
      rw [e] at e1;cases e1
      exact e2
 cases hk:K.lookup a with
 |some o=>
  have e:=KX a o hk
  rw [ha] at e
  cases e
  refine core (fun _=>none) (fun _=> .inl rfl) (.inr ⟨_,vs.toArray,_,hk,rfl,rfl,rfl,by rw [List.size_toArray,lenV];exact hl,by simpa using rv⟩) (fun b u z=>by have z':(none:Option HO)=some u:=z;cases z') (fun b z=>absurd rfl z) fun z=>absurd rfl z
 | none=>
  refine core (fun b=>if b=a then some (.frz {cls:= .type "list",data:= .seq vs.toArray} (.lst (ns.map V.int))) else none) (fun b=> ?_) (.inl (.inr ⟨{cls:= .type "list",data:= .seq vs.toArray},if_pos rfl⟩)) (fun b u z=> ?_) (fun b z=> ?_) fun _=>hk
  ·by_cases hb:b=a
   ·exact .inr ⟨_,_,if_pos hb⟩
   ·exact .inl (if_neg hb)
  ·by_cases hb:b=a
   ·have z':=(if_pos hb).symm.trans z
    cases z'
    subst hb
    exact⟨ha,by rw [List.length_map];exact hl,vs,_,rv,ha⟩
   ·have z':=(if_neg hb).symm.trans z
    cases z'
  ·by_cases hb:b=a
   ·exact hb
   ·exact absurd (if_neg hb) z
theorem xj9{l:PySem.W.OpenLaw}{n k:Nat}{q:Program}{loose:List Str}{XP:(tzA)->Heap->Prop}{YP:World->Heap->Prop}{d:DefRec}{K:Params->tz0}{CX:World->CXT}{sp:World->Sp}{x:Str}
  (hn:l.most=some n) (hn2:n<=sizeLine) (hdf:d.params.defaults=[]) (hr:Room k callerA)
  (hY:∀(w:World) (h:Heap),YP w h->(K w.params).In h)
  (F:∀(w:World) (mg:tzA) (fa:Addr) (h:Heap),(K w.params).In h->h.Ns mainGlobals mg->mg d.name=some (.ref fa)->
   ∃fd:FuncData,(∀(s:Shared) (u:Value),BindsTo s fd ⟨[u],[]⟩ [(x,u)])/\
    ∀base:Heap,(K w.params).In base->base.Ns mainGlobals mg->FnOk l.prog w (K w.params) mg base (CX w) k fa fd [x] (sp w))
  (hsp:∀(w:World) (H:Hp) (a:Addr) (ns:List Int),ns.length<=n->xe8 H->SqL (K w.params) H a (ns.map V.int)->sp w [.ref a] H (fun v _=>v= .bl true) fun _ _ _=>False)
  (hCX:∀(w:World) (H:Hp) (s:Shared) (e:Value) (s':Shared),CX w [] H s (fun _ _ _=>False) e s'->False):
  PySem.W.WalkO q loose XP YP l.row.toRowW d [] (fun f vs=>PySem.call f vs):=by
 refine Att.attach_call hn hdf fun w s₀ s₁ mg mb fa o pm cd doc a vs ns G Y ho hd hcd hmg hobj hints hlen hg=> ?_
 have KX:=hY w _ Y
 obtain⟨fd,hb,hF⟩:=F w mg fa _ KX G.T.g hmg
 exact yy3 KX G.T.g G.T.b G.T.builtins G.T.nolimit hg hobj hints (Nat.le_trans hlen hn2) hr hF hb (fun H hO hS=>hsp w H a ns hlen hO hS) fun H e s'=>hCX w H s₁ e s'
def oF(s:Stmt)(j:Nat):Stmt:=match s with
 | .ClassDef _ _ _ body _ _ _ _ _ _ _=>body.getD j (.Pass ⟨0,0,0,0⟩)
 |_=> .Pass ⟨0,0,0,0⟩
def uS(s:Stmt):Arguments:=match s with
 | .FunctionDef _ a _ _ _ _ _ _ _ _=>a
 |_=>{posonlyargs:=[],args:=[],vararg:=none,kwonlyargs:=[],kw_defaults:=[],kwarg:=none,defaults:=[]}
def mO(s:Stmt):List Stmt:=match s with
 | .FunctionDef _ _ b _ _ _ _ _ _ _=>b
 |_=>[]
def aX(s:Stmt):Scope:=match s with
 | .FunctionDef _ _ _ _ _ _ sc _ _ _=>sc
 |_=>{kind:= .function,names:=[],isGenerator:=false,isCoroutine:=false}
abbrev CX0:CXT:=fun _ _ _ _ _ _=>False
abbrev E0:XK:=fun _ _ _=>False
theorem zb4{X:Cx}:pG CX0 X E0:=fun _ _ _ _ _ _ _ h=>h.elim
structure Fun(K:tz0)(x qual:Str)(st:Stmt)(f:Addr)(fd:FuncData):Prop where
 ex:∃(oc:Value) (od:Option Addr) (kV doc pm:Value) (an:Option Addr) (cdv ct:Value) (osl:Array (Option Value)),
  fd=PySem.W.fnOf x qual (uS st) (mO st) (aX st) .none kV doc pm an cdv ct/\K.lookup f=some ⟨oc,od,.func fd,osl⟩/\PySem.W.codeIn K cdv qual=true
 kp:PySem.W.keepIn K (.ref f)=true
section
variable{P:Program}{w:World}{K:tz0}{mg:tzA}{base:Heap}
theorem Fun.ok{x qual:Str}{st:Stmt}{f:Addr}{fd:FuncData}{N ps:List Str}{k:Nat}{sp:Sp}(F:Fun K x qual st f fd)(S:FnScope N ps (aX st))(len:∀vs H Q E,sp vs H Q E->vs.length=ps.length)
  (hbody:∀(cdv:Value) (A:Around) (outer:List Env) (s:Shared) (H:Hp) (vs:List V) (Q:VK) (E:XK),Room k (A.deeper (envOfC qual (aX st) s.heap.objs.size f cdv))->sp vs H Q E->
   ∃t,PSs (xO CX0 P w K mg base N qual (aX st) f cdv A outer s H E).nox (mO st) t/\t {nx:=fun _ H'=>Q .non H',rt:=Q} (start N vs) H):FnOk P w K mg base CX0 (k+1) f fd ps sp:=by
 obtain⟨oc,od,kV,doc,pm,an,cdv,ct,osl,rfl,lk,hcd⟩:=F.ex
 refine xz9 lk hcd S len fun A outer s H vs Q E hr hsp=> ?_
 obtain⟨t,h,q⟩:=hbody cdv A outer s H vs Q E hr hsp
 exact⟨t,h.nox,q⟩
theorem Fun.binds{x qual:Str}{st:Stmt}{f:Addr}{fd:FuncData}{ps:List Str}(F:Fun K x qual st f fd)
  (h:∀(kV doc pm:Value) (an:Option Addr) (cdv ct:Value) (us:List Value),us.length=ps.length->bindArgs (PySem.W.fnOf x qual (uS st) (mO st) (aX st) .none kV doc pm an cdv ct) ⟨us,[]⟩=pure (ps.zip us)):jX K fd ps []:=by
 obtain⟨oc,od,kV,doc,pm,an,cdv,ct,osl,rfl,lk,hcd⟩:=F.ex
 exact .all (h kV doc pm an cdv ct)
theorem yo4{x qual:Str}{st:Stmt}{f:Addr}{oc:Value}{od an:Option Addr}{osl:Array (Option Value)}{kV doc pm cdv ct:Value}(l:K.lookup f=some ⟨oc,od,.func (PySem.W.fnOf x qual (uS st) (mO st) (aX st) .none kV doc pm an cdv ct),osl⟩)
  (c:PySem.W.codeIn K cdv qual=true) (k:PySem.W.keepIn K (.ref f)=true):Fun K x qual st f (PySem.W.fnOf x qual (uS st) (mO st) (aX st) .none kV doc pm an cdv ct):=⟨⟨oc,od,kV,doc,pm,an,cdv,ct,osl,rfl,l,c⟩,k⟩
end
theorem mT{A:Around}{k:Nat}(hr:Room k A):A.units+1<cLine:=Nat.lt_of_le_of_lt (Nat.add_le_add_left (by decide:1<=64) _) hr.units
theorem sI{n:Nat}(h:n<=1000):n<sizeLine:=Nat.lt_of_le_of_lt h (by decide)
section
variable{X:Cx}
theorem pv(i:Nat){x:Str}{pos:Pos}(hN:X.N[i]? =some x:=by rfl)(hv:Vis X.env.scope x:=by first|exact Or.inl rfl|exact Or.inr (Or.inl rfl)|exact Or.inr (Or.inr rfl))(hd:(x==("__debug__":Str))=false:=by decide)
  (hcd:(x==("__classdict__":Str))=false:=by decide):PE X (.Name x pos) (xw5 i):=uB hN hv hd hcd
end
theorem wd8{c A B:Prop}[Decidable c](h1:c->A)(h2:¬c->B):if c then A else B:=by
 by_cases h:c
 ·rw [if_pos h]
  exact h1 h
 ·rw [if_neg h]
  exact h2 h
def kK(H H':Hp):Prop:=∀b o,H b=some o->H' b=some o
theorem kK.refl(H:Hp):kK H H:=fun _ _ h=>h
theorem kK.trans{H H1 H2:Hp}(a:kK H H1)(b:kK H1 H2):kK H H2:=fun c o h=>b c o (a c o h)
theorem kK.free{H H':Hp}(e:kK H H'){l:Addr}(h:H' l=Option.none):H l=Option.none:=by
 cases q:H l with
 |none=>rfl
 |some o=>
  rw [e l o q] at h
  cases h
theorem kK.seq{K:tz0}{H H':Hp}{a:Addr}{xs:List V}(e:kK H H')(h:SqL K H a xs):SqL K H' a xs:=by
 rcases h with (h|⟨o,h⟩)|h
 ·exact .inl (.inl (e _ _ h))
 ·exact .inl (.inr ⟨o,e _ _ h⟩)
 ·exact .inr h
section
variable{κ:Type}[DecidableEq κ]
def jS(kvs:List (κ×V))(k:κ):Option V:=(kvs.find? fun kv=>decide (kv.1=k)).map (·.2)
def iE(kvs:List (κ×V))(k:κ)(v:V):List (κ×V):=
 if (kvs.any fun kv=>decide (kv.1=k))=true then kvs.map (fun kv=>if kv.1=k then(kv.1,v) else kv) else kvs++[(k,v)]
def xh6(kvs:List (κ×V))(k:κ):List (κ×V):=kvs.filter fun kv=>decide (kv.1≠k)
theorem rE{p:κ×V}{r:List (κ×V)}{k:κ}(e:p.1=k):jS (p::r) k=some p.2:=by simp [jS,List.find?_cons,e]
theorem rF{p:κ×V}{r:List (κ×V)}{k:κ}(e:¬p.1=k):jS (p::r) k=jS r k:=by simp [jS,List.find?_cons,e]
theorem zJ(k:κ):∀kvs:List (κ×V),(kvs.any fun kv=>decide (kv.1=k))=(jS kvs k).isSome
 |[]=>rfl
 |p::r=>by
  rw [List.any_cons]
  by_cases e:p.1=k
  ·simp only [rE e,decide_eq_true e,Bool.true_or,Option.isSome_some]
  ·rw [rF e,decide_eq_false e,Bool.false_or];exact zJ k r
theorem zD(kvs:List (κ×V))(k:κ)(v:V):(iE kvs k v).length<=kvs.length+1:=by
 unfold iE
 split
 ·rw [List.length_map];omega
 ·rw [List.length_append,List.length_cons,List.length_nil];omega
theorem iQ.isSome_eq{o:Option V}{u:Option Value}(r:iQ o u):o.isSome=u.isSome:=by
 cases o with
 |none=>cases u with
  |none=>rfl
  |some _=>exact(show False from r).elim
 |some _=>cases u with
  |none=>exact(show False from r).elim
  |some _=>rfl
theorem iQ.getD{o:Option V}{u:Option Value}{d:V}{d':Value}(r:iQ o u)(rd:bZ d d'):bZ (o.getD d) (u.getD d'):=by
 cases o with
 |none=>cases u with
  |none=>exact rd
  |some _=>exact(show False from r).elim
 |some _=>cases u with
  |none=>exact(show False from r).elim
  |some _=>exact r
theorem KV.val{kvs:List (κ×V)}{vs:List (κ×Value)}(r:KV kvs vs)(k:κ):iQ (jS kvs k) (valueAt vs k):=by
 unfold KV at r
 induction r with
 |nil=>exact True.intro
 | @cons p q ps qs h t ih=>
  obtain⟨h1,h2⟩:=h
  by_cases e:p.1=k
  ·have e':q.1=k:=h1.symm.trans e
   have b:valueAt (q::qs) k=some q.2:=by simp [valueAt,List.find?_cons,e']
   rw [rE e,b];exact h2
  ·have e':¬q.1=k:=fun z=>e (h1.trans z)
   have b:valueAt (q::qs) k=valueAt qs k:=by simp [valueAt,List.find?_cons,e']
   rw [rF e,b];exact ih
theorem KV.any{kvs:List (κ×V)}{vs:List (κ×Value)}(r:KV kvs vs)(k:κ):(kvs.any fun kv=>decide (kv.1=k))=vs.any fun kv=>decide (kv.1=k):=by
 unfold KV at r
 induction r with
 |nil=>rfl
 |cons h t ih=>rw [List.any_cons,List.any_cons,ih,h.1]
theorem KV.repl{kvs:List (κ×V)}{vs:List (κ×Value)}(r:KV kvs vs)(k:κ){y:V}{u:Value}(ry:bZ y u):
  KV (kvs.map fun kv=>if kv.1=k then(kv.1,y) else kv) (vs.map fun kv=>if kv.1=k then(kv.1,u) else kv):=by
 unfold KV at r|-
 induction r with
 |nil=>exact .nil
 | @cons p q ps qs h t ih=>
  rw [List.map_cons,List.map_cons]
  refine .cons ?_ ih
  obtain⟨h1,h2⟩:=h
  by_cases e:p.1=k
  ·rw [if_pos e,if_pos (h1.symm.trans e)];exact⟨h1,ry⟩
  ·rw [if_neg e,if_neg (fun z=>e (h1.trans z))];exact⟨h1,h2⟩
theorem KV.put{kvs:List (κ×V)}{vs:List (κ×Value)}(r:KV kvs vs)(k:κ){y:V}{u:Value}(ry:bZ y u):KV (iE kvs k y) (stored vs k u):=by
 unfold iE stored
 rw [r.any k]
 by_cases e:(vs.any fun kv=>decide (kv.1=k))=true
 ·rw [if_pos e,if_pos e];exact r.repl k ry
 ·rw [if_neg e,if_neg e];exact Paired.snoc r ⟨rfl,ry⟩
theorem KV.drop{kvs:List (κ×V)}{vs:List (κ×Value)}(r:KV kvs vs)(k:κ):KV (xh6 kvs k) (without vs k):=by
 unfold KV at r|-
 unfold xh6 without
 induction r with
 |nil=>exact .nil
 | @cons p q ps qs h t ih=>
  obtain⟨h1,h2⟩:=h
  rw [List.filter_cons,List.filter_cons]
  by_cases e:p.1=k
  ·have a:¬decide (p.1≠k)=true:=by simp [e]
   have b:¬decide (q.1≠k)=true:=by simp [h1.symm.trans e]
   rw [if_neg a,if_neg b];exact ih
  ·have e':¬q.1=k:=fun z=>e (h1.trans z)
   have a:decide (p.1≠k)=true:=by simp [e]
   have b:decide (q.1≠k)=true:=by simp [e']
   rw [if_pos a,if_pos b];exact .cons ⟨h1,h2⟩ ih
theorem KV.keys{kvs:List (κ×V)}{vs:List (κ×Value)}(r:KV kvs vs):kvs.map (·.1)=vs.map (·.1):=by
 unfold KV at r
 induction r with
 |nil=>rfl
 |cons h t ih=>rw [List.map_cons,List.map_cons,ih,h.1]
theorem KV.length{kvs:List (κ×V)}{vs:List (κ×Value)}(r:KV kvs vs):kvs.length=vs.length:=Paired.length r
end
theorem zb5{P:Program}{w:World}{k:Key}{u:Value}(r:bZ (kV k) u):(eC P w).is k u=true:=by
 cases k with
 |inl i=>obtain⟨t,e⟩:=(show ∃t,u=Value.int i t from r);subst e;exact zz9 P w i t
 |inr x=>obtain⟨t,e⟩:=(show ∃t,u=Value.str x t from r);subst e;exact ya0 P w x t
theorem zk4{P:Program}{w:World}:∀{ks:List Key} {us:List Value},bG (ks.map kV) us->ItemsAre (eC P w) ks us
 |[],_,r=>by rw [List.map_nil] at r;cases r;exact .nil
 |k::ks,_,r=>by
  rw [List.map_cons] at r
  cases r with
  |cons h t=>exact .cons (zb5 h) (zk4 t)
abbrev KT(H:Hp):List (List Key×V)->List (List Key×Addr×Value)->Prop:=Paired fun p q=>p.1=q.1/\H q.2.1=some (.tup (p.1.map kV))/\bZ p.2 q.2.2
theorem KT.val{H:Hp}{kvs:List (List Key×V)}{xs:List (List Key×Addr×Value)}(r:KT H kvs xs)(k:List Key):iQ (jS kvs k) ((atKey xs k).map (·.2)):=by
 induction r with
 |nil=>exact True.intro
 | @cons p q ps qs h t ih=>
  obtain⟨h1,_,h2⟩:=h
  by_cases e:p.1=k
  ·have e':q.1=k:=h1.symm.trans e
   have b:atKey (q::qs) k=some q.2:=by simp [atKey,List.find?_cons,e']
   rw [rE e,b];exact h2
  ·have e':¬q.1=k:=fun z=>e (h1.trans z)
   have b:atKey (q::qs) k=atKey qs k:=by simp [atKey,List.find?_cons,e']
   rw [rF e,b];exact ih
theorem KT.repl{H:Hp}{kvs:List (List Key×V)}{xs:List (List Key×Addr×Value)}(r:KT H kvs xs)(k:List Key){y:V}{u:Value}(ry:bZ y u):
  KT H (kvs.map fun kv=>if kv.1=k then(kv.1,y) else kv) (xs.map (putAt k u)):=by
 induction r with
 |nil=>exact .nil
 | @cons p q ps qs h t ih=>
  rw [List.map_cons,List.map_cons]
  refine .cons ?_ ih
  obtain⟨h1,h2,h3⟩:=h
  unfold putAt
  by_cases e:p.1=k
  ·rw [if_pos e,if_pos (h1.symm.trans e)];exact⟨h1,h2,ry⟩
  ·rw [if_neg e,if_neg (fun z=>e (h1.trans z))];exact⟨h1,h2,h3⟩
theorem KT.put{H:Hp}{kvs:List (List Key×V)}{xs:List (List Key×Addr×Value)}(r:KT H kvs xs)(k:List Key){b:Addr}{y:V}{u:Value}(hb:H b=some (.tup (k.map kV)))(ry:bZ y u):
  KT H (iE kvs k y) (storedH xs k b u):=by
 have e:(kvs.any fun kv=>decide (kv.1=k))=(atKey xs k).isSome:=by
  rw [zJ,(r.val k).isSome_eq,Option.isSome_map]
 unfold iE storedH
 rw [e]
 by_cases q:(atKey xs k).isSome=true
 ·rw [if_pos q,if_pos q];exact r.repl k ry
 ·rw [if_neg q,if_neg q];exact Paired.snoc r ⟨rfl,hb,ry⟩
theorem KT.keeps{H H':Hp}{kvs:List (List Key×V)}{xs:List (List Key×Addr×Value)}(r:KT H kvs xs)(ht:∀b ys,H b=some (.tup ys)->H' b=some (.tup ys)):KT H' kvs xs:=
 Paired.mapP r fun _ _ z=>⟨z.1,ht _ _ z.2.1,z.2.2⟩
section
variable{P:Program}{w:World}{H:Hp}{h:Heap}{a:Addr}
theorem xg4{u:HO}(ok:HOk P w H h)(e:Rd H a u):dL P w H h a u:=e.ok ok
theorem uX{kvs:List (Key×V)}(ok:HOk P w H h)(e:Rd H a (.dK kvs)):kvs.length<=sizeLine/\(a==sysModules)=false/\∃vs,KV kvs vs/\h.DictOf (eC P w) a vs:=
 show dL P w H h a (.dK kvs) from xg4 ok e
theorem wa0{kvs:List (Key×V)}(ok:HOk P w H h)(e:H a=some (.dK kvs)):kvs.length<=sizeLine/\(a==sysModules)=false/\∃vs,KV kvs vs/\h.DictOf (eC P w) a vs:=uX ok (.inl e)
theorem wV{ks:List Key}(ok:HOk P w H h)(e:H a=some (.tup (ks.map kV))):(tupleKind (eC P w)).is h ks a:=by
 obtain⟨_,its,r,o,h1,h2,n,h3⟩:=(show dL P w H h a (.tup (ks.map kV)) from ok a _ e)
 exact⟨o,its.toArray,n,h1,h2,h3,by simpa using zk4 r⟩
theorem yD{kvs:List (List Key×V)}(ok:HOk P w H h)(e:Rd H a (.dT kvs)):kvs.length<=sizeLine/\(a==sysModules)=false/\
  ∃xs,KT H kvs xs/\h.DictOfH (tupleKind (eC P w)) a xs:=by
 obtain⟨z,y,xs,r,o,es,ep,h1,h2,h3,h4,h5⟩:=(show dL P w H h a (.dT kvs) from xg4 ok e)
 refine⟨z,y,xs,r,o,es,ep,h1,h2,h3,h4,fun x hx=> ?_,h5⟩
 have all:∀{l:List (List Key×V)} {m:List (List Key×Addr×Value)},KT H l m->∀x∈m,(tupleKind (eC P w)).is h x.1 x.2.1:=by
  intro l m q
  induction q with
  |nil=>intro x hx;exact nomatch hx
  | @cons p q ps qs hq t ih=>
   intro x hx
   rcases List.mem_cons.mp hx with e|hx
   ·subst e
    exact wV ok (by rw [<-hq.1];exact hq.2.1)
   ·exact ih x hx
 exact all r x hx
theorem wa1{kvs:List (List Key×V)}(ok:HOk P w H h)(e:H a=some (.dT kvs)):kvs.length<=sizeLine/\(a==sysModules)=false/\
  ∃xs,KT H kvs xs/\h.DictOfH (tupleKind (eC P w)) a xs:=yD ok (.inl e)
end
def qB(H:Hp)(a:Addr)(y:V)(r:Option V):Prop:=
 (∃kvs k,Rd H a (.dK kvs)/\y=kV k/\r=jS kvs k)\/∃kvs k b,Rd H a (.dT kvs)/\y= .ref b/\H b=some (.tup (k.map kV))/\r=jS kvs k
def zi6(H:Hp)(a:Addr)(y v:V)(H':Hp):Prop:=
 (∃kvs k,H a=some (.dK kvs)/\y=kV k/\kvs.length<sizeLine/\H'=upd H a (.dK (iE kvs k v)))\/
 ∃kvs k b,H a=some (.dT kvs)/\y= .ref b/\H b=some (.tup (k.map kV))/\kvs.length<sizeLine/\H'=upd H a (.dT (iE kvs k v))
theorem qB.k{H:Hp}{a:Addr}{kvs:List (Key×V)}{k:Key}(e:H a=some (.dK kvs)):qB H a (kV k) (jS kvs k):= .inl ⟨kvs,k,.inl e,rfl,rfl⟩
theorem qB.t{H:Hp}{a b:Addr}{kvs:List (List Key×V)}{k:List Key}(e:H a=some (.dT kvs))(eb:H b=some (.tup (k.map kV))):qB H a (.ref b) (jS kvs k):= .inr ⟨kvs,k,b,.inl e,rfl,eb,rfl⟩
theorem zi6.k{H:Hp}{a:Addr}{kvs:List (Key×V)}{k:Key}{v:V}(e:H a=some (.dK kvs))(hl:kvs.length<sizeLine):zi6 H a (kV k) v (upd H a (.dK (iE kvs k v))):= .inl ⟨kvs,k,e,rfl,hl,rfl⟩
theorem zi6.t{H:Hp}{a b:Addr}{kvs:List (List Key×V)}{k:List Key}{v:V}(e:H a=some (.dT kvs))(eb:H b=some (.tup (k.map kV)))(hl:kvs.length<sizeLine):
  zi6 H a (.ref b) v (upd H a (.dT (iE kvs k v))):= .inr ⟨kvs,k,b,e,rfl,eb,hl,rfl⟩
section
variable{X:Cx}{pins:tzB}{σ:St}{H:Hp}{s:Shared}{a:Addr}{y v:V}{u r:Value}{o:Option V}{A:Around}{E:Value->Shared->Prop}
theorem Inv.big(I:Inv X pins σ H s):sysModules<s.heap.objs.size:=by
 have h:mainGlobals<s.heap.objs.size:=(I.mod.glob.keeps I.bk).lt
 exact Nat.lt_trans (by decide) h
theorem yo5{Q:Value->Shared->Prop}(hu:A.units+1<cLine)(I:Inv X pins σ H s)(g:qB H a y (some v))(ry:bZ y u)(h:∀w' s',Inv X pins σ H s'->bZ v w'->Q w' s'):
  wpAny (model X.prog X.w) A (getItem (.ref a) u) Q E s:=by
 rcases g with ⟨kvs,k,e,ey,l⟩|⟨kvs,k,b,e,ey,eb,l⟩
 ·subst ey
  obtain⟨z,hd,vs,rel,dd⟩:=uX I.hok e
  obtain⟨w',hw,rw'⟩:=iQ.some_of (v:=v) (o:=valueAt vs k) (by rw [l];exact rel.val k)
  exact wpAny_getItem_of (zb5 ry) dd.mapOf hw (h w' _ (I.tok _) rw')
 ·subst ey
  cases(show u=Value.ref b from ry)
  obtain⟨z,hd,xs,rel,dd⟩:=yD I.hok e
  obtain⟨w',hw,rw'⟩:=iQ.some_of (v:=v) (o:=(atKey xs k).map (·.2)) (by rw [l];exact rel.val k)
  obtain⟨p,hp,hp2⟩:=Option.map_eq_some_iff.mp hw
  refine wpAny_getItem_heap (tupleKind_room_in1 hu) (wV I.hok eb) dd hp ?_
  rw [hp2]
  exact h w' _ (I.tok _) rw'
theorem xk0{Q:Value->Shared->Prop}(hu:A.units+1<cLine)(I:Inv X pins σ H s)(g:qB H a y o)(ry:bZ y u)(h:∀s',Inv X pins σ H s'->Q (.bool (!o.isSome)) s'):
  wpAny (model X.prog X.w) A (compareOp .NotIn u (.ref a)) Q E s:=by
 rcases g with ⟨kvs,k,e,ey,l⟩|⟨kvs,k,b,e,ey,eb,l⟩
 ·subst ey
  obtain⟨z,hd,vs,rel,dd⟩:=uX I.hok e
  refine wpAny_notIn_of (zb5 ry) hd dd.mapOf ?_
  rw [<-(rel.val k).isSome_eq,<-l]
  exact h _ (I.tok _)
 ·subst ey
  cases(show u=Value.ref b from ry)
  obtain⟨z,hd,xs,rel,dd⟩:=yD I.hok e
  refine wpAny_notIn_heap (tupleKind_room_in1 hu) (wV I.hok eb) hd dd ?_
  have q:=(rel.val k).isSome_eq
  rw [Option.isSome_map] at q
  rw [<-q,<-l]
  exact h _ (I.tok _)
theorem yb9{h':Heap}{t':Nat}{ob:HO}(I:Inv X pins σ H s)(mu:Mut (H a))(hs:Heap.SameBut a s.heap h')(he:∃q,h'.get? a=some q)(new:dL X.prog X.w (upd H a ob) h' a ob):
  Inv X pins σ (upd H a ob) {s with heap:=h',toks:=t'}:=
 I.write (x:=a) (e:=a) mu (.inl rfl) (fun b q hb z=>(hs.2 b hb).trans z) he new
theorem xs6{P:Program}{w:World}{H':Hp}{h':Heap}{kvs:List (Key×V)}{vs:List (Key×Value)}(z:kvs.length<=sizeLine)(hd:(a==sysModules)=false)(rel:KV kvs vs)(dd:h'.DictOf (eC P w) a vs):
  dL P w H' h' a (.dK kvs):=⟨z,hd,vs,rel,dd⟩
theorem yo6{H':Hp}{Q:Unit->Shared->Prop}(hu:A.units+1<cLine)(I:Inv X pins σ H s)(g:zi6 H a y v H')(ry:bZ y u)(rv:bZ v r)(h:∀s',Inv X pins σ H' s'->Q () s'):
  wpAny (model X.prog X.w) A (setItem (.ref a) u r) Q E s:=by
 rcases g with ⟨kvs,k,e,ey,l,eH⟩|⟨kvs,k,b,e,ey,eb,l,eH⟩
 ·subst ey eH
  obtain⟨z,hd,vs,rel,dd⟩:=wa0 I.hok e
  have hz:vs.length<=sizeLine:=by rw [<-rel.length];exact z
  have hl:(iE kvs k v).length<=sizeLine:=by have:=zD kvs k v;omega
  refine wpAny_setItem_pairs (hsz:=hz) (zb5 ry) dd fun h' dd' hs=>h _ ?_
  have he:∃q,h'.get? a=some q:=let ⟨q,_,_,hq,_⟩:=dd';⟨q,hq⟩
  exact yb9 I (by rw [e];exact True.intro) hs he (xs6 hl hd (rel.put k rv) dd')
 ·subst ey eH
  cases(show u=Value.ref b from ry)
  obtain⟨z,hd,xs,rel,dd⟩:=wa1 I.hok e
  have hz:xs.length<=sizeLine:=by rw [<-Paired.length rel];exact z
  have hl:(iE kvs k v).length<=sizeLine:=by have:=zD kvs k v;omega
  refine wpAny_setItem_heap (hsz:=hz) (tupleKind_room_in1 hu) (wV I.hok eb) dd fun h' dd' hs=>h _ ?_
  obtain⟨q,es,ep,hq,h2,h3,h4,_,h5⟩:=dd'
  refine yb9 I (by rw [e];exact True.intro) hs ⟨q,hq⟩ ⟨hl,hd,_,(rel.put k eb rv).keeps fun c ys ec=> ?_,q,es,ep,hq,h2,h3,h4,h5⟩
  rw [bF (xz2 ec e (fun z=>nomatch z))]
  exact ec
end
def xe9(i:Expr):Prop:=∀ov iv,subscripted i false ov iv=operate [ov,iv] (getItem ov iv)
theorem xk1{prog:Program}{w:World}{A:Around}{E:Value->Shared->Prop}{s:Shared}{env:Env}{value slice:Expr}{pos:Pos}{T id:String}{Q:Value->Shared->Prop}
  (hl:typeLookup (.type T) "__getitem__"=pure (some (.builtin id))) (hs:xe9 slice)
  (h:wpAny (model prog w) A (eval value env) (fun o s₁=>wpAny (model prog w) A (eval slice env) (fun i s₂=>s₂.TypeIs o T/\wpAny (model prog w) A (getItem o i) Q E s₂) E s₁) E s):
  wpAny (model prog w) A (eval (.Subscript value slice pos) env) Q E s:=by
 refine Subscript_ (wpAny_mono h (fun o s₁ h₁=>wpAny_mono h₁ (fun i s₂ h₂=> ?_) fun _ _ x=>x) fun _ _ x=>x)
 obtain⟨hT,h₂⟩:=h₂
 unfold subscriptTail
 refine wpAny_bind ?_
 rw [getitemInPython_of_ne hT.not_modules]
 refine wpAny_bind (wpAny_specialOf hT hl ?_)
 have fin:wpAny (model prog w) A (subscripted slice false o i) (fun r s₃=>wpAny (model prog w) A (letTemporaryGo value o r>>=fun _=>pure r) Q E s₃) E s₂:=by
  rw [hs o i]
  exact wpAny_operating (wpAny_mono h₂ (fun r s₃ h₃=>wpAny_bind (wpAny_letTemporaryGo (wpAny_pure h₃))) fun _ _ x=>x)
 first
  |exact wpAny_pure (wpAny_bind fin)
  |exact wpAny_bind (wpAny_pure (wpAny_bind fin))
  |exact wpAny_bind fin
theorem ya1{X:Cx}{pins:tzB}{σ:St}{H:Hp}{s:Shared}{a:Addr}{y:V}{o:Option V}(I:Inv X pins σ H s)(g:qB H a y o):s.TypeIs (.ref a) "dict":=by
 rcases g with ⟨kvs,k,e,_,_⟩|⟨kvs,k,b,e,_,_,_⟩
 ·obtain⟨_,_,vs,_,dd⟩:=uX I.hok e
  exact dd.typeIs
 ·obtain⟨_,_,xs,_,dd⟩:=yD I.hok e
  exact dd.typeIs
def wc9(td ty:TE):TE:=fun σ H Q=>td σ H fun x H1=>ty σ H1 fun y H2=>∃a v,x= .ref a/\qB H2 a y (some v)/\Q v H2
def xp6(ty td:TE):TE:=fun σ H Q=>ty σ H fun y H1=>td σ H1 fun x H2=>∃a o,x= .ref a/\qB H2 a y o/\Q (.bl (!o.isSome)) H2
def wd0(td ty tv:TE):TS:=fun D σ H=>tv σ H fun v H1=>td σ H1 fun x H2=>ty σ H2 fun y H3=>∃a H4,x= .ref a/\zi6 H3 a y v H4/\D.nx σ H4
section
variable{X:Cx}{o i e value:Expr}{pos pos' tpos:Pos}{td ty tv:TE}
theorem xk2(hu:X.A.units+1<cLine)(ho:PE X o td)(hi:PE X i ty)(hs:xe9 i):PE X (.Subscript o i pos) (wc9 td ty):=⟨by
 intro pins s σ H Q I h
 refine xk1 PySem.F.slot_dict_getitem.lookup hs (thn (ho pins s σ H _ I h) fun u s1 ⟨x,H1,I1,rx,q1⟩=>thn (hi pins s1 σ H1 _ I1 q1) fun iv s2 ⟨y,H2,I2,ry,a,v,ex,g,q2⟩=> ?_)
 subst ex
 obtain rfl:u=Value.ref a:=rx
 exact⟨ya1 I2 g,yo5 hu I2 g ry fun w' s3 I3 rw'=>⟨v,H2,I3,rw',q2⟩⟩⟩
theorem yo7(hu:X.A.units+1<cLine)(hi:PE X i ty)(ho:PE X o td):PC X .NotIn i o (xp6 ty td):=by
 intro pins s σ H Q I h
 refine thn (hi pins s σ H _ I h) fun iv s1 ⟨y,H1,I1,ry,q1⟩=>thn (ho pins s1 σ H1 _ I1 q1) fun u s2 ⟨x,H2,I2,rx,a,ov,ex,g,q2⟩=> ?_
 subst ex
 obtain rfl:u=Value.ref a:=rx
 exact xk0 hu I2 g ry fun s3 I3=>⟨.bl (!ov.isSome),H2,I3,rfl,q2⟩
theorem xk3(hu:X.A.units+1<cLine)(ho:PE X o td)(hi:PE X i ty)(hv:PE X value tv)(hs:swapsWith value (some (.Subscript o i pos')) pos.line X.env=pure false):
  PS X (.Assign [.Subscript o i pos'] value pos) (wd0 td ty tv):=⟨by
 intro pins s σ H D I h
 refine wpAny_Assign_Subscript (thn (hv pins s σ H _ I h) fun r s1 ⟨v,H1,I1,rv,q1⟩=>thn (ho pins s1 σ H1 _ I1 q1) fun u s2 ⟨x,H2,I2,rx,q2⟩=>thn (hi pins s2 σ H2 _ I2 q2) fun iv s3 ⟨y,H3,I3,ry,a,H4,ex,g,q3⟩=> ?_) hs
 subst ex
 obtain rfl:u=Value.ref a:=rx
 exact yo6 hu I3 g ry rv fun s4 I4=>⟨σ,H4,I4,q3⟩⟩
end
theorem yy4{P:Program}{w:World}{H:Hp}(h:Heap)(hb:sysModules<h.objs.size):dL P w H (h.push {cls:= .type "dict",data:= .dict #[]}) h.objs.size (.dK []):=
 ⟨Nat.zero_le _,beq_eq_false_iff_ne.mpr (Ne.symm (Nat.ne_of_lt hb)),[],.nil,Heap.DictOf.new h⟩
def xx7:TE:=fun _ H Q=>∀p,H p=none->Q (.ref p) (upd H p (.dK []))
section
variable{X:Cx}{pos:Pos}
theorem yy5:PE X (.Dict [] [] pos) xx7:=⟨fun pins s σ H Q I h=>
 wpAny_Dict_empty ⟨.ref s.heap.objs.size,_,I.laid (a:=s.heap.objs.size) (o:= .dK []) (t':=s.toks) (fun _ _ q=>Heap.get?_push_of_some _ q) (Nat.le_refl _) (yy4 s.heap I.big),rfl,h _ (I.hok.fresh (Nat.le_refl _))⟩⟩
end
def yw3:List (TE×TE)->St->Hp->(List (V×V)->Hp->Prop)->Prop
 |[],_,H,Q=>Q [] H
 |(tk,tv)::r,σ,H,Q=>tk σ H fun x H1=>tv σ H1 fun y H2=>yw3 r σ H2 fun ps H3=>Q ((x,y)::ps) H3
abbrev VV:List (V×V)->List (Value×Value)->Prop:=Paired fun p q=>bZ p.1 q.1/\bZ p.2 q.2
def xx8(X:Cx)(pos:Pos)(keys:List (Option Expr))(values:List Expr)(trs:List (TE×TE)):Prop:=
 ∀(pins:tzB) (s:Shared) (σ:St) (H:Hp) (Q:List (V×V)->Hp->Prop),Inv X pins σ H s->yw3 trs σ H Q->
  wpAny (model X.prog X.w) X.A (evalPairs (pairTrees keys values X.env pos)) (fun vs s'=>∃ps H',Inv X pins σ H' s'/\VV ps vs/\Q ps H') X.xe s
structure PPs(X:Cx)(pos:Pos)(keys:List (Option Expr))(values:List Expr)(trs:List (TE×TE)):Prop where
 go:xx8 X pos keys values trs
instance {X:Cx} {pos:Pos} {keys:List (Option Expr)} {values:List Expr} {trs:List (TE×TE)}:CoeFun (PPs X pos keys values trs) fun _=>xx8 X pos keys values trs:=⟨PPs.go⟩
structure M1(X:Cx)(o:Expr)(m:Str)(apos:Pos)(e:Expr)(cpos:Pos):Prop where
 base:attributeBase o m X.env (eval o X.env)=eval o X.env
 few:((backTo cpos (starEach [e] X.env)).all (fun x=> !x.1)&&(backToKw cpos (keywordEach [] X.env)).all (fun x=>x.1.isSome)
  &&decide (([e]:List Expr).length+([]:List Keyword).length+(if ([]:List Keyword).isEmpty then 0 else 1)<30))=true
 line:(apos.endLine==cpos.line)=true
 trees:backTo cpos (starEach [e] X.env)=[(false,eval e X.env)]
structure M2(X:Cx)(o:Expr)(m:Str)(apos:Pos)(e f:Expr)(cpos:Pos):Prop where
 base:attributeBase o m X.env (eval o X.env)=eval o X.env
 few:((backTo cpos (starEach [e,f] X.env)).all (fun x=> !x.1)&&(backToKw cpos (keywordEach [] X.env)).all (fun x=>x.1.isSome)
  &&decide (([e,f]:List Expr).length+([]:List Keyword).length+(if ([]:List Keyword).isEmpty then 0 else 1)<30))=true
 line:(apos.endLine==cpos.line)=true
 trees:backTo cpos (starEach [e,f] X.env)=[(false,eval e X.env),(false,eval f X.env)]
def IsD(H:Hp)(a:Addr):Prop:=(∃kvs,Rd H a (.dK kvs))\/∃kvs,Rd H a (.dT kvs)
theorem xs7{X:Cx}{pins:tzB}{σ:St}{H:Hp}{s:Shared}{a:Addr}(I:Inv X pins σ H s)(d:IsD H a):
  s.TypeIs (.ref a) "dict"/\(∀b,Value.ref a= .ref b->∃ob,s.heap.get? b=some ob/\ob.dict=none)/\(a==sysModules)=false:=by
 rcases d with ⟨kvs,e⟩|⟨kvs,e⟩
 ·obtain⟨_,hd,vs,_,dd⟩:=uX I.hok e
  refine⟨dd.typeIs,fun b q=> ?_,hd⟩
  cases q
  obtain⟨ob,_,_,h1,h2,_⟩:=dd
  exact⟨ob,h1,h2.2.1⟩
 ·obtain⟨_,hd,xs,_,dd⟩:=yD I.hok e
  refine⟨dd.typeIs,fun b q=> ?_,hd⟩
  cases q
  obtain⟨ob,_,_,h1,h2,_⟩:=dd
  exact⟨ob,h1,h2.2.1⟩
section
variable{X:Cx}{pins:tzB}{σ:St}{H:Hp}{s:Shared}{a:Addr}{y d:V}{u r:Value}{o:Option V}{A:Around}{E:Value->Shared->Prop}
theorem xs8{Q:Value->Shared->Prop}(hu:A.units+1<cLine)(I:Inv X pins σ H s)(g:qB H a y o)(ry:bZ y u)(rd:bZ d r)(h:∀w' s',Inv X pins σ H s'->bZ (o.getD d) w'->Q w' s'):
  wpAny (model X.prog X.w) A (call (.builtin "dict.get") [.ref a,u,r]) Q E s:=by
 rcases g with ⟨kvs,k,e,ey,l⟩|⟨kvs,k,b,e,ey,eb,l⟩
 ·subst ey
  obtain⟨z,hd,vs,rel,dd⟩:=uX I.hok e
  refine call_meetsIn PySem.F.slot_dict_get dd.typeIs PySem.F.entry_dict_get (PySem.F.args_dict_get_3 _ _ _) (meets_dict_get_default (eC X.prog X.w) a (zb5 ry) hd r) ⟨_,dd.mapOf,h _ _ (I.tok _) ?_⟩
  rw [l]
  exact(rel.val k).getD rd
 ·subst ey
  cases(show u=Value.ref b from ry)
  obtain⟨z,hd,xs,rel,dd⟩:=yD I.hok e
  refine call_meetsIn PySem.F.slot_dict_get dd.typeIs PySem.F.entry_dict_get (PySem.F.args_dict_get_3 _ _ _) (meetsH_dict_get_default (tupleKind (eC X.prog X.w)) a b hd r) ⟨tupleKind_room_in1 hu,k,xs,wV I.hok eb,dd,h _ _ (I.tok _) ?_⟩
  rw [l]
  exact(rel.val k).getD rd
end
def xx9(td ty tx:TE):TE:=fun σ H Q=>td σ H fun x H1=>∃a,x= .ref a/\IsD H1 a/\ty σ H1 fun y H2=>tx σ H2 fun z H3=>∃o,qB H3 a y o/\Q (o.getD z) H3
section
variable{X:Cx}{o e f:Expr}{apos cpos:Pos}{td ty tx:TE}
theorem yy6(hu:X.A.units+1<cLine)(ho:PE X o td)(he:PE X e ty)(hf:PE X f tx)(m:M2 X o "get" apos e f cpos):PE X (.Call (.Attribute o "get" apos) [e,f] [] cpos) (xx9 td ty tx):=⟨by
 intro pins s σ H Q I h
 refine wpAny_Call_method m.base m.few m.line PySem.F.plainAttrs_dict PySem.F.slot_dict_get PySem.F.type_dict_get (thn (ho pins s σ H _ I h) fun u s1 ⟨x,H1,I1,rx,a,ex,d,q1⟩=> ?_)
 subst ex
 obtain rfl:u=Value.ref a:=rx
 obtain⟨t1,t2,_⟩:=xs7 I1 d
 refine⟨t1,t2,?_⟩
 rw [m.trees]
 refine Calls.callWith_builtin rfl (Calls.evalArgs_plain (Calls.spliced_cons (thn (he pins s1 σ H1 _ I1 q1) fun iv s2 ⟨y,H2,I2,ry,q2⟩=>
  Calls.spliced_cons (thn (hf pins s2 σ H2 _ I2 q2) fun fv s3 ⟨z,H3,I3,rz,ov,g,q3⟩=>Calls.spliced_nil ?_))))
 exact xs8 hu I3 g ry rz fun w' s4 I4 rw'=>⟨_,H3,I4,rw',q3⟩⟩
end
structure Dn(K:tz0)(mg:tzA)(x:Str)(st:Stmt)(ps:List Str)(f:Addr)(fd:FuncData):Prop where
 F:Fun K x x st f fd
 b:jX K fd ps []
 m:mg x=some (.ref f)
section
variable{X:Cx}{x:Str}{st:Stmt}{ps:List Str}{f:Addr}{fd:FuncData}{k:Nat}{sp:Sp}{p pos:Pos}{e:Expr}{es:List Expr}{t:TA}
theorem yh3(D:Dn X.K X.mg x st ps f fd)(G:FnOk X.prog X.w X.K X.mg X.base CX0 k f fd ps sp)(hr:Room k X.A)(hg:Gl X x)(ha:PA X (e::es) t)
  (hdb:(x==("__debug__":Str))=false:=by decide) (he:starEach (e::es) X.env=(false,eval e X.env)::starEach es X.env:=by rfl) (hpl:(backTo pos (starEach es X.env)).any (·.1)=false:=by rfl):
  PE X (.Call (.Name x p) (e::es) [] pos) (zp6 sp [] E0 t):=xj1 G hr hg D.m D.F.kp D.b .nil zb4 ha hdb he hpl
theorem xs9(D:Dn X.K X.mg x st ps f fd)(G:FnOk X.prog X.w X.K X.mg X.base CX0 k f fd ps sp)(hr:Room k X.A)(hg:Gl X x)
  (hdb:(x==("__debug__":Str))=false:=by decide):PE X (.Call (.Name x p) [] [] pos) (zp6 sp [] E0 xe7):=yx5 G hr hg D.m D.F.kp D.b .nil zb4 hdb
end
theorem kK.seqT{K:tz0}{H H':Hp}{a:Addr}{xs:List V}(e:kK H H')(h:SqT K H a xs):SqT K H' a xs:=by
 rcases h with (h|⟨o,h⟩)|h
 ·exact .inl (.inl (e _ _ h))
 ·exact .inl (.inr ⟨o,e _ _ h⟩)
 ·exact .inr h
theorem yy7{H:Hp}{p:Addr}(h:H p=none)(o:HO):kK H (upd H p o):=fun b u q=>by rw [bF (eY q h)];exact q
theorem zo9{n:Nat}(h:n<=1000):n<=sizeLine:=Nat.le_of_lt (sI h)
def kinds:List String:=["NoneType","bool","int","str","list","tuple","dict"]
section
variable{X:Cx}
def sLt(i j:Str):Bool:=decide (i.cps.toList<j.cps.toList)
theorem yo8:OpR X (compareOp .LtE) (fun x y H Q=>∃i j,x= .str i/\y= .str j/\Q (.bl (!sLt j i)) H):=⟨by
 intro pins s σ H x y v u Q I rx ry h
 obtain⟨i,j,rfl,rfl,q⟩:=h
 obtain⟨t,rfl⟩:=rx
 obtain⟨t',rfl⟩:=ry
 exact PySem.P.le_str (cQ I q rfl)⟩
theorem zk5:∀{bs:List Bool} {us:List Value},bG (bs.map V.bl) us->LSm.BoolsAre us bs
 |[],_,.nil=> .nil
 |b::bs,_,.cons r t=>by
  cases(show _=Value.bool b from r)
  exact .cons b (zk5 t)
theorem uY:∀{ns:List Int} {us:List Value},bG (ns.map V.int) us->IntsAre us ns
 |[],_,.nil=> .nil
 |n::ns,_,.cons r t=>by
  obtain⟨k,rfl⟩:=r
  exact .cons n k (uY t)
theorem yo9(hc:X.calm=true):CallR X (.builtin "all") (fun xs H Q=>∃(a:Addr) (bs:List Bool),xs=[.ref a]/\SqL X.K H a (bs.map V.bl)/\Q (.bl (bs.all id)) H):=⟨by
 intro pins s σ H xs us Q I r h
 obtain⟨a,bs,rfl,hq,q⟩:=h
 obtain⟨u,rfl,rx⟩:=lK r
 cases(show u=Value.ref a from rx)
 obtain⟨its,rv,p,hz⟩:=I.list hq
 have hl:=p.isList
 have hb:=zk5 rv
 have hlt:a<s.heap.objs.size:=by obtain⟨_,e,_⟩:=hl;exact Heap.lt_size e
 refine call_all_walk (wpAny_pyIter_list hl ?_)
 refine⟨s.heap.objs.size,[s.heap.objs.size,a],[s.heap.objs.size],its.toArray.size,_,_,fun i=>(bs[i]?).getD true,rfl,Walks.list (A:=X.A.in1) (I.ok.hd hc) _ a (Nat.ne_of_lt hlt) its.toArray,
  ⟨⟨_,Heap.get?_push_size _ rfl,rfl,rfl⟩,hl.push _⟩,fun i v s' Q' E' hP hQ=> ?_,fun h' tk hk=> ?_⟩
 ·obtain⟨b,e,rfl⟩:=hb.get i v (by simpa using hP)
  simp only [e,Option.getD_some] at hQ
  exact wpAny_truthy_bool hQ
 ·have e:((List.range its.toArray.size).all fun i=>(bs[i]?).getD true)=bs.all id:=by
   rw [List.size_toArray,hb.length];exact LSm.range_all bs
  rw [e]
  exact⟨.bl (bs.all id),H,I.kept (LSm.kept_iter hk),rfl,q⟩⟩
theorem yp0(hc:X.calm=true):CallR X (.builtin "sum") (fun xs H Q=>∃(a:Addr) (ns:List Int),xs=[.ref a]/\SqL X.K H a (ns.map V.int)/\Q (.int ns.sum) H):=⟨by
 intro pins s σ H xs us Q I r h
 obtain⟨a,ns,rfl,hq,q⟩:=h
 obtain⟨u,rfl,rx⟩:=lK r
 cases(show u=Value.ref a from rx)
 obtain⟨its,rv,p,hz⟩:=I.list hq
 have hi:=uY rv
 obtain⟨xs,hx⟩:=hi.allInts.items
 have hl':s.heap.IsList a (intItems xs):=hx▸p.isList
 refine sum_intListG (I.ok.hd hc) hl' fun h' tk t' hk=> ?_
 have e1:ns=xs.toList.map (·.1):=by
  rw [<-nums_intItems,<-hx]
  exact(show numsOf its.toArray.toList=ns from hi.numsOf).symm
 have e2:preSum (numAt xs) xs.size=ns.sum:=by
  rw [preSum_eq,List.take_of_length_le (by simp),e1]
 rw [e2]
 exact⟨.int ns.sum,H,I.kept hk,⟨_,rfl⟩,q⟩⟩
theorem yp1(hc:X.calm=true):CallR X (.builtin "max") (fun xs H Q=>∃(a:Addr) (ns:List Int),xs=[.ref a]/\SqL X.K H a (ns.map V.int)/\0<ns.length/\∀m,m∈ns->(∀n∈ns,n<=m)->Q (.int m) H):=⟨by
 intro pins s σ H xs us Q I r h
 obtain⟨a,ns,rfl,hq,hne,q⟩:=h
 obtain⟨u,rfl,rx⟩:=lK r
 cases(show u=Value.ref a from rx)
 obtain⟨its,rv,p,hz⟩:=I.list hq
 have hi:=uY rv
 obtain⟨xs,e⟩:=hi.allInts.items
 have hns:ns=xs.toList.map (·.1):=by
  rw [<-hi.numsOf,<-nums_intItems,<-e]
 have hsz:0<xs.size:=by
  have h3:=hne;rw [hns,List.length_map,Array.length_toList] at h3;exact h3
 have hl':s.heap.IsList a (intItems xs):=e▸p.isList
 refine max_intList (I.ok.hd hc) hl' hsz fun v h' tk hv hk=> ?_
 obtain⟨t,rfl⟩:=intItems_at hv
 obtain⟨h1,h2⟩:=argBest_gt (numAt xs) (xs.size-1)
 refine⟨.int _,H,I.kept hk,⟨t,rfl⟩,q _ ?_ fun b hb=> ?_⟩
 ·rw [hns,numAt_eq];exact getD_mem (by rw [List.length_map,Array.length_toList];omega)
 ·rw [hns] at hb
  obtain⟨j,hj,rfl⟩:=mem_getD hb
  rw [List.length_map,Array.length_toList] at hj
  rw [<-numAt_eq];exact h2 j (by omega)⟩
end
theorem uZ{env:Env}:∀(names:List (Str×NameKind)) (cs:List (Str×Addr)),
  (∀y∈names,y.2= .free->∃c,env.cells.lookup y.1=some c)->(∀x c,cs.lookup x=some c->env.cells.lookup x=some c)->
  ∃ cl,(forIn names cs fun(y:Str×NameKind) (r:List (Str×Addr))=>
    (if (y.2== .free)=true then(do let a<-cellOf env y.1;pure (ForInStep.yield ((y.1,a)::r))) else pure (ForInStep.yield r):Sem (ForInStep (List (Str×Addr)))))=pure cl/\
   (∀x c,cl.lookup x=some c->env.cells.lookup x=some c)/\(∀x c,cs.lookup x=some c->∃c',cl.lookup x=some c')/\(∀y∈names,y.2= .free->∃c,cl.lookup y.1=some c)
 |[],cs,_,hc=>⟨cs,rfl,hc,fun x c h=>⟨c,h⟩,fun y hy=>absurd hy (List.not_mem_nil)⟩
 | (n,k)::r,cs,hn,hc=>by
  have hr:∀y∈r,y.2= .free->∃c,env.cells.lookup y.1=some c:=fun y hy=>hn y (List.mem_cons_of_mem _ hy)
  by_cases hk:k= .free
  ·subst hk
   obtain⟨c,e⟩:=hn (n,.free) List.mem_cons_self rfl
   have hc':∀x c',((n,c)::cs).lookup x=some c'->env.cells.lookup x=some c':=fun x c' h=>by
    rw [List.lookup_cons] at h
    cases hx:x==n with
    |true=>
     rw [hx] at h
     have e1:x=n:=by simpa using hx
     have e2:c=c':=Option.some.inj h
     rw [e1,<-e2];exact e
    |false=>rw [hx] at h;exact hc x c' h
   obtain⟨cl,h1,h2,h3,h4⟩:=uZ (env:=env) r ((n,c)::cs) hr hc'
   refine⟨cl,?_,h2,fun x c' h=> ?_,fun y hy hf=> ?_⟩
   ·rw [List.forIn_cons]
    have e0:cellOf env n=pure c:=by unfold cellOf;rw [e]
    simp only [e0]
    exact h1
   ·cases hx:x==n with
    |true=>
     have e1:x=n:=by simpa using hx
     exact h3 x c (by rw [List.lookup_cons,hx])
    |false=>exact h3 x c' (by rw [List.lookup_cons,hx];exact h)
   ·rcases List.mem_cons.mp hy with e1|hy
    ·rw [e1];exact h3 n c (by rw [List.lookup_cons];simp)
    ·exact h4 y hy hf
  ·obtain⟨cl,h1,h2,h3,h4⟩:=uZ (env:=env) r cs hr hc
   refine⟨cl,?_,h2,h3,fun y hy hf=> ?_⟩
   ·rw [List.forIn_cons]
    have e0:(k==NameKind.free)=false:=by simpa using hk
    simp only [e0]
    exact h1
   ·rcases List.mem_cons.mp hy with e1|hy
    ·rw [e1] at hf;exact absurd hf hk
    ·exact h4 y hy hf
theorem yh4{env:Env}{scope:Scope}(h:∀y∈scope.names,y.2= .free->∃c,env.cells.lookup y.1=some c):
  ∃cl,closureFor scope env=pure cl/\(∀x c,cl.lookup x=some c->env.cells.lookup x=some c)/\(∀y∈scope.names,y.2= .free->∃c,cl.lookup y.1=some c):=by
 obtain⟨cl,h1,h2,_,h4⟩:=uZ (env:=env) scope.names [] h (fun x c e=>by simp at e)
 refine⟨cl,?_,h2,h4⟩
 have e:((forIn scope.names [] fun(y:Str×NameKind) (r:List (Str×Addr))=>
    (if (y.2== .free)=true then(do let a<-cellOf env y.1;pure (ForInStep.yield ((y.1,a)::r))) else pure (ForInStep.yield r):Sem (ForInStep (List (Str×Addr)))))>>=fun s=>pure s)=pure cl:=by rw [h1];rfl
 exact e
structure CScope(sc:Scope)(NX N:List Str)(pick:List (Option Nat))(scope:Scope):Prop where
 kind:scope.kind= .function
 nocell:∀y∈scope.names,y.2≠ .cell
 names:∀y∈scope.names,y.2= .local->scope.names.lookup y.1=some .local
 frees:∀y∈scope.names,y.2= .free->sc.names.lookup y.1=some .cell\/sc.names.lookup y.1=some .free
 pk:∀p∈N.zip pick,∀j∈p.2,NX[j]? =some p.1/\scope.names.lookup p.1=some .free
 nd:N.Nodup
 len:pick.length=N.length
def qC(pick:List (Option Nat))(σ:St):St:=pick.map fun o=>o.bind fun j=>(σ[j]?).join
def cxB(X:Cx)(N:List Str)(scope:Scope)(cl:List (Str×Addr))(fp:List Addr)(s:Shared)(H:Hp):Cx where
 prog:=X.prog
 w:=X.w
 K:=X.K
 mg:=X.mg
 base:=X.base
 A:=X.A
 N:=N
 s₀:=s
 H₀:=H
 env:=compEnvC scope cl s.heap.objs.size X.env
 outer:=X.stack
 stack:=X.stack
 ex:=fp
 fn:=fun _=>false
 calm:=X.calm
 pn:=[]
 xe:=fun _ _=>False
def xy0(X:Cx)(ifs:List Expr)(t:TT):Prop:=
 ∀(pins:tzB) (s:Shared) (σ:St) (H:Hp) (Q:Bool->Hp->Prop),Inv X pins σ H s->t σ H Q->
  wpAny (model X.prog X.w) X.A (forIn ifs true fun c r=>if r=true then do let ok<-isTrue c X.env (eval c X.env);pure (ForInStep.yield ok) else pure (ForInStep.yield r)) (TP X pins σ Q) X.xe s
structure PTs(X:Cx)(ifs:List Expr)(t:TT):Prop where
 go:xy0 X ifs t
instance {X:Cx} {ifs:List Expr} {t:TT}:CoeFun (PTs X ifs t) fun _=>xy0 X ifs t:=⟨PTs.go⟩
def wg7:TT:=fun _ H Q=>Q true H
theorem xt0{X:Cx}:PTs X [] wg7:=⟨fun pins s σ H Q I h=>wpAny_tests_nil ⟨H,I,h⟩⟩
section
variable{prog:Program}{w:World}{A:Around}{R:Result->Shared->Prop}{s:Shared}
theorem yp2{elt target iter:Expr}{ifs:List Expr}{scope:Scope}{pos:Pos}{it acc:Value}{env:Env}(I:Nat->Shared->Prop)
  (turn:∀n s,I n s->wpAny (model prog w) A (pyNext it) (fun r s1=>match r with
   |none=>R (.ok .next) s1
   | some v=>wpAny (model prog w) A (letOwnedTupleGo target it v) (fun _ s1=>wpAny (model prog w) A (assign target env v) (fun _ s2=>
     wpAny (model prog w) A (forIn ifs true fun c r=>if r=true then do let ok<-isTrue c env (eval c env);pure (ForInStep.yield ok) else pure (ForInStep.yield r)) (fun ok s3=>
      if ok=true then wpAny (model prog w) A (eval elt env) (fun x s4=>
       wpAny (model prog w) A (call (.builtin "list.append") [acc,x]) (fun _ s5=>∃m,m<n/\I m s5) (fun _ _=>False) s4) (fun _ _=>False) s3
      else ∃m,m<n/\I m s3) (fun _ _=>False) s2) (fun _ _=>False) s1) (fun _ _=>False) s1) (fun _ _=>False) s)
  (n:Nat) (h:I n s):codeAny (model prog w) A (.compLoop (.ListComp elt [⟨target,iter,ifs,0⟩] scope pos) 0 it acc env) R s:=by
 refine codeAny_loop rfl I (fun n s hI=> ?_) n h
 show wpAny _ A ((compTurn (.ListComp elt [⟨target,iter,ifs,0⟩] scope pos) 0 it acc env).onRaise (fun x=>do noteFrame x env;theTreesLotGoes x)) _ _ s
 refine wpAny_noted ?_
 rw [compTurn_list]
 refine wpAny_bind (wpAny_standAt (wpAny_bind (wpAny_mono (turn n s hI) (fun r s1 h1=> ?_) fun _ _ z=>z.elim)))
 cases r with
 |none=>exact wpAny_pure h1
 | some v=>
  refine wpAny_bind (wpAny_mono h1 (fun _ s1 h1=>wpAny_bind (wpAny_mono h1 (fun _ s2 h2=>wpAny_bind (wpAny_mono h2 (fun ok s3 h3=> ?_) fun _ _ z=>z.elim)) fun _ _ z=>z.elim)) fun _ _ z=>z.elim)
  cases ok with
  |false=>exact wpAny_pure ⟨rfl,h3⟩
  |true=>
   exact wpAny_bind (wpAny_bind (wpAny_mono h3 (fun x s4 h4=>wpAny_bind (wpAny_mono h4 (fun _ s5 h5=>wpAny_pure (wpAny_pure ⟨rfl,h5⟩)) fun _ _ z=>z.elim)) fun _ _ z=>z.elim))
end
def xy1(pick:List (Option Nat))(wi:TI)(g:TG)(tt:TT)(te:TE)(σ:St)(H:Hp)(Q:Addr->Hp->Prop):Prop:=wi σ H fun J H1=>∀D,H1 D=none->
 ∃ W:Nat->Nat->St->Hp->Prop,(∃m,W 0 m (qC pick σ) (upd H1 D (.lst [])))/\∀i m σ' H',W i m σ' H'->
  (J.stop i H'/\Q D H')\/(J.go i H'/\∀x H2,J.yld i H' x H2->g x σ' H2 fun σ3 H3=>tt σ3 H3 fun b H4=>
   if b=true then te σ3 H4 fun y H5=>∃ys,H5 D=some (.lst ys)/\ys.length<sizeLine/\∃m',m'<m/\W (i+1) m' σ3 (upd H5 D (.lst (ys++[y]))) else ∃m',m'<m/\W (i+1) m' σ3 H4)
def wd1(pick:List (Option Nat))(wi:TI)(g:TG)(tt:TT)(te:TE):TE:=fun σ H Q=>xy1 pick wi g tt te σ H fun D H'=>Q (.ref D) H'
section
variable{X:Cx}{sc:Scope}{NX N:List Str}{pick:List (Option Nat)}{elt tg iter:Expr}{ifs:List Expr}{scope:Scope}{pos:Pos}{wi:TI}{g:TG}{tt:TT}{te:TE}
theorem iC{env:Env}:∀{names:List (Str×NameKind)} {x:Str} {k:NameKind},(∀y∈names,y.2≠ .cell)->
  (names.map fun(n,k)=>if (k==NameKind.free&&env.scope.kind== .function&&env.kindOf n==some .cell) then(n,NameKind.cell) else(n,k)).lookup x=some k->(k= .cell\/k= .free)->(x,NameKind.free)∈names
 |[],_,_,_,h,_=>by simp at h
 | (n,k0)::r,x,k,hn,h,hk=>by
  have hr:∀y∈r,y.2≠ .cell:=fun y hy=>hn y (List.mem_cons_of_mem _ hy)
  have h':List.lookup x ((if (k0==NameKind.free&&env.scope.kind== .function&&env.kindOf n==some .cell)=true then(n,NameKind.cell) else(n,k0))::(r.map fun(n,k)=>if (k==NameKind.free&&env.scope.kind== .function&&env.kindOf n==some .cell) then(n,NameKind.cell) else(n,k)))=some k:=h
  by_cases hc:(k0==NameKind.free&&env.scope.kind== .function&&env.kindOf n==some .cell)=true
  ·rw [if_pos hc,List.lookup_cons] at h'
   cases hx:x==n with
   | true=>
    have e1:x=n:=by simpa using hx
    have e2:k0= .free:=by
     simp only [Bool.and_eq_true,beq_iff_eq] at hc
     exact hc.1.1
    rw [e1,e2];exact List.mem_cons_self
   |false=>rw [hx] at h';exact List.mem_cons_of_mem _ (iC hr h' hk)
  ·rw [if_neg hc,List.lookup_cons] at h'
   cases hx:x==n with
   | true=>
    rw [hx] at h'
    have e1:x=n:=by simpa using hx
    have e2:k0=k:=Option.some.inj h'
    have e3:k0= .free:=by
     rcases hk with z|z
     ·exact absurd (e2.trans z) (hn (n,k0) List.mem_cons_self)
     ·exact e2.trans z
    rw [e1,e3];exact List.mem_cons_self
   |false=>rw [hx] at h';exact List.mem_cons_of_mem _ (iC hr h' hk)
theorem sJ{env:Env}:∀{names:List (Str×NameKind)} {x:Str},names.lookup x=some .free->
  (names.map fun(n,k)=>if (k==NameKind.free&&env.scope.kind== .function&&env.kindOf n==some .cell) then(n,NameKind.cell) else(n,k)).lookup x=some .cell\/
  (names.map fun(n,k)=>if (k==NameKind.free&&env.scope.kind== .function&&env.kindOf n==some .cell) then(n,NameKind.cell) else(n,k)).lookup x=some .free
 |[],_,h=>by simp at h
 | (n,k0)::r,x,h=>by
  have ih:= @sJ env r x
  show List.lookup x ((if (k0==NameKind.free&&env.scope.kind== .function&&env.kindOf n==some .cell)=true then(n,NameKind.cell) else(n,k0))::_)=_\/List.lookup x ((if (k0==NameKind.free&&env.scope.kind== .function&&env.kindOf n==some .cell)=true then(n,NameKind.cell) else(n,k0))::_)=_
  rw [List.lookup_cons] at h
  cases hx:x==n with
  |true=>
   rw [hx] at h
   have e:k0= .free:=Option.some.inj h
   subst e
   by_cases hc:(NameKind.free==NameKind.free&&env.scope.kind== .function&&env.kindOf n==some .cell)=true
   ·rw [if_pos hc];left;rw [List.lookup_cons,hx]
   ·rw [if_neg hc];right;rw [List.lookup_cons,hx]
  | false=>
   rw [hx] at h
   rcases ih h with z|z
   ·left
    by_cases hc:(k0==NameKind.free&&env.scope.kind== .function&&env.kindOf n==some .cell)=true
    ·rw [if_pos hc,List.lookup_cons,hx];exact z
    ·rw [if_neg hc,List.lookup_cons,hx];exact z
   ·right
    by_cases hc:(k0==NameKind.free&&env.scope.kind== .function&&env.kindOf n==some .cell)=true
    ·rw [if_pos hc,List.lookup_cons,hx];exact z
    ·rw [if_neg hc,List.lookup_cons,hx];exact z
theorem yp3{pins:tzB}{σ:St}{H:Hp}{s:Shared}{cl:List (Str×Addr)}{fp:List Addr}{h':Heap}{tk:Nat}(S:CScope sc NX N pick scope)(hsc:X.env.scope=sc)(hNX:X.N=NX)
  (I:Inv X pins σ H s) (hf:∀b∈fp,nC X pins H b) (ho:∀b∈fp,∃o,s.heap.get? b=some o)
  (c1:∀x c,cl.lookup x=some c->X.env.cells.lookup x=some c) (c2:∀y∈scope.names,y.2= .free->∃c,cl.lookup y.1=some c)
  (hns:h'.Ns s.heap.objs.size fun _=>none) (hk:∀b o,s.heap.get? b=some o->h'.get? b=some o):
  Inv (cxB X N scope cl fp s H) [] (qC pick σ) H {s with heap:=h',toks:=tk}:=by
 have lt:∀b∈fp,b<s.heap.objs.size:=fun b hb=>by obtain⟨o,e⟩:=ho b hb;exact Heap.lt_size e
 refine⟨⟨I.ok.mod,S.kind,I.ok.glob,I.ok.blt,Nat.le_refl _,fun x y c h1 h2=>I.ok.inj x y c (c1 x c h1) (c1 y c h2),fun x hx=> ?_,fun x c z=>absurd z (by simp [cxB]),I.ok.hd,I.ok.frames,.inl rfl,
  fun b hb=>⟨Nat.ne_of_lt (lt b hb),fun x c e=>(hf b hb).2.2.2.2.1 x c (c1 x c e)⟩,I.bs,Nat.le_trans I.ok.bsz I.sz,fun b o e hb=> ?_,fun b hb z=> ?_,I.stack,I.stkFree⟩,
  rfl,I.bare,Un.kept hk,⟨_,hns,fun i x v h1 h2 h3=> ?_⟩,fun x c e=> ?_,I.hok.fresh (Nat.le_refl _),fun x c e=>I.freeC x c (c1 x c e),fun p hp=>absurd (show p∈([]:tzB) from hp) (by simp),I.hok.kept hk,?_⟩
 ·have hx':(relabel scope X.env).names.lookup x=some .cell\/(relabel scope X.env).names.lookup x=some .free:=hx
  have hm:(x,NameKind.free)∈scope.names:=by
   rcases hx' with z|z
   ·exact iC S.nocell z (.inl rfl)
   ·exact iC S.nocell z (.inr rfl)
  exact c2 _ hm rfl
 ·rcases(hf b hb).2.2.2.1 with z|z
  ·exact I.ok.noex b o e z
  ·exact absurd (Nat.lt_of_lt_of_le (Heap.lt_size e) (Nat.le_trans I.ok.bsz z)) (Nat.lt_irrefl _)
 ·rcases List.mem_cons.mp (I.stkSub b z) with z|z
  ·exact(hf b hb).2.1 z
  ·exact(hf b hb).2.2.1 z
 ·
  have hN':N[i]? =some x:=h1
  have h2':(qC pick σ)[i]? =some (some v):=h2
  unfold qC at h2'
  rw [List.getElem?_map] at h2'
  cases ep:pick[i]? with
  |none=>rw [ep] at h2';cases h2'
  | some o=>
   rw [ep] at h2'
   cases o with
   |none=>cases h2'
   | some j=>
    have h4:(σ[j]?).join=some v:=Option.some.inj h2'
    have h5:σ[j]? =some (some v):=by
     cases e:σ[j]? with
     |none=>rw [e] at h4;cases h4
     |some q=>rw [e] at h4;exact congrArg some h4
    have hz:(x,some j)∈N.zip pick:=by
     refine List.mem_of_getElem? (i:=i) ?_
     rw [List.getElem?_zip_eq_some];exact⟨hN',ep⟩
    obtain⟨h6,h7⟩:=S.pk _ hz j rfl
    have hfr:(x,NameKind.free)∈scope.names:=PySem.mem_of_lookup h7
    have hcf:=S.frees _ hfr rfl
    have hcf':X.env.kindOf x=some .cell\/X.env.kindOf x=some .free:=by
     show X.env.scope.names.lookup x=_\/X.env.scope.names.lookup x=_
     rw [hsc];exact hcf
    obtain⟨m,hn,hl⟩:=I.loc
    obtain⟨u,ru,lk⟩:=hl j x v (by rw [hNX];exact h6) h5 (.inr hcf')
    refine⟨u,ru,.inr ⟨sJ h7,?_⟩⟩
    obtain⟨c,ec⟩:=c2 _ hfr rfl
    refine⟨c,ec,?_⟩
    rcases lk with ⟨k1,_⟩|⟨_,c',ec',hcell⟩
    ·rcases hcf' with z|z
     ·rw [k1] at z;cases z
     ·rw [k1] at z;cases z
    ·have e':=c1 x c ec
     rw [ec'] at e'
     cases e'
     obtain⟨o,e1,e2⟩:=hcell
     exact⟨o,hk _ _ e1,e2⟩
 ·obtain⟨v,o,e1,e2⟩:=I.cell x c (c1 x c e)
  exact⟨v,o,hk _ _ e1,e2⟩
 ·show(qC pick σ).length=N.length
  unfold qC
  rw [List.length_map];exact S.len
theorem yh5{pins:tzB}{σ σ':St}{H H':Hp}{s s':Shared}{cl:List (Str×Addr)}{fp:List Addr}(I:Inv X pins σ H s)(hf:∀b∈fp,nC X pins H b)
  (J:Inv (cxB X N scope cl fp s H) [] σ' H' s'):Inv X pins σ H' s':=
 I.call' (ch:=fp) J.os J.base J.hok J.bare fun b hb=>⟨(hf b hb).2.2.2.1,(hf b hb).2.1,(hf b hb).2.2.2.2.1,(hf b hb).2.2.2.2.2⟩
theorem yh6{pins:tzB}{σ:St}{H2:Hp}{s2:Shared}{cl:List (Str×Addr)}{J:It}{fp:List Addr}{it:Addr}{tn:Nat->Heap->Prop}{RR:Value->Addr->Result->Shared->Prop}{E:Value->Shared->Prop}{Q:Addr->Hp->Prop}
  (S:CScope sc NX N pick scope) (hsc:X.env.scope=sc) (hNX:X.N=NX) (hc:X.calm=true)
  (hg:∀cl fp s H,PG (cxB X N scope cl fp s H) tg g) (ht:∀cl fp s H,PTs (cxB X N scope cl fp s H) ifs tt) (he:∀cl fp s H,PE (cxB X N scope cl fp s H) elt te)
  (I2:Inv X pins σ H2 s2) (T:Turn X.prog X.w X.K tg J fp it tn) (st2:tn 0 s2.heap) (f2:∀b∈fp,nC X pins H2 b)
  (c1:∀x c,cl.lookup x=some c->X.env.cells.lookup x=some c) (c2:∀y∈scope.names,y.2= .free->∃c,cl.lookup y.1=some c)
  (q:∀D,H2 D=none->∃W:Nat->Nat->St->Hp->Prop,(∃m,W 0 m (qC pick σ) (upd H2 D (.lst [])))/\∀i m σ' H',W i m σ' H'->
   (J.stop i H'/\Q D H')\/(J.go i H'/\∀x H2,J.yld i H' x H2->g x σ' H2 fun σ3 H3=>tt σ3 H3 fun b H4=>
    if b=true then te σ3 H4 fun y H5=>∃ys,H5 D=some (.lst ys)/\ys.length<sizeLine/\∃m',m'<m/\W (i+1) m' σ3 (upd H5 D (.lst (ys++[y]))) else ∃m',m'<m/\W (i+1) m' σ3 H4))
  (fin:∀D C H' s',Inv X pins σ H' s'->H' C=none->X.s₀.heap.objs.size<=C->C≠X.env.locals->(∀x c,X.env.cells.lookup x=some c->c≠C)->(∀p∈X.pn++pins,p.1≠C)->(∃m,s'.heap.Ns C m)->Q D H'->RR (.ref D) C (.ok .next) s'):
  wpAny (model X.prog X.w) X.A (newList []) (fun acc s3=>wpAny (model X.prog X.w) X.A (newFunctionEnv scope X.env.globals cl [] X.env.qual none .none (some X.env)) (fun cenv s4=>
   codeAny (model X.prog X.w) X.A (.compStart (.ListComp elt [⟨tg,iter,ifs,0⟩] scope pos) 0 (.ref it) acc {cenv with scope:=relabel scope X.env}) (RR acc cenv.locals) s4) E s3) E s2:=by
 have hD:H2 s2.heap.objs.size=none:=I2.hok.fresh (Nat.le_refl _)
 obtain⟨W,⟨m0,w0⟩,turn⟩:=q _ hD
 refine wpAny_newObj_type (wpAny_newFunctionEnv S.nocell (by intro y hy;simp at hy) (fun h1 hns hsb=> ?_) S.kind)
 have I3:Inv X pins σ (upd H2 s2.heap.objs.size (.lst [])) {s2 with heap:=s2.heap.push {cls:= .type "list",dict:=none,data:= .seq ([]:List Value).toArray}}:=
  I2.lnew (t':=s2.toks) (its:=[]) (ys:=[]) .nil (Nat.zero_le _)
 have ne:∀b∈fp,b≠s2.heap.objs.size:=fun b hb z=>by
  obtain⟨o,e,_⟩:=T.obj _ _ st2 b hb
  exact absurd (Heap.lt_size e) (by rw [z];exact Nat.lt_irrefl _)
 have f3:∀b∈fp,nC X pins (upd H2 s2.heap.objs.size (.lst [])) b:=fun b hb=>⟨by rw [bF (ne b hb)];exact(f2 b hb).1,(f2 b hb).2⟩
 have ho3:∀b∈fp,∀o,s2.heap.get? b=some o->(s2.heap.push {cls:= .type "list",dict:=none,data:= .seq ([]:List Value).toArray}).get? b=some o:=fun b _ o e=>Heap.get?_push_of_some _ e
 have st3:=T.keep _ _ _ st2 ho3
 generalize hH3:s2.heap.push {cls:= .type "list",dict:=none,data:= .seq ([]:List Value).toArray}=H3 at hns hsb I3 ho3 st3|-
 dsimp only at hns hsb|-
 have hk:∀b o,H3.get? b=some o->h1.get? b=some o:=fun b o e=>hsb.extBut b o (Nat.ne_of_lt (Heap.lt_size e)) (Heap.get?_push_of_some _ e)
 have B0:Inv (cxB X N scope cl fp {s2 with heap:=H3} (upd H2 s2.heap.objs.size (.lst []))) [] (qC pick σ) (upd H2 s2.heap.objs.size (.lst [])) {s2 with heap:=h1,toks:=s2.toks+([]:List (Str×Value)).length}:=
  yp3 (s:={s2 with heap:=H3}) S hsc hNX I3 f3 (fun b hb=>by obtain⟨o,e,_⟩:=T.obj _ _ st3 b hb;exact⟨o,e⟩) c1 c2 hns hk
 have st4:tn 0 h1:=T.keep _ _ _ st3 fun b _ o e=>hk b o e
 have fpY:∀{H':Hp},(∀b∈fp,H' b=none)->∀b∈fp,nC (cxB X N scope cl fp {s2 with heap:=H3} (upd H2 s2.heap.objs.size (.lst []))) [] H' b:=fun hn b hb=>
  ⟨hn b hb,(B0.ok.exf b hb).1,B0.ok.exfs b hb,.inl hb,(B0.ok.exf b hb).2,fun p hp=>absurd (show p∈([]:tzB) from hp) (by simp)⟩
 have loop:∀s4:Shared,s4={s2 with heap:=h1,toks:=s2.toks+([]:List (Str×Value)).length}->
   codeAny (model X.prog X.w) X.A (.compLoop (.ListComp elt [⟨tg,iter,ifs,0⟩] scope pos) 0 (.ref it) (.ref s2.heap.objs.size) (compEnvC scope cl H3.objs.size X.env)) (RR (.ref s2.heap.objs.size) H3.objs.size) s4:=by
  rintro s4 rfl
  refine yp2 (fun n s'=>∃i σ' H',Inv (cxB X N scope cl fp {s2 with heap:=H3} (upd H2 s2.heap.objs.size (.lst []))) [] σ' H' s'/\tn i s'.heap/\(∀b∈fp,H' b=none)/\W i n σ' H') ?_ m0
   ⟨0,_,_,B0,st4,fun b hb=>(f3 b hb).1,w0⟩
  rintro n s5 ⟨i,σ5,H5,I5,st5,fr5,w5⟩
  rcases turn i n σ5 H5 w5 with ⟨stop,qn⟩|⟨go,step⟩
  ·refine thn (T.done (cxB X N scope cl fp {s2 with heap:=H3} (upd H2 s2.heap.objs.size (.lst []))) rfl rfl rfl hc i [] s5 σ5 H5 _ I5 (fpY fr5) st5 stop) fun r s6 ⟨hr,I6⟩=> ?_
   subst hr
   obtain⟨m,hm,_⟩:=I6.loc
   have sz:X.s₀.heap.objs.size<=H3.objs.size:=I3.sz
   refine fin _ _ H5 s6 (yh5 I3 f3 I6) I6.free sz (Nat.ne_of_gt I3.lt) (fun x c e z=> ?_) (fun p hp z=> ?_) ⟨m,hm⟩ qn
   ·obtain⟨v,z2⟩:=I3.cell x c e
    exact absurd z2.lt (by rw [z];exact Nat.lt_irrefl _)
   ·exact absurd (Heap.lt_size (I3.pin p hp).1) (by rw [z];exact Nat.lt_irrefl _)
  ·refine thn (T.item (cxB X N scope cl fp {s2 with heap:=H3} (upd H2 s2.heap.objs.size (.lst []))) rfl rfl rfl hc i [] s5 σ5 H5 _ I5 (fpY fr5) st5 go) fun r s6 ⟨u,hr,h6⟩=> ?_
   subst hr
   refine thn h6 fun _ s7 ⟨x,H7,I7,r7,y7,st7,fr7⟩=> ?_
   have I7':=I7.pinned (fpY fr7) (T.obj _ _ st7)
   have back:∀{σ8:St} {H8:Hp} {s8:Shared},Inv (cxB X N scope cl fp {s2 with heap:=H3} (upd H2 s2.heap.objs.size (.lst []))) ([]++uR fp s7.heap) σ8 H8 s8->
     tn (i+1) s8.heap/\∀b∈fp,H8 b=none:=fun {σ8 H8 s8} I8=>by
    refine⟨T.keep _ _ _ st7 fun b hb o e=>(I8.pin (b,o) (List.mem_append_right _ (List.mem_append_right _ (qK hb e)))).1,fun b hb=> ?_⟩
    obtain⟨o,e,d⟩:=T.obj _ _ st7 b hb
    exact(I8.pin (b,o) (List.mem_append_right _ (List.mem_append_right _ (qK hb e)))).2.1
   refine thn (hg _ _ _ _ _ s7 σ5 H7 x u _ I7' r7 (step x H7 y7)) fun _ s8 ⟨σ8,H8,I8,q8⟩=> ?_
   refine thn (ht _ _ _ _ _ s8 σ8 H8 _ I8 q8) fun ok s9 ⟨H9,I9,q9⟩=> ?_
   cases ok with
   |false=>
    rw [if_neg (by decide)] at q9|-
    obtain⟨m',hm,w9⟩:=q9
    obtain⟨b1,b2⟩:=back I9
    exact⟨m',hm,i+1,σ8,H9,I9.unpinned,b1,b2,w9⟩
   | true=>
    rw [if_pos rfl] at q9|-
    refine thn (he _ _ _ _ _ s9 σ8 H9 _ I9 q9) fun v s10 ⟨y,H10,I10,ry,ys,hys,hlen,m',hm,w10⟩=> ?_
    have ap:=zk2 (X:=cxB X N scope cl fp {s2 with heap:=H3} (upd H2 s2.heap.objs.size (.lst []))) ([]++uR fp s7.heap) s10 σ8 H10 (.ref s2.heap.objs.size) [y] (.ref s2.heap.objs.size) [v]
     (fun z H'=>z= .non/\H'=upd H10 s2.heap.objs.size (.lst (ys++[y]))) I10 rfl (.cons ry .nil) ⟨_,ys,y,rfl,rfl,hys,hlen,rfl,rfl⟩
    refine thn ap fun z s11 ⟨z',H11,I11,_,_,e11⟩=> ?_
    subst e11
    obtain⟨b1,b2⟩:=back I11
    exact⟨m',hm,i+1,σ8,_,I11.unpinned,b1,b2,w10⟩
 exact codeAny_compStart_list (loop _ rfl) (T.self _ _ _ _ _ st4 (loop _ rfl))
theorem xk4(S:CScope sc NX N pick scope)(hsc:X.env.scope=sc)(hNX:X.N=NX)(hc:X.calm=true)(hi:PI X tg iter wi)
  (hg:∀cl fp s H,PG (cxB X N scope cl fp s H) tg g) (ht:∀cl fp s H,PTs (cxB X N scope cl fp s H) ifs tt) (he:∀cl fp s H,PE (cxB X N scope cl fp s H) elt te)
  (hs:∀x,foldedSetIterable iter X.env x=pure x:=by intro _;rfl):PE X (.ListComp elt [⟨tg,iter,ifs,0⟩] scope pos) (wd1 pick wi g tt te):=⟨by
 intro pins s σ H Q I h
 rw [eval_ListComp]
 have hfr:∀y∈scope.names,y.2= .free->∃c,X.env.cells.lookup y.1=some c:=fun y hy hf=>I.ok.has y.1 (by
  show X.env.scope.names.lookup y.1=_\/X.env.scope.names.lookup y.1=_
  rw [hsc];exact S.frees y hy hf)
 obtain⟨cl,hcl,c1,c2⟩:=yh4 hfr
 refine wpAny_comprehension_free (use:=none) rfl hs hcl S.kind S.names (thn (hi pins s σ H _ I h) fun v s1 h1=>thn h1 fun itv s2 h2=> ?_)
 obtain⟨it,fp,tn,J,H2,e,I2,T,st2,f2,q⟩:=h2
 subst e
 refine yh6 (RR:=fun acc C=>compPost (model X.prog X.w) X.A X.xe none (EP X pins σ Q) acc C) (Q:=fun D H'=>Q (.ref D) H') S hsc hNX hc hg ht he I2 T st2 f2 c1 c2 q ?_
 intro D C H' s' I' n1 n2 n3 n4 n5 ⟨m,hm⟩ q'
 exact⟨m,hm,fun h' hb=>⟨.ref D,H',I'.turned (t':=s'.toks) (it:=C) (fun b o hbc e=>(hb.2 b hbc).trans e) n1 n3 (.inr n2) n4 n5,rfl,q'⟩⟩⟩
end
section
variable{X:Cx}{tg:Expr}
theorem zk6:∀(l:List (Str×Tok)),bG ((l.map (·.1)).map V.str) (strValues l)
 |[]=> .nil
 |(x,t)::r=> .cons ⟨t,rfl⟩ (zk6 r)
theorem yy8:MtR X "str.split" (fun x xs H Q=>∃z y,x= .str z/\xs=[.str y]/\(y.length==0)=false/\z.length<1000000/\∀p,H p=none->Q (.ref p) (upd H p (.lst ((Txt.split z y).map V.str)))):=⟨by
 intro pins s σ H x xs v us Q I rx r h
 obtain⟨z,y,rfl,rfl,hy,hz,q⟩:=h
 obtain⟨t,rfl⟩:=rx
 obtain⟨u,rfl,t',rfl⟩:=lK r
 have hs:sizeLine=16777216:=sizeLine_eq
 have hsz:z.length<=sizeLine:=by omega
 have hoc:=StrLaws.occ_length_le_len z y 0 z.length (z.length+1)
 have hpb:(Builtin.Str.partsBetween z (Builtin.Str.occurrences z y 0 z.length (z.length+1)) y.length).length<=z.length+2:=by
  unfold Builtin.Str.partsBetween
  rw [List.length_map,List.length_zip]
  simp only [List.length_cons,List.length_map,List.length_append,List.length_nil]
  omega
 have hn:H s.heap.objs.size=none:=I.fresh
 have fin:∀(l:List (Str×Tok)) (tk:Nat),l.map (·.1)=Txt.split z y->l.length<=sizeLine->EP X pins σ Q (.ref s.heap.objs.size) {s with heap:=s.heap.push {cls:= .type "list",data:= .seq (strValues l).toArray},toks:=tk}:=fun l tk e hl=>by
  refine⟨.ref s.heap.objs.size,_,I.lnew (t':=tk) (ys:=(l.map (·.1)).map V.str) (zk6 l) (by rw [List.length_map,List.length_map];exact hl),rfl,?_⟩
  rw [e];exact q _ hn
 cases h1:(decide (z.length<y.length)||decide (Builtin.Str.strKind z<Builtin.Str.strKind y))
 ·cases hf:(Builtin.Str.occurrences z y 0 z.length (z.length+1)).isEmpty
  ·refine call_meets F.slot_str_split (typeIs_str _ _ _) F.entry_str_split (F.args_str_split_2 _ _) (meets_str_split_sep z y t t' h1 hy hf hsz (by omega)) ?_
   show wants _ _ _ {s with toks:=_,heap:=s.heap.push {cls:= .type "list",data:= .seq (strsFrom s.toks (Builtin.Str.partsBetween z (Builtin.Str.occurrences z y 0 z.length (z.length+1)) y.length)).toArray}}
   rw [strsFrom_eq]
   refine fin (numbered s.toks _) _ ((numbered_texts _ _).trans ((if_neg (ne_true_of_eq_false h1)).trans (if_neg (ne_true_of_eq_false hf))).symm) ?_
   have e:=congrArg List.length (numbered_texts s.toks (Builtin.Str.partsBetween z (Builtin.Str.occurrences z y 0 z.length (z.length+1)) y.length))
   rw [List.length_map] at e
   omega
  ·exact call_meets F.slot_str_split (typeIs_str _ _ _) F.entry_str_split (F.args_str_split_2 _ _) (meets_str_split_not_found z y t t' h1 hy hf) (fin [(z,t)] s.toks ((if_neg (ne_true_of_eq_false h1)).trans (if_pos hf)).symm (by simp;omega))
 ·exact call_meets F.slot_str_split (typeIs_str _ _ _) F.entry_str_split (F.args_str_split_2 _ _) (meets_str_split_cannot_occur z y t t' h1) (fin [(z,t)] s.toks (if_pos h1).symm (by simp;omega))⟩
end
section
variable{X:Cx}
theorem xt1:SlR X (fun x lo hi H Q=>∃z:Str,x= .str z/\z.length<=sizeLine/\Q (.str (Txt.slice z lo hi)) H):=by
 intro pins s σ H x v vl vu lo hi sl Q I rx hs pl pu h
 obtain⟨z,rfl,hz,q⟩:=h
 obtain⟨t,rfl⟩:=rx
 refine⟨"str",_,F.slot_str_getitem.lookup,typeIs_str _ _ _,?_⟩
 have fin:∀t' k,EP X pins σ Q (.str (Txt.slice z lo hi) t') {s with toks:=k}:=fun t' k=>⟨.str _,H,I.tok k,⟨_,rfl⟩,q⟩
 cases pl with
 |none=>
  cases pu with
  |none=>exact wpAny_getItem_str_slice (l:=none) (u:=none) (st:=none) hs rfl (post_val_or_str ⟨Nat.le_trans (Txt.slice_le z _ _) hz,fun t' k=>fin t' k⟩)
  |int j u=>exact wpAny_getItem_str_slice (l:=none) (u:=some (j,u)) (st:=none) hs rfl (post_val_or_str ⟨Nat.le_trans (Txt.slice_le z _ _) hz,fun t' k=>fin t' k⟩)
 |int i u'=>
  cases pu with
  |none=>exact wpAny_getItem_str_slice (l:=some (i,u')) (u:=none) (st:=none) hs rfl (post_val_or_str ⟨Nat.le_trans (Txt.slice_le z _ _) hz,fun t' k=>fin t' k⟩)
  |int j u=>exact wpAny_getItem_str_slice (l:=some (i,u')) (u:=some (j,u)) (st:=none) hs rfl (post_val_or_str ⟨Nat.le_trans (Txt.slice_le z _ _) hz,fun t' k=>fin t' k⟩)
end
mutual
inductive Dp(K:tz0)(H:Hp):V->PyData->Prop
 |non:Dp K H .non .none
 |bl (b:Bool):Dp K H (.bl b) (.bool b)
 |int (i:Int):Dp K H (.int i) (.int i)
 |str (x:Str):Dp K H (.str x) (.str x)
 |lst {a:Addr} {xs:List V} {ds:List PyData}:SqL K H a xs->DpAll K H xs ds->Dp K H (.ref a) (.list ds)
 |tup {a:Addr} {xs:List V} {ds:List PyData}:SqT K H a xs->DpAll K H xs ds->Dp K H (.ref a) (.tuple ds)
inductive DpAll(K:tz0)(H:Hp):List V->List PyData->Prop
 |nil:DpAll K H [] []
 |cons {v:V} {vs:List V} {d:PyData} {ds:List PyData}:Dp K H v d->DpAll K H vs ds->DpAll K H (v::vs) (d::ds)
end
section
variable{X:Cx}{pins:tzB}{σ:St}{H:Hp}{s:Shared}
mutual
theorem Dp.reads(I:Inv X pins σ H s):∀{v:V} {d:PyData} {u:Value},Dp X.K H v d->bZ v u->∃as,Reads s.heap u d as
 |_,_,u,.non,r=>by cases(show u=Value.none from r);exact⟨_,.none⟩
 |_,_,u,.bl b,r=>by cases(show u=Value.bool b from r);exact⟨_,.bool b⟩
 |_,_,u,.int i,r=>by obtain⟨t,rfl⟩:=r;exact⟨_,.int i t⟩
 |_,_,u,.str x,r=>by obtain⟨t,rfl⟩:=r;exact⟨_,.str x t⟩
 |_,_,u,.lst (a:=a) h hs,r=>by
  cases(show u=Value.ref a from r)
  obtain⟨its,rv,p,hz⟩:=I.list h
  obtain⟨as,ra⟩:=DpAll.reads I hs rv
  obtain⟨o,e,c,n,d⟩:=p.isList
  exact⟨_,.list e c d (by simpa using ra)⟩
 |_,_,u,.tup (a:=a) h hs,r=>by
  cases(show u=Value.ref a from r)
  obtain⟨its,rv,p,hz⟩:=I.tuple h
  obtain⟨as,ra⟩:=DpAll.reads I hs rv
  obtain⟨o,e,c,n,d⟩:=p
  exact⟨_,.tuple e c d (by simpa using ra)⟩
theorem DpAll.reads(I:Inv X pins σ H s):∀{vs:List V} {ds:List PyData} {us:List Value},DpAll X.K H vs ds->bG vs us->∃as,ReadsAll s.heap us ds as
 |_,_,_,.nil,.nil=>⟨_,.nil⟩
 |_,_,_,.cons h hs,.cons r rs=>by
  obtain⟨as,ra⟩:=Dp.reads I h r
  obtain⟨bs,rb⟩:=DpAll.reads I hs rs
  exact⟨_,.cons ra rb⟩
end
end
section
variable{X:Cx}
def xy2(K:tz0)(neg:Bool):R2:=fun x y H Q=>∃d e,Dp K H x d/\Dp K H y e/\d.canLay0=true/\e.canLay0=true/\d.depth<=60/\Q (.bl (if neg then !PyData.eqv d e else PyData.eqv d e)) H
theorem xt2(hu:X.A.units+64<cLine):OpR X (compareOp .Eq) (xy2 X.K false):=⟨by
 intro pins s σ H x y v u Q I rx ry h
 obtain⟨d,e,hx,hy,cx,cy,dz,q⟩:=h
 obtain⟨as,ra⟩:=hx.reads I rx
 obtain⟨bs,rb⟩:=hy.reads I ry
 exact SeqAt.compareEq_reads ra rb cx cy (by have:=Nat.min_le_left d.depth e.depth;omega) ⟨.bl _,H,I,rfl,q⟩⟩
theorem xt3(hu:X.A.units+64<cLine):OpR X (compareOp .NotEq) (xy2 X.K true):=⟨by
 intro pins s σ H x y v u Q I rx ry h
 obtain⟨d,e,hx,hy,cx,cy,dz,q⟩:=h
 obtain⟨as,ra⟩:=hx.reads I rx
 obtain⟨bs,rb⟩:=hy.reads I ry
 exact SeqAt.compareNe_reads ra rb cx cy (by have:=Nat.min_le_left d.depth e.depth;omega) ⟨.bl _,H,I,rfl,q⟩⟩
end
mutual
theorem Dp.same{K:tz0}{H H':Hp}(e:kK H H'):∀{v:V} {d:PyData},Dp K H v d->Dp K H' v d
 |_,_,.non=> .non
 |_,_,.bl b=> .bl b
 |_,_,.int i=> .int i
 |_,_,.str x=> .str x
 |_,_,.lst h hs=> .lst (e.seq h) (DpAll.same e hs)
 |_,_,.tup h hs=> .tup (kK.seqT e h) (DpAll.same e hs)
theorem DpAll.same{K:tz0}{H H':Hp}(e:kK H H'):∀{vs:List V} {ds:List PyData},DpAll K H vs ds->DpAll K H' vs ds
 |_,_,.nil=> .nil
 |_,_,.cons h hs=> .cons (Dp.same e h) (DpAll.same e hs)
end
section
variable{prog:Program}{w:World}{A:Around}{E:Value->Shared->Prop}{s:Shared}{env:Env}
theorem ya2{l:Addr}{items:Array Value}{elts:List Expr}{k:Nat}{pos:Pos}{Q:Unit->Shared->Prop}(hh:A.handled=none)(hl:s.heap.IsList l items)(hn:(assignEach elts env).length=items.size)
  (hstar:(assignEach elts env).findIdx? (·.1)=none) (h:∀h',Heap.ExtBut s.heap.objs.size s.heap h'->wpAny (model prog w) A (assignInOrder ((assignEach elts env).map (·.2)) items.toList) Q E {s with heap:=h'}):
  wpAny (model prog w) A (assign (.Tuple elts k pos) env (.ref l)) Q E s:=by
 rw [assign_Tuple]
 refine wpAny_bind (wpAny_standAt ?_)
 unfold unpack
 rw [hn,hstar]
 exact wpAny_bind (wpAny_holding (PySem.W.kun_itemsOf hh hl h))
end
section
variable{X:Cx}{pos:Pos}
def xf0(K:tz0)(n:Nat)(t:TGs):TG:=fun v σ H Q=>∃a xs,v= .ref a/\SqL K H a xs/\xs.length=n/\t xs σ H Q
theorem xt4{es:List Expr}{k:Nat}{t:TGs}{n:Nat}(hc:X.calm=true)(h:PGs X es t)
  (hn:(assignEach es X.env).length=n:=by rfl) (hst:(assignEach es X.env).findIdx? (·.1)=none:=by rfl):PG X (.Tuple es k pos) (xf0 X.K n t):=⟨by
 intro pins s σ H v u Q I r hw
 obtain⟨a,xs,e1,hq,hl,hw⟩:=hw
 subst e1
 cases r
 obtain⟨its,rv,ht,hz⟩:=I.list hq
 refine ya2 (I.ok.hd hc) ht.isList (by simp [hn,<-hl,rv.length]) hst fun h' hx=> ?_
 have I1:Inv X pins σ H {s with heap:=h'}:=I.kept (t':=s.toks) fun b o e=>hx b o (Nat.ne_of_lt (Heap.lt_size e)) e
 exact h pins _ σ H xs _ Q I1 (by simpa using rv) hw⟩
end
section
variable{prog:Program}{w:World}{A:Around}{E:Value->Shared->Prop}{s:Shared}
theorem yX{t sl:Addr}{items:Array Value}{vl vu:Value}{lo hi:Option Int}{Q:Value->Shared->Prop}(ht:IsTup s.heap t items)(hs:s.heap.IsSliceOf sl vl vu .none)(pl:IsPart vl lo)(pu:IsPart vu hi)
  (hw:HT.sIx items.size 0 lo=0/\HT.sIx items.size items.size hi=items.size) (h:Q (.ref t) s):wpAny (model prog w) A (getItem (.ref t) (.ref sl)) Q E s:=by
 obtain⟨os,hos,hcs,hds⟩:=id hs
 have hTs:s.TypeIs (.ref sl) "slice":=⟨os,hos,hcs⟩
 unfold getItem
 try with_reducible refine wpAny_holding ?_
 first|refine wpAny_bind (wpAny_pure ?_)|skip
 refine wpAny_bind (wpAny_sequenceKey ht.typeIs (by decide) ?_)
 refine wpAny_bind (wpAny_callSpecial?_slot (name:=Str.ofString "__getitem__") ht.typeIs PyProof.Rows.slot_tuple_getitem
  (wpAny_call_entry PyProof.Rows.slot_tuple_getitem ht.typeIs entry_tuple_getitem ?_ (args_tuple_getitem _ _)))
 show wpAny _ _ (Builtin.Tuple.tupleItemsOf (.ref t)>>=_) _ _ s
 refine wpAny_bind (tupleItemsOf_ ht ?_)
 refine wpAny_bind (wpAny_typeOf hTs ?_)
 rw [if_pos (by decide)]
 refine wpAny_bind (HT.sliceApplied_gen hs pl pu ?_)
 show wpAny _ _ (if (((HT.sIx items.size 0 lo:Nat):Int)==0&&(1:Int)==1&&(HT.sIx items.size items.size hi-HT.sIx items.size 0 lo)==items.size)=true then _ else _) _ _ s
 rw [if_pos (by rw [hw.1,hw.2];simp)]
 refine wpAny_bind (m:=Builtin.Tuple.tupleIsExact _) ?_
 unfold Builtin.Tuple.tupleIsExact
 refine wpAny_bind (wpAny_typeOf ht.typeIs (wpAny_pure ?_))
 rw [if_pos (by decide)]
 exact wpAny_bind (wpAny_rule (wpAny_pure ⟨_,rfl,wpAny_pure h⟩))
end
section
variable{X:Cx}
def wg8(K:tz0):V->Option Int->Option Int->Hp->VK->Prop:=fun x lo hi H Q=>∃a xs,x= .ref a/\SqT K H a xs/\
 (HT.sIx xs.length 0 lo=0/\HT.sIx xs.length xs.length hi=xs.length->Q (.ref a) H)/\∀p,H p=none->Q (.ref p) (upd H p (.tup (vR xs lo hi)))
theorem xk5:SlR X (wg8 X.K):=by
 intro pins s σ H x v vl vu lo hi sl Q I rx hs pl pu h
 obtain⟨a,xs,rfl,hx,q1,q2⟩:=h
 by_cases hw:HT.sIx xs.length 0 lo=0/\HT.sIx xs.length xs.length hi=xs.length
 ·cases rx
  obtain⟨its,r,ht,hz⟩:=I.tuple hx
  have hlen:its.toArray.size=xs.length:=by rw [List.size_toArray];exact r.length.symm
  refine⟨"tuple",_,PyProof.Rows.slot_tuple_getitem.lookup,ht.typeIs,?_⟩
  exact yX ht hs pl pu (by rw [hlen];exact hw) ⟨.ref a,H,I,rfl,q1 hw⟩
 ·exact xr9 pins s σ H _ v vl vu lo hi sl Q I rx hs pl pu ⟨a,xs,rfl,hx,hw,q2⟩
end
inductive AreC:List Expr->List V->Prop
 |nil:AreC [] []
 |int {i:Int} {j:Nat} {pos:Pos} {es:List Expr} {vs:List V}:AreC es vs->AreC (.Constant (.int i) j pos::es) (.int i::vs)
 |str {x:Str} {j:Nat} {pos:Pos} {es:List Expr} {vs:List V}:AreC es vs->AreC (.Constant (.str x) j pos::es) (.str x::vs)
 |bl {b:Bool} {j:Nat} {pos:Pos} {es:List Expr} {vs:List V}:AreC es vs->AreC (.Constant (.bool b) j pos::es) (.bl b::vs)
 |non {j:Nat} {pos:Pos} {es:List Expr} {vs:List V}:AreC es vs->AreC (.Constant .none j pos::es) (.non::vs)
def ze5(vs:List V):TA:=fun _ H Q=>Q vs H
theorem yp4{X:Cx}{es:List Expr}{vs:List V}(h:AreC es vs):PA X es (ze5 vs):=by
 induction h with
 |nil=>exact mS
 |int _ ih=>exact⟨fun pos pins s σ H Q I q=>fM (t:=ze5 _) gW ih rfl pos pins s σ H Q I q⟩
 |str _ ih=>exact⟨fun pos pins s σ H Q I q=>fM (t:=ze5 _) ym5 ih rfl pos pins s σ H Q I q⟩
 |bl _ ih=>exact⟨fun pos pins s σ H Q I q=>fM (t:=ze5 _) xf9 ih rfl pos pins s σ H Q I q⟩
 |non _ ih=>exact⟨fun pos pins s σ H Q I q=>fM (t:=ze5 _) ym4 ih rfl pos pins s σ H Q I q⟩
set_option genInjectivity true in
inductive D where
 |non|bl (b:Bool)|int (i:Int)|str (x:Str)|ty (n:String)
 |tup (xs:List D)|con (xs:List D)|lst (o:Bool) (xs:List D)|dic (o:Bool) (ks:List Key) (vs:List D)|obj (o:Bool) (C:Str) (ns:List Str) (vs:List D)
mutual
def D.imm:D->Bool
 | .tup xs=>D.imms xs
 | .con xs=>D.imms xs
 | .lst o xs=> !o&&D.imms xs
 | .dic o _ vs=> !o&&D.imms vs
 | .obj o _ _ vs=> !o&&D.imms vs
 |_=>true
def D.imms:List D->Bool
 |[]=>true
 |d::ds=>d.imm&&D.imms ds
end
def kd:HO->Bool
 | .lst _=>true
 | .tup _=>true
 | .dK _=>true
 | .ins _ _ _=>true
 | .frz _ _=>true
 | .xd _=>true
 |_=>false
def tf:HO->Bool
 | .tup _=>true
 | .frz _ _=>true
 |_=>false
theorem lX(h:tf o=true):kd o=true:=by cases o<;>first|rfl|cases h
def SqF(K:tz0)(H:Hp)(a:Addr)(xs:List V):Prop:=(∃o,H a=some (.frz o (.lst xs)))\/
 ∃(o:Obj) (its:Array Value) (n:Nat),K.lookup a=some o/\o.cls= .type "list"/\o.dict=none/\o.data= .seq its n/\its.size<=sizeLine/\bG xs its.toList
mutual
inductive Rep(K:tz0)(κ:tz9)(H:Hp):V->D->List Addr->Prop
 |non:Rep K κ H .non .non []
 |bl (b:Bool):Rep K κ H (.bl b) (.bl b) []
 |int (i:Int):Rep K κ H (.int i) (.int i) []
 |str (x:Str):Rep K κ H (.str x) (.str x) []
 |ty (n:String):Rep K κ H (.ty n) (.ty n) []
 |tup {a:Addr} {vs:List V} {ds:List D}:SqT K H a vs->Reps K κ H vs ds []->Rep K κ H (.ref a) (.tup ds) []
 |con {a:Addr} {vs:List V} {ds:List D}:SqF K H a vs->Reps K κ H vs ds []->Rep K κ H (.ref a) (.con ds) []
 |lst {a:Addr} {vs:List V} {ds:List D} {fp:List Addr}:H a=some (.lst vs)->Reps K κ H vs ds fp->Rep K κ H (.ref a) (.lst true ds) (a::fp)
 |lstF {a:Addr} {o:Obj} {vs:List V} {ds:List D}:H a=some (.frz o (.lst vs))->Reps K κ H vs ds []->Rep K κ H (.ref a) (.lst false ds) []
 |dic {a:Addr} {kvs:List (Key×V)} {ks:List Key} {ds:List D} {fp:List Addr}:H a=some (.dK kvs)->kvs.map (·.1)=ks->Reps K κ H (kvs.map (·.2)) ds fp->Rep K κ H (.ref a) (.dic true ks ds) (a::fp)
 |dicF {a:Addr} {o:Obj} {kvs:List (Key×V)} {ks:List Key} {ds:List D}:H a=some (.frz o (.dK kvs))->kvs.map (·.1)=ks->Reps K κ H (kvs.map (·.2)) ds []->Rep K κ H (.ref a) (.dic false ks ds) []
 |obj {a dx:Addr} {C:Str} {fs:List (Str×V)} {ns:List Str} {ds:List D} {fp:List Addr}:H a=some (.ins (κ C) dx fs)->fs.map (·.1)=ns->Reps K κ H (fs.map (·.2)) ds fp->Rep K κ H (.ref a) (.obj true C ns ds) (a::fp)
 |objF {a dx:Addr} {o:Obj} {C:Str} {fs:List (Str×V)} {ns:List Str} {ds:List D}:H a=some (.frz o (.ins (κ C) dx fs))->fs.map (·.1)=ns->Reps K κ H (fs.map (·.2)) ds []->Rep K κ H (.ref a) (.obj false C ns ds) []
inductive Reps(K:tz0)(κ:tz9)(H:Hp):List V->List D->List Addr->Prop
 |nil:Reps K κ H [] [] []
 |cons {v:V} {vs:List V} {d:D} {ds:List D} {f g:List Addr}:Rep K κ H v d f->Reps K κ H vs ds g->Reps K κ H (v::vs) (d::ds) (f++g)
end
section
variable{K:tz0}{κ:tz9}{H H':Hp}
theorem SqT.tf(t:∀a o,H a=some o->tf o=true->H' a=some o){a:Addr}{xs:List V}(h:SqT K H a xs):SqT K H' a xs:=by
 rcases h with (h|⟨o,h⟩)|h
 ·exact .inl (.inl (t _ _ h rfl))
 ·exact .inl (.inr ⟨o,t _ _ h rfl⟩)
 ·exact .inr h
theorem SqF.tf(t:∀a o,H a=some o->tf o=true->H' a=some o){a:Addr}{xs:List V}(h:SqF K H a xs):SqF K H' a xs:=h.elim (fun⟨o,h⟩=> .inl ⟨o,t _ _ h rfl⟩) .inr
theorem SqF.l(h:SqF K H a xs):SqL K H a xs:=h.elim (fun⟨o,h⟩=> .inl (.inr ⟨o,h⟩)) .inr
theorem gK{P:Addr->Prop}:∀a∈([]:List Addr),P a:=fun _ h=>nomatch h
theorem Reps.move(t:∀a o,H a=some o->tf o=true->H' a=some o){vs:List V}{ds:List D}{fp:List Addr}(h:Reps K κ H vs ds fp):(∀a∈fp,H' a=H a)->Reps K κ H' vs ds fp:=
 Reps.rec (motive_1:=fun v d fp _=>(∀a∈fp,H' a=H a)->Rep K κ H' v d fp) (motive_2:=fun vs ds fp _=>(∀a∈fp,H' a=H a)->Reps K κ H' vs ds fp)
  (fun _=> .non) (fun b _=> .bl b) (fun b _=> .int b) (fun b _=> .str b) (fun b _=> .ty b) (fun h _ ih _=> .tup (h.tf t) (ih gK)) (fun h _ ih _=> .con (h.tf t) (ih gK))
  (fun h _ ih k=> .lst ((k _ List.mem_cons_self).trans h) (ih fun a ha=>k a (List.mem_cons_of_mem _ ha))) (fun h _ ih _=> .lstF (t _ _ h rfl) (ih gK))
  (fun h e _ ih k=> .dic ((k _ List.mem_cons_self).trans h) e (ih fun a ha=>k a (List.mem_cons_of_mem _ ha))) (fun h e _ ih _=> .dicF (t _ _ h rfl) e (ih gK))
  (fun h e _ ih k=> .obj ((k _ List.mem_cons_self).trans h) e (ih fun a ha=>k a (List.mem_cons_of_mem _ ha))) (fun h e _ ih _=> .objF (t _ _ h rfl) e (ih gK))
  (fun _=> .nil) (fun _ _ i1 i2 k=> .cons (i1 fun a ha=>k a (List.mem_append_left _ ha)) (i2 fun a ha=>k a (List.mem_append_right _ ha))) h
theorem Reps.nil_fp(h:Reps K κ H vs [] fp):vs=[]/\fp=[]:=by cases h;exact⟨rfl,rfl⟩
theorem Reps.one_inv(r:Reps K κ H vs [d] fp):∃v,vs=[v]/\Rep K κ H v d fp:=by
 cases r with
 |cons h hs=>
  obtain⟨rfl,rfl⟩:=hs.nil_fp
  exact⟨_,rfl,by rw [List.append_nil];exact h⟩
theorem Reps.one(h:Rep K κ H v d f):Reps K κ H [v] [d] f:=by have:=Reps.cons h (Reps.nil (K:=K) (κ:=κ) (H:=H));rwa [List.append_nil] at this
theorem Rep.move(t:∀a o,H a=some o->tf o=true->H' a=some o){v:V}{d:D}{fp:List Addr}(h:Rep K κ H v d fp)(k:∀a∈fp,H' a=H a):Rep K κ H' v d fp:=by
 obtain⟨u,e,r⟩:=((Reps.one h).move t k).one_inv
 cases e;exact r
theorem Reps.own{vs:List V}{ds:List D}{fp:List Addr}(h:Reps K κ H vs ds fp):∀a∈fp,∃o,H a=some o/\kd o=true/\tf o=false:=
 Reps.rec (motive_1:=fun _ _ fp _=>∀a∈fp,∃o,H a=some o/\kd o=true/\tf o=false) (motive_2:=fun _ _ fp _=>∀a∈fp,∃o,H a=some o/\kd o=true/\tf o=false)
  gK (fun _=>gK) (fun _=>gK) (fun _=>gK) (fun _=>gK) (fun _ _ _=>gK) (fun _ _ _=>gK)
  (fun h _ ih a ha=>(List.mem_cons.mp ha).elim (fun e=>e▸⟨_,h,rfl,rfl⟩) (ih a)) (fun _ _ _=>gK)
  (fun h _ _ ih a ha=>(List.mem_cons.mp ha).elim (fun e=>e▸⟨_,h,rfl,rfl⟩) (ih a)) (fun _ _ _ _=>gK)
  (fun h _ _ ih a ha=>(List.mem_cons.mp ha).elim (fun e=>e▸⟨_,h,rfl,rfl⟩) (ih a)) (fun _ _ _ _=>gK)
  gK (fun _ _ i1 i2 a ha=>(List.mem_append.mp ha).elim (i1 a) (i2 a)) h
theorem Rep.own(h:Rep K κ H v d fp):∀a∈fp,∃o,H a=some o/\kd o=true/\tf o=false:=(Reps.one h).own
theorem Rep.imm(h:Rep K κ H v d fp)(e:d.imm=true):fp=[]:=by
 cases h<;>first|rfl|exact nomatch e
theorem Reps.imm:∀{vs:List V} {ds:List D} {fp:List Addr},Reps K κ H vs ds fp->D.imms ds=true->fp=[]
 |_,_,_,.nil,_=>rfl
 |_,_,_,.cons h hs,e=>by
  rw [D.imms,Bool.and_eq_true] at e
  rw [h.imm e.1,Reps.imm hs e.2];rfl
theorem Reps.length:∀{vs:List V} {ds:List D} {fp:List Addr},Reps K κ H vs ds fp->vs.length=ds.length
 |_,_,_,.nil=>rfl
 |_,_,_,.cons _ hs=>by rw [List.length_cons,List.length_cons,Reps.length hs]
theorem Reps.get:∀{vs:List V} {ds:List D} {fp:List Addr} {i:Nat} {d:D},Reps K κ H vs ds fp->ds[i]? =some d->∃v f,vs[i]? =some v/\Rep K κ H v d f/\∀a∈f,a∈fp
 |_,_,_,_,_,.nil,e=>by simp at e
 |_,_,_,0,_,.cons h _,e=>by simp at e;subst e;exact⟨_,_,rfl,h,fun a ha=>List.mem_append_left _ ha⟩
 |_,_,_,i+1,_,.cons _ hs,e=>by
  obtain⟨v,f,h1,h2,h3⟩:=Reps.get (i:=i) hs (by simpa using e)
  exact⟨v,f,by simpa using h1,h2,fun a ha=>List.mem_append_right _ (h3 a ha)⟩
theorem Reps.append:∀{vs:List V} {ds:List D} {f:List Addr} {us:List V} {es:List D} {g:List Addr},Reps K κ H vs ds f->Reps K κ H us es g->Reps K κ H (vs++us) (ds++es) (f++g)
 |_,_,_,_,_,_,.nil,r=>r
 |_,_,_,_,_,_,.cons h hs,r=>by rw [List.append_assoc];exact .cons h (Reps.append hs r)
theorem Reps.split:∀{vs:List V} {d:D} {ds:List D} {fp:List Addr},Reps K κ H vs (d::ds) fp->∃v us f g,vs=v::us/\Rep K κ H v d f/\Reps K κ H us ds g/\fp=f++g
 |_,_,_,_,.cons h hs=>⟨_,_,_,_,rfl,h,hs,rfl⟩
theorem Reps.nilp:∀{vs:List V} {ds:List D},Reps K κ H vs ds []->Paired (fun v d=>Rep K κ H v d []) vs ds:=by
 intro vs ds h
 generalize e:([]:List Addr)=fp at h
 induction h using Reps.rec (motive_1:=fun _ _ _ _=>True) with
 |nil=>exact .nil
 |cons h hs _ ih=>
  obtain⟨e1,e2⟩:=List.append_eq_nil_iff.mp e.symm
  subst e1;subst e2
  exact .cons h (ih rfl)
 |_=>trivial
theorem Reps.ofp:∀{vs:List V} {ds:List D},Paired (fun v d=>Rep K κ H v d []) vs ds->Reps K κ H vs ds []
 |_,_,.nil=> .nil
 |_,_,.cons h hs=> .cons (f:=[]) (g:=[]) h (Reps.ofp hs)
end
theorem Paired.takeN:∀{l₁:List α} {l₂:List β} (n:Nat),Paired R l₁ l₂->Paired R (l₁.take n) (l₂.take n)
 |_,_,0,_=> .nil
 |_,_,_+1,.nil=> .nil
 |_,_,n+1,.cons h t=> .cons h (Paired.takeN n t)
theorem Paired.dropN:∀{l₁:List α} {l₂:List β} (n:Nat),Paired R l₁ l₂->Paired R (l₁.drop n) (l₂.drop n)
 |_,_,0,r=>r
 |_,_,_+1,.nil=> .nil
 |_,_,n+1,.cons _ t=>Paired.dropN n t
theorem Paired.app:∀{l₁:List α} {l₂:List β} {m₁:List α} {m₂:List β},Paired R l₁ l₂->Paired R m₁ m₂->Paired R (l₁++m₁) (l₂++m₂)
 |_,_,_,_,.nil,r=>r
 |_,_,_,_,.cons h t,r=> .cons h (Paired.app t r)
theorem Paired.repl(r:Paired R l₁ l₂):∀k:Nat,Paired R (List.replicate k l₁).flatten (List.replicate k l₂).flatten
 |0=> .nil
 |k+1=>by rw [List.replicate_succ,List.replicate_succ,List.flatten_cons,List.flatten_cons];exact Paired.app r (Paired.repl r k)
structure SameK(H H':Hp):Prop where
 keep:∀a o,H a=some o->kd o=true->H' a=some o
 grow:∀a,H' a=none->H a=none
theorem SameK.refl(H:Hp):SameK H H:=⟨fun _ _ h _=>h,fun _ h=>h⟩
theorem SameK.trans(a:SameK H H1)(b:SameK H1 H2):SameK H H2:=⟨fun c o h k=>b.keep c o (a.keep c o h k) k,fun c h=>a.grow c (b.grow c h)⟩
theorem SameK.of(h:kK H H'):SameK H H':=⟨fun a o e _=>h a o e,fun a e=>h.free e⟩
theorem SameK.new(h:H p=none)(o:HO):SameK H (upd H p o):= .of (yy7 h o)
section
variable{K:tz0}{κ:tz9}{H H':Hp}
theorem Rep.same(e:SameK H H'){v:V}{d:D}{fp:List Addr}(r:Rep K κ H v d fp):Rep K κ H' v d fp:=
 r.move (fun a o h t=>e.keep a o h (lX t)) fun a ha=>by obtain⟨o,h,k,_⟩:=r.own a ha;rw [h];exact e.keep a o h k
theorem Reps.same(e:SameK H H'){v:List V}{d:List D}{fp:List Addr}(r:Reps K κ H v d fp):Reps K κ H' v d fp:=
 r.move (fun a o h t=>e.keep a o h (lX t)) fun a ha=>by obtain⟨o,h,k,_⟩:=r.own a ha;rw [h];exact e.keep a o h k
end
theorem PE.imp(h:PE X e t)(k:∀σ H Q,t' σ H Q->t σ H Q):PE X e t':=⟨fun pins s σ H Q I q=>h pins s σ H Q I (k σ H Q q)⟩
theorem PT.imp(h:PT X e t)(k:∀σ H Q,t' σ H Q->t σ H Q):PT X e t':=⟨fun pins s σ H Q I q=>h pins s σ H Q I (k σ H Q q)⟩
theorem PW.imp(h:PW X e t)(k:∀σ H Q,t' σ H Q->t σ H Q):PW X e t':=⟨fun wh pins s σ H Q I q=>h wh pins s σ H Q I (k σ H Q q)⟩
theorem PA.imp(h:PA X e t)(k:∀σ H Q,t' σ H Q->t σ H Q):PA X e t':=⟨fun pos pins s σ H Q I q=>h pos pins s σ H Q I (k σ H Q q)⟩
theorem PS.imp{X:Cx}{st:Stmt}{t t':TS}(h:PS X st t)(k:∀D σ H,t' D σ H->t D σ H):PS X st t':=⟨fun pins s σ H D I q=>h pins s σ H D I (k D σ H q)⟩
theorem PSs.imp{X:Cx}{st:List Stmt}{t t':TS}(h:PSs X st t)(k:∀D σ H,t' D σ H->t D σ H):PSs X st t':=⟨fun pins s σ H D I q=>h pins s σ H D I (k D σ H q)⟩
abbrev PSt:=List (Option D)
abbrev _root_.tz7:=List D->Option (D×List D)
abbrev _root_.tz8:=PSt->Option (D×PSt)
abbrev _root_.tz3:=PSt->Option (List D)
abbrev _root_.tz4:=PSt->Option Bool
abbrev _root_.tz6:=List D->Option D
abbrev _root_.tz2:=PSt->Option D
abbrev _root_.tz5:=PSt->Bool
def WS(K:tz0)(κ:tz9)(H:Hp)(σ:St)(ps:PSt):Prop:=∀(i:Nat) (d:D),ps[i]? =some (some d)->∃v fp,σ[i]? =some (some v)/\Rep K κ H v d fp
theorem WS.same{K:tz0}{κ:tz9}{H H':Hp}{σ:St}{ps:PSt}(w:WS K κ H σ ps)(e:SameK H H'):WS K κ H' σ ps:=fun i d h=>by
 obtain⟨v,fp,h1,h2⟩:=w i d h
 exact⟨v,fp,h1,h2.same e⟩
def jT(K:tz0)(κ:tz9)(H:Hp)(d:D)(Q:VK):Prop:=∀v H' fv,SameK H H'->(∀a∈fv,H a=none)->fv.Nodup->Rep K κ H' v d fv->Q v H'
def zy2(K:tz0)(κ:tz9)(H:Hp)(d:D)(Q:VK):Prop:=∀v H' fp,SameK H H'->Rep K κ H' v d fp->Q v H'
def tV(K:tz0)(κ:tz9)(f:tz2):TE:=fun σ H Q=>∃ps d,WS K κ H σ ps/\f ps=some d/\zy2 K κ H d Q
def tP(K:tz0)(κ:tz9)(f:tz2):TE:=fun σ H Q=>∃ps d,WS K κ H σ ps/\f ps=some d/\jT K κ H d Q
def tQ(K:tz0)(κ:tz9)(f:tz4):TT:=fun σ H Q=>∃ps b,WS K κ H σ ps/\f ps=some b/\∀H',SameK H H'->Q b H'
def tVA(K:tz0)(κ:tz9)(f:tz3):TA:=fun σ H Q=>∃ps ds,WS K κ H σ ps/\f ps=some ds/\∀vs H' fp,SameK H H'->Reps K κ H' vs ds fp->Q vs H'
def tPA(K:tz0)(κ:tz9)(f:tz3):TA:=fun σ H Q=>∃ps ds,WS K κ H σ ps/\f ps=some ds/\∀vs H' fv,SameK H H'->(∀a∈fv,H a=none)->fv.Nodup->Reps K κ H' vs ds fv->Q vs H'
abbrev QV(X:Cx)(κ:tz9)(e:Expr)(f:tz2):Prop:=PE X e (tV X.K κ f)
abbrev QP(X:Cx)(κ:tz9)(e:Expr)(f:tz2):Prop:=PE X e (tP X.K κ f)
abbrev QT(X:Cx)(κ:tz9)(e:Expr)(f:tz4):Prop:=PT X e (tQ X.K κ f)
abbrev QW(X:Cx)(κ:tz9)(e:Expr)(f:tz4):Prop:=PW X e (tQ X.K κ f)
abbrev QVA(X:Cx)(κ:tz9)(es:List Expr)(f:tz3):Prop:=PA X es (tVA X.K κ f)
abbrev QPA(X:Cx)(κ:tz9)(es:List Expr)(f:tz3):Prop:=PA X es (tPA X.K κ f)
theorem jT.see{K:tz0}{κ:tz9}{H:Hp}{d:D}{Q:VK}(h:zy2 K κ H d Q):jT K κ H d Q:=fun v H' fv s _ _ r=>h v H' fv s r
theorem jT.after{K:tz0}{κ:tz9}{H H1:Hp}{d:D}{Q:VK}(h:jT K κ H d Q)(s:SameK H H1):jT K κ H1 d Q:=
 fun v H' fv s' n nd r=>h v H' fv (s.trans s') (fun a ha=>s.grow a (n a ha)) nd r
theorem jT.now{K:tz0}{κ:tz9}{H:Hp}{d:D}{Q:VK}{v:V}(h:jT K κ H d Q)(r:Rep K κ H v d []):Q v H:=h v H [] (.refl H) (fun _ h=>absurd h (by simp)) List.nodup_nil r
theorem jT.at{K:tz0}{κ:tz9}{H:Hp}{d:D}{Q:VK}{p:Addr}{o:HO}{fv:List Addr}(h:jT K κ H d Q)(hp:H p=none)(hn:∀a∈fv,H a=none)(nd:fv.Nodup)(r:Rep K κ (upd H p o) (.ref p) d fv):Q (.ref p) (upd H p o):=
 h _ _ fv (.new hp o) hn nd r
theorem zy2.after{K:tz0}{κ:tz9}{H H1:Hp}{d:D}{Q:VK}(h:zy2 K κ H d Q)(s:SameK H H1):zy2 K κ H1 d Q:=fun v H' fp s' r=>h v H' fp (s.trans s') r
section
variable{X:Cx}{κ:tz9}{e a b:Expr}{f fa fb:tz2}
theorem QP.v(h:QP X κ e f):QV X κ e f:=h.imp fun _ _ _ ⟨ps,d,w,e,q⟩=>⟨ps,d,w,e,.see q⟩
def aQ(f:tz2):tz2:=fun ps=>(f ps).bind fun d=>if d.imm=true then some d else none
theorem QV.p(h:QV X κ e f):QP X κ e (aQ f):=h.imp fun σ H Q hh_=>by
 obtain⟨ps,d,w,e,q⟩:=hh_
 unfold aQ at e
 cases e1:f ps with
 |none=>rw [e1] at e;cases e
 | some d1=>
  rw [e1] at e
  by_cases hi:d1.imm=true
  ·have e2:d1=d:=by simpa [hi] using e
   subst e2
   refine⟨ps,d1,w,e1,fun v H' fp s r=> ?_⟩
   have:=r.imm hi;subst this
   exact q v H' [] s (fun _ h=>absurd h (by simp)) List.nodup_nil r
  ·simp [hi] at e
def aA(i:Nat):tz2:=fun ps=>(ps[i]?).join
theorem aC(i:Nat){x:Str}{pos:Pos}(hN:X.N[i]? =some x:=by rfl)(hv:Vis X.env.scope x:=by first|exact Or.inl rfl|exact Or.inr (Or.inl rfl)|exact Or.inr (Or.inr rfl))(hd:(x==("__debug__":Str))=false:=by decide)
  (hcd:(x==("__classdict__":Str))=false:=by decide):QV X κ (.Name x pos) (aA i):=(uB hN hv hd hcd).imp fun σ H Q hh_=>by
 obtain⟨ps,d,w,e,q⟩:=hh_
 have e':ps[i]? =some (some d):=by
  unfold aA at e
  cases q:ps[i]? with
  |none=>rw [q] at e;cases e
  |some o=>rw [q] at e;exact congrArg some e
 obtain⟨v,fp,h1,h2⟩:=w i d e'
 exact⟨v,h1,q v H fp (.refl H) h2⟩
def fC(d:D):tz2:=fun _=>some d
theorem aF{i j pos}:QP X κ (.Constant (.int i) j pos) (fC (.int i)):=gW.imp fun σ H Q ⟨ps,d,w,e,q⟩=>by cases e;exact q _ H [] (.refl H) (fun _ h=>absurd h (by simp)) List.nodup_nil (.int i)
theorem bY{x j pos}:QP X κ (.Constant (.str x) j pos) (fC (.str x)):=ym5.imp fun σ H Q ⟨ps,d,w,e,q⟩=>by cases e;exact q _ H [] (.refl H) (fun _ h=>absurd h (by simp)) List.nodup_nil (.str x)
theorem jW{b j pos}:QP X κ (.Constant (.bool b) j pos) (fC (.bl b)):=xf9.imp fun σ H Q ⟨ps,d,w,e,q⟩=>by cases e;exact q _ H [] (.refl H) (fun _ h=>absurd h (by simp)) List.nodup_nil (.bl b)
theorem rG{j pos}:QP X κ (.Constant .none j pos) (fC .non):=ym4.imp fun σ H Q ⟨ps,d,w,e,q⟩=>by cases e;exact q _ H [] (.refl H) (fun _ h=>absurd h (by simp)) List.nodup_nil .non
theorem xk6(hg:Gl X x)(hm:X.mg x=some u)(r:bZ v u)(hd:∀H,Rep X.K κ H v d [])(hdb:(x==("__debug__":Str))=false:=by decide):QP X κ (.Name x pos) (fC d):=
 (xi6 hg hm r hdb).imp fun σ H Q ⟨ps,d,w,e,q⟩=>by cases e;exact q _ H [] (.refl H) (fun _ h=>absurd h (by simp)) List.nodup_nil (hd H)
def f2(g:D->D->Option D)(fa fb:tz2):tz2:=fun ps=>(fa ps).bind fun x=>(fb ps).bind fun y=>g x y
def POp(K:tz0)(κ:tz9)(g:D->D->Option D):R2:=fun x y H Q=>∃dx dy d fx fy,Rep K κ H x dx fx/\Rep K κ H y dy fy/\g dx dy=some d/\jT K κ H d Q
theorem uE(h:f2 g fa fb ps=some d):∃x y,fa ps=some x/\fb ps=some y/\g x y=some d:=by
 unfold f2 at h
 cases e1:fa ps with
 |none=>rw [e1] at h;cases h
 |some x=>
  rw [e1] at h
  cases e2:fb ps with
  |none=>rw [e2] at h;cases h
  |some y=>rw [e2] at h;exact⟨x,y,rfl,rfl,h⟩
theorem zs2(hr:∀x y H Q,POp X.K κ g x y H Q->r x y H Q)(h:tP X.K κ (f2 g fa fb) σ H Q):tOp r (tV X.K κ fa) (tV X.K κ fb) σ H Q:=by
 obtain⟨ps,d,w,e,q⟩:=h
 obtain⟨x,y,e1,e2,e3⟩:=uE e
 exact⟨ps,x,w,e1,fun v H1 fp s1 r1=>⟨ps,y,w.same s1,e2,fun u H2 fq s2 r2=>hr _ _ _ _ ⟨x,y,d,fp,fq,r1.same s2,r2,e3,q.after (s1.trans s2)⟩⟩⟩
theorem bD(ho:OpR X (binaryOp op) (POp X.K κ g))(ha:QV X κ a fa)(hb:QV X κ b fb):QP X κ (.BinOp a op b pos) (f2 g fa fb):=
 (fR ho ha hb).imp fun _ _ _ h=>zs2 (fun _ _ _ _ h=>h) h
theorem uF(ho:OpR X (compareOp op) (POp X.K κ g))(ha:QV X κ a fa)(hb:QV X κ b fb)(hm:behindInMarks op b=false):QP X κ (.Compare a [op] [b] pos) (f2 g fa fb):=
 (yb4 ho ha hb hm).imp fun _ _ _ h=>zs2 (fun _ _ _ _ h=>h) h
def dB:D->Option Bool
 | .bl b=>some b
 |_=>none
def fB(f:tz2):tz4:=fun ps=>(f ps).bind dB
theorem yc0{f:tz2}{ps:PSt}{b:Bool}(h:fB f ps=some b):f ps=some (.bl b):=by
 unfold fB at h
 cases e:f ps with
 |none=>rw [e] at h;cases h
 |some d=>rw [e] at h;cases d<;>first|(cases h;rfl)|cases h
theorem Rep.is_bl{K:tz0}{H:Hp}{v:V}{b:Bool}{fp:List Addr}(r:Rep K κ H v (.bl b) fp):v= .bl b:=by cases r;rfl
theorem Rep.is_int{K:tz0}{H:Hp}{v:V}{b:Int}{fp:List Addr}(r:Rep K κ H v (.int b) fp):v= .int b:=by cases r;rfl
theorem Rep.is_str{K:tz0}{H:Hp}{v:V}{b:Str}{fp:List Addr}(r:Rep K κ H v (.str b) fp):v= .str b:=by cases r;rfl
theorem cF(ho:OpR X (compareOp op) (POp X.K κ g))(ha:QV X κ a fa)(hb:QV X κ b fb)(hm:behindInMarks op b=false):QT X κ (.Compare a [op] [b] pos) (fB (f2 g fa fb)):=
 (yb5 ho ha hb hm).imp fun σ H Q ⟨ps,c,w,e,q⟩=>zs2 (Q:=fun x H'=>∃k,x= .bl k/\Q k H') (fun _ _ _ _ h=>h) ⟨ps,_,w,yc0 e,fun v H' fv s _ _ r=>⟨c,r.is_bl,q H' s⟩⟩
def f3(g g':D->D->Option D)(fa fb fc:tz2):tz2:=fun ps=>(fa ps).bind fun x=>(fb ps).bind fun y=>(g x y).bind fun k=>match k with
 | .bl true=>(fc ps).bind fun z=>g' y z
 | .bl false=>some (.bl false)
 |_=>none
def zi7:D->Option Bool
 | .non=>some false
 | .bl b=>some b
 | .int i=>some (i !=0)
 | .str y=>if y.length<=sizeLine then some ((y.length:Int) !=0) else none
 | .lst _ xs=>some (!xs.isEmpty)
 | .tup xs=>some (!xs.isEmpty)
 | .con xs=>some (!xs.isEmpty)
 |_=>none
theorem mU{K:tz0}{H:Hp}{vs:List V}{ds:List D}{fp:List Addr}(r:Reps K κ H vs ds fp):ds.isEmpty=vs.isEmpty:=by cases r<;>rfl
theorem yc1{K:tz0}{H:Hp}{v:V}{d:D}{fp:List Addr}{b:Bool}(r:Rep K κ H v d fp)(h:zi7 d=some b):xe6 K v H b:=by
 cases r with
 |non=>cases h;rfl
 |bl b=>cases h;rfl
 |int i=>cases h;rfl
 |str x=>
  rw [zi7] at h
  split at h
  ·cases h;exact⟨by assumption,rfl⟩
  ·cases h
 |tup s rs=>cases h;exact .inr (.inl ⟨_,s,by rw [mU rs]⟩)
 |con s rs=>cases h;exact .inl ⟨_,s.l,by rw [mU rs]⟩
 |lst s rs=>cases h;exact .inl ⟨_,.inl (.inl s),by rw [mU rs]⟩
 |lstF s rs=>cases h;exact .inl ⟨_,.inl (.inr ⟨_,s⟩),by rw [mU rs]⟩
 |_=>cases h
def fT(f:tz2):tz4:=fun ps=>(f ps).bind zi7
theorem xk7{f:tz2}{ps:PSt}{b:Bool}(h:fT f ps=some b):∃d,f ps=some d/\zi7 d=some b:=by
 unfold fT at h
 cases e:f ps with
 |none=>rw [e] at h;cases h
 |some d=>rw [e] at h;exact⟨d,rfl,h⟩
theorem gL(ha:QV X κ a fa)(he:∀whole,isTrue a X.env whole=(do let v<-whole;standAt a.pos;holding [v] (truthy v)):=by intro _;rfl):QT X κ a (fT fa):=
 (zr6 ha he).imp fun σ H Q hh_=>by
  obtain⟨ps,c,w,e,q⟩:=hh_
  obtain⟨d,e1,e2⟩:=xk7 e
  exact⟨ps,d,w,e1,fun v H' fp s r=>⟨c,yc1 r e2,q H' s⟩⟩
def dN(f g:tz4):tz4:=fun ps=>(f ps).bind fun c=>if c=true then g ps else some false
def vS(f g:tz4):tz4:=fun ps=>(f ps).bind fun c=>if c=true then some true else g ps
def iS(f:tz4):tz4:=fun ps=>(f ps).map (!·)
variable{pos:Pos}{cE:List Expr}{ta tb:tz4}
theorem kT(ha:QT X κ a ta):QW X κ (.BoolOp .And [a] pos) ta:=xi7 ha
theorem yp5(ha:QT X κ a ta):QW X κ (.BoolOp .Or [a] pos) ta:=xq2 ha
theorem lF(ha:QT X κ a ta)(hb:QW X κ (.BoolOp .And (b::cE) pos) tb):QW X κ (.BoolOp .And (a::b::cE) pos) (dN ta tb):=
 (xq3 ha hb).imp fun σ H Q hh_=>by
  obtain⟨ps,c,w,e,q⟩:=hh_
  unfold dN at e
  cases e1:ta ps with
  |none=>rw [e1] at e;cases e
  | some k=>
   rw [e1] at e
   refine⟨ps,k,w,e1,fun H1 s1=> ?_⟩
   cases k with
   |true=>rw [if_pos rfl];exact⟨ps,c,w.same s1,by simpa using e,fun H2 s2=>q H2 (s1.trans s2)⟩
   |false=>
    rw [if_neg Bool.false_ne_true]
    have:c=false:=by simpa using e.symm
    subst this;exact q H1 s1
theorem xg5(ha:QT X κ a ta)(hb:QW X κ (.BoolOp .Or (b::cE) pos) tb):QW X κ (.BoolOp .Or (a::b::cE) pos) (vS ta tb):=
 (xz3 ha hb).imp fun σ H Q hh_=>by
  obtain⟨ps,c,w,e,q⟩:=hh_
  unfold vS at e
  cases e1:ta ps with
  |none=>rw [e1] at e;cases e
  | some k=>
   rw [e1] at e
   refine⟨ps,k,w,e1,fun H1 s1=> ?_⟩
   cases k with
   |true=>
    rw [if_pos rfl]
    have:c=true:=by simpa using e.symm
    subst this;exact q H1 s1
   |false=>rw [if_neg Bool.false_ne_true];exact⟨ps,c,w.same s1,by simpa using e,fun H2 s2=>q H2 (s1.trans s2)⟩
theorem rH(h:QW X κ a ta):QT X κ a ta:=PW.pt h
theorem uG(ha:QT X κ a ta):QT X κ (.UnaryOp .Not a pos) (iS ta):=
 (xq4 ha).imp fun σ H Q hh_=>by
  obtain⟨ps,c,w,e,q⟩:=hh_
  unfold iS at e
  cases e1:ta ps with
  |none=>rw [e1] at e;cases e
  |some k=>
   rw [e1] at e
   have:c= !k:=by simpa using e.symm
   subst this
   exact⟨ps,k,w,e1,fun H1 s1=>q H1 s1⟩
def xP(f g:tz2):tz2:=fun ps=>(f ps).bind fun c=>match c with
 | .bl true=>g ps
 | .bl false=>some (.bl false)
 |_=>none
def fOr(f g:tz2):tz2:=fun ps=>(f ps).bind fun c=>match c with
 | .bl true=>some (.bl true)
 | .bl false=>g ps
 |_=>none
theorem xg6{d:D}{α:Type}{x y:Option α}{z:α}(h:(match d with| .bl true=>x| .bl false=>y|_=>none)=some z):∃b,d= .bl b/\(if b=true then x else y)=some z:=by
 cases d with
 |bl b=>cases b<;>exact⟨_,rfl,h⟩
 |_=>cases h
theorem yp6{op}(h:QP X κ a fa):QP X κ (.BoolOp op [a] pos) fa:=xq5 h
theorem xt5(ha:QP X κ a fa)(hb:QP X κ (.BoolOp .And (b::cE) pos) fb):QP X κ (.BoolOp .And (a::b::cE) pos) (xP fa fb):=
 (xq6 ha hb).imp fun σ H Q hh_=>by
  obtain⟨ps,d,w,e,q⟩:=hh_
  unfold xP at e
  cases e1:fa ps with
  |none=>rw [e1] at e;cases e
  | some k=>
   rw [e1] at e
   obtain⟨c,rfl,e2⟩:=xg6 (x:=fb ps) (y:=some (.bl false)) e
   refine⟨ps,_,w,e1,fun v H1 fv s1 _ _ r1=>⟨c,r1.is_bl,?_⟩⟩
   cases c with
   |true=>rw [if_pos rfl] at e2|-;exact⟨ps,d,w.same s1,e2,q.after s1⟩
   |false=>
    rw [if_neg Bool.false_ne_true] at e2|-
    cases e2;exact(q.after s1).now (.bl false)
theorem wa2(ha:QP X κ a fa)(hb:QP X κ (.BoolOp .Or (b::cE) pos) fb):QP X κ (.BoolOp .Or (a::b::cE) pos) (fOr fa fb):=
 (xz4 ha hb).imp fun σ H Q hh_=>by
  obtain⟨ps,d,w,e,q⟩:=hh_
  unfold fOr at e
  cases e1:fa ps with
  |none=>rw [e1] at e;cases e
  |some k=>
   rw [e1] at e
   obtain⟨c,rfl,e2⟩:=xg6 (d:=k) (x:=some (D.bl true)) (y:=fb ps) (z:=d) e
   refine⟨ps,_,w,e1,fun v H1 fv s1 _ _ r1=>⟨c,r1.is_bl,?_⟩⟩
   cases c with
   |true=>rw [if_pos rfl] at e2|-;cases e2;exact(q.after s1).now (.bl true)
   |false=>rw [if_neg Bool.false_ne_true] at e2|-;exact⟨ps,d,w.same s1,e2,q.after s1⟩
def fH(f:tz2):tz2:=fun ps=>(f ps).bind fun c=>match c with
 | .int i=>some (.int (-i))
 |_=>none
theorem oX(ha:QV X κ a fa):QP X κ (.UnaryOp .USub a pos) (fH fa):=
 (xz5 xr1 ha).imp fun σ H Q hh_=>by
  obtain⟨ps,d,w,e,q⟩:=hh_
  unfold fH at e
  cases e1:fa ps with
  |none=>rw [e1] at e;cases e
  |some k=>
   rw [e1] at e
   cases k with
   |int i=>cases e;exact⟨ps,_,w,e1,fun v H1 fp s1 r1=>⟨i,r1.is_int,(q.after s1).now (.int _)⟩⟩
   |_=>cases e
end
section
variable{X:Cx}{κ:tz9}
theorem Inv.lstR(I:Inv X pins σ H s)(h:Rd H l (.lst xs)):
  xs.length<=sizeLine/\∃(its:List Value) (n:Nat),bG xs its/\xs.length=its.length/\s.heap.get? l=some {cls:= .type "list",data:= .seq its.toArray n}:=by
 obtain⟨z,its,n,r,e⟩:=h.ok I.hok
 exact⟨z,its,n,r,r.length,e⟩
theorem xk8:OpR X (binaryOp .Add) (fun x y H Q=>∃l b xs zs,x= .ref l/\y= .ref b/\Rd H l (.lst xs)/\Rd H b (.lst zs)/\xs.length+zs.length<=sizeLine/\∀p,H p=none->Q (.ref p) (upd H p (.lst (xs++zs)))):=⟨by
 intro pins s σ H x y v u Q I rx ry h
 obtain⟨l,b,xs,zs,rfl,rfl,hH,hB,hz,q⟩:=h
 cases rx
 cases ry
 obtain⟨z,its,n,r,hl,e⟩:=I.lstR hH
 obtain⟨z2,its2,n2,r2,hl2,e2⟩:=I.lstR hB
 refine PySem.P.add_list e e2 ?_ (by rw [List.size_toArray,List.size_toArray];omega)
 have ea:its.toArray++its2.toArray=(its++its2).toArray:=by simp
 rw [ea]
 exact⟨.ref _,_,I.lnew (t':=s.toks) (r.append r2) (by rw [List.length_append];omega),rfl,q _ I.fresh⟩⟩
theorem xk9:OpR X (binaryOp .Mult) (fun x y H Q=>∃l k xs,x= .ref l/\y= .int k/\Rd H l (.lst xs)/\ -(2^63)<=k/\k<2^63/\xs.length*k.toNat<=sizeLine/\
  ∀p,H p=none->Q (.ref p) (upd H p (.lst (List.replicate k.toNat xs).flatten))):=⟨by
 intro pins s σ H x y v u Q I rx ry h
 obtain⟨l,k,xs,rfl,rfl,hH,h1,h2,hz,q⟩:=h
 cases rx
 obtain⟨t,rfl⟩:=ry
 obtain⟨z,its,n,r,hl,e⟩:=I.lstR hH
 have hlen:its.toArray.size*k.toNat<=sizeLine:=by rw [List.size_toArray,<-hl];exact hz
 have hcap:¬its.toArray.size*k.toNat>(2^63-1)/8:=by
  have:(sizeLine:Nat)<=(2^63-1)/8:=by decide
  omega
 have hfit:¬(!Builtin.List.listFitsIndex k)=true:=by
  rw [fitsIndex_both h1 h2]
  exact Bool.false_ne_true
 have hlong:¬Builtin.List.listTooLong (its.toArray.size*k.toNat)=true:=by
  rw [yy2 hlen]
  exact Bool.false_ne_true
 have hnew:List.foldl (fun x1 x2=>x1++x2) #[] (List.replicate (if its.toArray.isEmpty=true then 0 else k.toNat) its.toArray)=(List.replicate k.toNat its).flatten.toArray:=by
  have f0:∀m:Nat,List.foldl (fun x1 x2=>x1++x2) #[] (List.replicate m its.toArray)=(List.replicate m its).flatten.toArray:=fun m=>by
   have:=zk1 its m []
   rw [List.nil_append] at this
   exact this
  rw [f0]
  cases its with
  |nil=>simp
  |cons a r'=>rw [if_neg (by simp)]
 refine wpAny_binaryOp_repeat_ref (T:="list") (U:="int") (by decide) ⟨_,e,rfl⟩ (fun s'=>typeIs_int s' k t) noFill_list_mul F.fills_int_mul F.slot_int_rmul repeat_list F.slot_int_index.lookup
  (call_meets F.slot_int_rmul (typeIs_int s k t) F.entry_int_rmul (F.args_int_rmul_2 _ _) (int___rmul___int_list k t l its.toArray n)
   ⟨e,rfl,⟨_,e,rfl⟩,call_meets F.slot_list_mul ⟨_,e,rfl⟩ F.entry_list_mul (F.args_list_mul_2 _ _) (AutoListH.list___mul___list_int_3 l its.toArray n k t hfit hcap hlong) ⟨e,?_⟩⟩)
 rw [hnew]
 exact⟨.ref _,_,I.lnew (t':=s.toks) (r.rep k.toNat) (by rw [xj8,Nat.mul_comm];exact hz),rfl,q _ I.fresh⟩⟩
theorem yy9:OpR X (binaryOp .Add) (fun x y H Q=>∃a b ys,x= .ref a/\y= .ref b/\SqT X.K H a []/\SqT X.K H b ys/\Q (.ref b) H):=⟨by
 intro pins s σ H x y v u Q I rx ry h
 obtain⟨a,b,ys,rfl,rfl,ha,hb,q⟩:=h
 cases rx
 cases ry
 obtain⟨its,r1,p1,_⟩:=I.tuple ha
 obtain⟨its2,r2,p2,_⟩:=I.tuple hb
 cases r1
 obtain⟨⟨cls,dd,data,sl⟩,ho,hc,n,hd⟩:=id p1
 obtain⟨⟨cls2,dd2,data2,sl2⟩,ho2,hc2,n2,hd2⟩:=id p2
 simp only at hc hd hc2 hd2
 subst hc hd hc2 hd2
 exact concat_meets ⟨_,ho,rfl⟩ ⟨_,ho2,rfl⟩ noFill_tuple_add seq_tuple_add PySem.F.slot_tuple_add PySem.F.entry_tuple_add (PySem.F.args_tuple_add_2 _ _)
   (tuple_addW0 a b _ _ n n2 dd dd2 sl sl2 rfl) ⟨ho,ho2,⟨.ref b,H,I,rfl,q⟩⟩⟩
theorem Rep.lst_inv{K:tz0}{H:Hp}{v:V}{o:Bool}{ds:List D}{fp:List Addr}(r:Rep K κ H v (.lst o ds) fp):∃a vs g,v= .ref a/\Rd H a (.lst vs)/\Reps K κ H vs ds g/\g.Sublist fp:=by
 cases r with
 |lst h hs=>exact⟨_,_,_,rfl,.inl h,hs,List.sublist_cons_self _ _⟩
 |lstF h hs=>exact⟨_,_,_,rfl,.inr ⟨_,h⟩,hs,.refl _⟩
theorem Rep.lstT_inv{K:tz0}{H:Hp}{v:V}{ds:List D}{fp:List Addr}(r:Rep K κ H v (.lst true ds) fp):∃a vs g,v= .ref a/\H a=some (.lst vs)/\Reps K κ H vs ds g/\fp=a::g:=by
 cases r with
 |lst h hs=>exact⟨_,_,_,rfl,h,hs,rfl⟩
theorem Rep.objT_inv{K:tz0}{H:Hp}{v:V}{C:Str}{ns:List Str}{ds:List D}{fp:List Addr}(r:Rep K κ H v (.obj true C ns ds) fp):∃a dx fs g,v= .ref a/\H a=some (.ins (κ C) dx fs)/\fs.map (·.1)=ns/\Reps K κ H (fs.map (·.2)) ds g/\fp=a::g:=by
 cases r with
 |obj h e hs=>exact⟨_,_,_,_,rfl,h,e,hs,rfl⟩
theorem Rep.tup_inv{K:tz0}{H:Hp}{v:V}{ds:List D}{fp:List Addr}(r:Rep K κ H v (.tup ds) fp):∃a vs,v= .ref a/\SqT K H a vs/\Reps K κ H vs ds []:=by
 cases r with
 |tup h hs=>exact⟨_,_,rfl,h,hs⟩
theorem Reps.pair{K:tz0}{H:Hp}{vs:List V}{ds:List D}{fp:List Addr}(r:Reps K κ H vs ds fp)(h:D.imms ds=true):Paired (fun v d=>Rep K κ H v d []) vs ds:=by
 have e:=r.imm h
 subst e
 exact r.nilp
theorem Rep.con_inv{K:tz0}{H:Hp}{v:V}{ds:List D}{fp:List Addr}(r:Rep K κ H v (.con ds) fp):∃a vs,v= .ref a/\SqF K H a vs/\Reps K κ H vs ds []:=by
 cases r with
 |con h hs=>exact⟨_,_,rfl,h,hs⟩
theorem uH{K:tz0}{H:Hp}{vs:List V}{ds:List D}{Q:VK}{p:Addr}(hp:H p=none)(r:Paired (fun v d=>Rep K κ H v d []) vs ds)(q:jT K κ H (.lst true ds) Q):Q (.ref p) (upd H p (.lst vs)):=
 q.at hp (fv:=[p]) (fun a ha=>by simp at ha;subst ha;exact hp) (by simp) (.lst cJ ((Reps.ofp r).same (.new hp _)))
theorem yE{K:tz0}{H:Hp}{vs:List V}{ds:List D}{Q:VK}{p:Addr}(hp:H p=none)(r:Paired (fun v d=>Rep K κ H v d []) vs ds)(q:jT K κ H (.tup ds) Q):Q (.ref p) (upd H p (.tup vs)):=
 q.at hp (fv:=[]) (fun a ha=>by simp at ha) (by simp) (.tup (.inl (.inl cJ)) ((Reps.ofp r).same (.new hp _)))
def bP:D->D->Option D
 | .int i,.int j=>some (.int (i+j))
 | .str x,.str y=>if x.length+y.length<=sizeLine then some (.str (x++y)) else none
 | .lst _ xs,.lst _ ys=>if (D.imms xs&&D.imms ys&&decide (xs.length+ys.length<=sizeLine))=true then some (.lst true (xs++ys)) else none
 | .tup xs,.tup ys=>if xs.length+ys.length<=sizeLine then some (.tup (xs++ys)) else none
 |_,_=>none
theorem bind_some(h:o.bind g=some z):∃x,o=some x/\g x=some z:=by
 cases o with
 |none=>cases h
 |some x=>exact⟨x,rfl,h⟩
theorem bV[Decidable c]{x:Option α}{z:α}(h:(if c then x else none)=some z):c/\x=some z:=by
 by_cases k:c
 ·rw [if_pos k] at h;exact⟨k,h⟩
 ·rw [if_neg k] at h;cases h
theorem dJ:OpR X (binaryOp .Add) (POp X.K κ bP):=⟨by
 rintro pins s σ H x y v u Q I rx ry ⟨dx,dy,d,fx,fy,r1,r2,e,q⟩
 unfold bP at e
 split at e
 ·rename_i i j
  cases e;exact uD pins s σ H x y v u Q I rx ry ⟨i,j,r1.is_int,r2.is_int,q.now (.int _)⟩
 ·rename_i i j
  obtain⟨hc,e⟩:=bV e
  cases e;exact yg2 pins s σ H x y v u Q I rx ry ⟨i,j,r1.is_str,r2.is_str,hc,q.now (.str _)⟩
 ·rename_i o xs o' ys
  obtain⟨hc,e⟩:=bV e
  simp only [Bool.and_eq_true,decide_eq_true_eq] at hc
  cases e
  obtain⟨a,vs,g,rfl,h1,s1,_⟩:=r1.lst_inv
  obtain⟨b,us,g',rfl,h2,s2,_⟩:=r2.lst_inv
  exact xk8 pins s σ H _ _ v u Q I rx ry ⟨a,b,vs,us,rfl,rfl,h1,h2,by rw [s1.length,s2.length];exact hc.2,fun p hp=>uH hp (Paired.app (s1.pair hc.1.1) (s2.pair hc.1.2)) q⟩
 ·rename_i xs ys
  obtain⟨hc,e⟩:=bV e
  cases e
  obtain⟨a,vs,rfl,h1,s1⟩:=r1.tup_inv
  obtain⟨b,us,rfl,h2,s2⟩:=r2.tup_inv
  have l1:=s1.length;have l2:=s2.length
  cases vs with
  |nil=>
   cases s1
   exact yy9 pins s σ H _ _ v u Q I rx ry ⟨a,b,us,rfl,rfl,h1,h2,q.now (.tup h2 s2)⟩
  |cons w ws=>
   refine xj6 pins s σ H _ _ v u Q I rx ry ⟨a,b,_,us,rfl,rfl,h1,h2,by simp,by omega,fun z=> ?_,fun z p hp=>yE hp (Paired.app s1.nilp s2.nilp) q⟩
   subst z
   cases s2
   rw [List.append_nil] at q
   exact q.now (.tup h1 s1)
 ·cases e⟩
def dII(C:Int->Int->Bool)(g:Int->Int->D):D->D->Option D
 | .int i,.int j=>if C i j=true then some (g i j) else none
 |_,_=>none
theorem zs3(h:dII C g x y=some d):∃i j,x= .int i/\y= .int j/\C i j=true/\d=g i j:=by
 unfold dII at h
 split at h
 ·obtain⟨hc,h⟩:=bV h
  cases h;exact⟨_,_,rfl,rfl,hc,rfl⟩
 ·cases h
def iY:D->D->Option D
 | .int i,.int j=>some (.int (i-j))
 |_,_=>none
theorem mV:OpR X (binaryOp .Sub) (POp X.K κ iY):=⟨by
 rintro pins s σ H x y v u Q I rx ry ⟨dx,dy,d,fx,fy,r1,r2,e,q⟩
 unfold iY at e
 split at e
 ·rename_i i j
  cases e;exact xq9 pins s σ H x y v u Q I rx ry ⟨i,j,r1.is_int,r2.is_int,q.now (.int _)⟩
 ·cases e⟩
def nD(i j:Int):Bool:=(decide (-(2^64)<i)&&decide (i<2^64))||(decide (-(2^64)<j)&&decide (j<2^64))
def gA:D->D->Option D
 | .int i,.int j=>if nD i j=true then some (.int (i*j)) else none
 | .lst _ xs,.int k=>if (D.imms xs&&decide (-(2^63)<=k)&&decide (k<2^63)&&decide (xs.length*k.toNat<=sizeLine))=true then some (.lst true (List.replicate k.toNat xs).flatten) else none
 | .str x,.int n=>if (decide (x.length<=1)&&decide (-(2^63)<=n)&&decide (n<=16777216))=true then some (.str (Txt.mul x n)) else none
 |_,_=>none
theorem yh7:OpR X (binaryOp .Mult) (fun x y H Q=>∃z n,x= .str z/\y= .int n/\MulOk z n/\Q (.str (Txt.mul z n)) H):=⟨by
 rintro pins s σ H x y v u Q I rx ry ⟨z,n,e1,e2,ok,q⟩
 subst e1 e2
 obtain⟨t,rfl⟩:=rx
 obtain⟨t',rfl⟩:=ry
 exact SB.mul ok fun t' k=>⟨.str _,H,I.tok k,⟨_,rfl⟩,q⟩⟩
theorem qL:OpR X (binaryOp .Mult) (POp X.K κ gA):=⟨by
 rintro pins s σ H x y v u Q I rx ry ⟨dx,dy,d,fx,fy,r1,r2,e,q⟩
 unfold gA at e
 split at e
 ·rename_i i j
  obtain⟨hc,e⟩:=bV e
  cases e
  refine mR pins s σ H x y v u Q I rx ry ⟨i,j,r1.is_int,r2.is_int,?_,q.now (.int _)⟩
  unfold nD at hc
  simp only [Bool.or_eq_true,Bool.and_eq_true,decide_eq_true_eq] at hc
  exact hc
 ·rename_i o xs k
  obtain⟨hc,e⟩:=bV e
  simp only [Bool.and_eq_true,decide_eq_true_eq] at hc
  cases e
  obtain⟨a,vs,g,rfl,h1,s1,_⟩:=r1.lst_inv
  have l1:=s1.length
  exact xk9 pins s σ H _ _ v u Q I rx ry ⟨a,k,vs,rfl,r2.is_int,h1,hc.1.1.2,hc.1.2,by rw [l1];exact hc.2,fun p hp=>uH hp (Paired.repl (s1.pair hc.1.1.1) _) q⟩
 ·rename_i z n
  obtain⟨hc,e⟩:=bV e
  simp only [Bool.and_eq_true,decide_eq_true_eq] at hc
  cases e
  exact yh7 pins s σ H _ _ v u Q I rx ry ⟨z,n,r1.is_str,r2.is_int,mulOk_of 1 16777216 hc.1.1 (by omega) hc.1.2 (by decide) (by decide),q.now (.str _)⟩
 ·cases e⟩
def dG:D->D->Option D:=dII (fun _ j=>decide (0<j)) fun i j=> .int (i % j)
theorem fS:OpR X (binaryOp .Mod) (POp X.K κ dG):=⟨by
 rintro pins s σ H x y v u Q I rx ry ⟨dx,dy,d,fx,fy,r1,r2,e,q⟩
 obtain⟨i,j,rfl,rfl,hc,rfl⟩:=zs3 e
 exact za8 pins s σ H x y v u Q I rx ry ⟨i,j,r1.is_int,r2.is_int,of_decide_eq_true hc,q.now (.int _)⟩⟩
def fP:D->D->Option D:=dII (fun _ j=>decide (0<j)&&decide (j<1073741824)) fun i j=> .int (i/j)
theorem lL:OpR X (binaryOp .FloorDiv) (POp X.K κ fP):=⟨by
 rintro pins s σ H x y v u Q I rx ry ⟨dx,dy,d,fx,fy,r1,r2,e,q⟩
 obtain⟨i,j,rfl,rfl,hc,rfl⟩:=zs3 e
 simp only [Bool.and_eq_true,decide_eq_true_eq] at hc
 exact yb0 pins s σ H x y v u Q I rx ry ⟨i,j,r1.is_int,r2.is_int,hc,q.now (.int _)⟩⟩
def D.ints:List D->Option (List Int)
 |[]=>some []
 | .int i::ds=>(D.ints ds).map (i::·)
 |_::_=>none
theorem mF{K:tz0}{H:Hp}:∀{vs:List V} {ds:List D} {fp:List Addr} {ns:List Int},Reps K κ H vs ds fp->D.ints ds=some ns->vs=ns.map V.int
 |_,_,_,_,.nil,e=>by cases e;rfl
 | _,d::ds,_,ns,.cons h hs,e=>by
  cases d with
  |int i=>
   rw [D.ints] at e
   cases e1:D.ints ds with
   |none=>rw [e1] at e;cases e
   |some ms=>rw [e1] at e;cases e;rw [h.is_int,mF hs e1];rfl
  |_=>cases e
def dLt:D->D->Option D
 | .int i,.int j=>some (.bl (decide (i<j)))
 | .str i,.str j=>some (.bl (decide (i.cps.toList<j.cps.toList)))
 | .tup xs,.tup ys=>(D.ints xs).bind fun ns=>(D.ints ys).map fun ms=> .bl (HT.lexLt ns ms)
 |_,_=>none
theorem zg7(hu:X.A.units<cLine):OpR X (compareOp .Lt) (POp X.K κ dLt):=⟨by
 rintro pins s σ H x y v u Q I rx ry ⟨dx,dy,d,fx,fy,r1,r2,e,q⟩
 unfold dLt at e
 split at e
 ·rename_i i j
  cases e;exact xz6 pins s σ H x y v u Q I rx ry ⟨i,j,r1.is_int,r2.is_int,q.now (.bl _)⟩
 ·rename_i i j
  cases e;exact yn3 pins s σ H x y v u Q I rx ry ⟨i,j,r1.is_str,r2.is_str,q.now (.bl _)⟩
 ·rename_i xs ys
  obtain⟨ns,e1,e⟩:=bind_some e
  obtain⟨ms,e2,e⟩:=Option.map_eq_some_iff.mp e
  subst e
  obtain⟨a,vs,rfl,h1,s1⟩:=r1.tup_inv
  obtain⟨b,us,rfl,h2,s2⟩:=r2.tup_inv
  rw [mF s1 e1] at h1
  rw [mF s2 e2] at h2
  exact xs0 hu pins s σ H _ _ v u Q I rx ry ⟨a,b,ns,ms,rfl,rfl,h1,h2,q.now (.bl _)⟩
 ·cases e⟩
def dLe:D->D->Option D
 | .int i,.int j=>some (.bl (decide (i<=j)))
 | .str i,.str j=>some (.bl (!sLt j i))
 |_,_=>none
theorem zs4:OpR X (compareOp .LtE) (POp X.K κ dLe):=⟨by
 rintro pins s σ H x y v u Q I rx ry ⟨dx,dy,d,fx,fy,r1,r2,e,q⟩
 unfold dLe at e
 split at e
 ·rename_i i j
  cases e;exact xz7 pins s σ H x y v u Q I rx ry ⟨i,j,r1.is_int,r2.is_int,q.now (.bl _)⟩
 ·rename_i i j
  cases e;exact yo8 pins s σ H x y v u Q I rx ry ⟨i,j,r1.is_str,r2.is_str,q.now (.bl _)⟩
 ·cases e⟩
def dGt:D->D->Option D
 | .int i,.int j=>some (.bl (decide (j<i)))
 |_,_=>none
theorem zg8:OpR X (compareOp .Gt) (POp X.K κ dGt):=⟨by
 rintro pins s σ H x y v u Q I rx ry ⟨dx,dy,d,fx,fy,r1,r2,e,q⟩
 unfold dGt at e
 split at e
 ·rename_i i j
  cases e;exact xz8 pins s σ H x y v u Q I rx ry ⟨i,j,r1.is_int,r2.is_int,q.now (.bl _)⟩
 ·cases e⟩
def dGe:D->D->Option D
 | .int i,.int j=>some (.bl (decide (j<=i)))
 |_,_=>none
mutual
def D.data:D->Option PyData
 | .non=>some .none
 | .bl b=>some (.bool b)
 | .int i=>some (.int i)
 | .str x=>some (.str x)
 | .tup xs=>(D.datas xs).map .tuple
 | .lst _ xs=>(D.datas xs).map .list
 |_=>none
def D.datas:List D->Option (List PyData)
 |[]=>some []
 |d::ds=>d.data.bind fun p=>(D.datas ds).map (p::·)
end
theorem Reps.dps{K:tz0}{H:Hp}{vs:List V}{ds:List D}{fp:List Addr}(h:Reps K κ H vs ds fp):∀{p:List PyData},D.datas ds=some p->DpAll K H vs p:=
 Reps.rec (motive_1:=fun v d _ _=>∀{p:PyData},d.data=some p->Dp K H v p) (motive_2:=fun vs ds _ _=>∀{p:List PyData},D.datas ds=some p->DpAll K H vs p)
  (fun e=>by cases e;exact .non) (fun b _ e=>by cases e;exact .bl b) (fun b _ e=>by cases e;exact .int b) (fun b _ e=>by cases e;exact .str b) (fun b _ e=>nomatch e)
  (fun h _ ih _ e=>by obtain⟨ps,e1,e⟩:=Option.map_eq_some_iff.mp e;subst e;exact .tup h (ih e1)) (fun _ _ _ _ e=>nomatch e)
  (fun h _ ih _ e=>by obtain⟨ps,e1,e⟩:=Option.map_eq_some_iff.mp e;subst e;exact .lst (.inl (.inl h)) (ih e1))
  (fun h _ ih _ e=>by obtain⟨ps,e1,e⟩:=Option.map_eq_some_iff.mp e;subst e;exact .lst (.inl (.inr ⟨_,h⟩)) (ih e1))
  (fun _ _ _ _ _ e=>nomatch e) (fun _ _ _ _ _ e=>nomatch e) (fun _ _ _ _ _ e=>nomatch e) (fun _ _ _ _ _ e=>nomatch e)
  (fun e=>by cases e;exact .nil)
  (fun _ _ i1 i2 _ e=>by
   obtain⟨q,e1,e⟩:=bind_some e
   obtain⟨qs,e2,e⟩:=Option.map_eq_some_iff.mp e
   subst e
   exact .cons (i1 e1) (i2 e2)) h
theorem Rep.dp{K:tz0}{H:Hp}{v:V}{d:D}{fp:List Addr}{p:PyData}(h:Rep K κ H v d fp)(e:d.data=some p):Dp K H v p:=by
 have:=(Reps.one h).dps (p:=[p]) (by show(d.data.bind _)=_;rw [e];rfl)
 cases this;assumption
def rV(x y:D):Option Bool:=x.data.bind fun a=>y.data.bind fun b=>if (a.canLay0&&b.canLay0&&decide (a.depth<=60))=true then some (PyData.eqv a b) else none
def eqB(x y:D):Option Bool:=match x,y with
 | .int i,.int j=>some (decide (i=j))
 | .str i,.str j=>some (decide (i=j))
 |x,y=>rV x y
def dEq(x y:D):Option D:=(eqB x y).map .bl
def dNe(x y:D):Option D:=(eqB x y).map fun b=> .bl (!b)
theorem zk7(h:eqB x y=some b):(∃i j,x= .int i/\y= .int j/\b=decide (i=j))\/(∃i j,x= .str i/\y= .str j/\b=decide (i=j))\/
  ∃p q,x.data=some p/\y.data=some q/\p.canLay0=true/\q.canLay0=true/\p.depth<=60/\b=PyData.eqv p q:=by
 have gen:rV x y=some b->∃p q,x.data=some p/\y.data=some q/\p.canLay0=true/\q.canLay0=true/\p.depth<=60/\b=PyData.eqv p q:=fun h=>by
  unfold rV at h
  cases e1:x.data with
  |none=>rw [e1] at h;cases h
  | some p=>
   rw [e1] at h
   cases e2:y.data with
   |none=>rw [e2] at h;cases h
   | some q=>
    rw [e2] at h
    have h':(if (p.canLay0&&q.canLay0&&decide (p.depth<=60))=true then some (PyData.eqv p q) else none)=some b:=h
    split at h'
    ·rename_i hc
     simp only [Bool.and_eq_true,decide_eq_true_eq] at hc
     exact⟨p,q,rfl,rfl,hc.1.1,hc.1.2,hc.2,(Option.some.inj h').symm⟩
    ·cases h'
 unfold eqB at h
 split at h
 ·cases h;exact .inl ⟨_,_,rfl,rfl,rfl⟩
 ·cases h;exact .inr (.inl ⟨_,_,rfl,rfl,rfl⟩)
 ·exact .inr (.inr (gen h))
theorem fW(hu:X.A.units+64<cLine):OpR X (compareOp .Eq) (POp X.K κ dEq):=⟨by
 rintro pins s σ H x y v u Q I rx ry ⟨dx,dy,d,fx,fy,r1,r2,e,q⟩
 unfold dEq at e
 cases e1:eqB dx dy with
 |none=>rw [e1] at e;cases e
 | some b=>
  rw [e1] at e
  cases e
  rcases zk7 e1 with ⟨i,j,rfl,rfl,rfl⟩|⟨i,j,rfl,rfl,rfl⟩|⟨p,p',h1,h2,h3,h4,h5,rfl⟩
  ·rw [r1.is_int] at rx;rw [r2.is_int] at ry
   exact yg0 pins s σ H _ _ v u Q I rx ry ⟨rfl,by rw [show decide (V.int i=V.int j)=decide (i=j) by simp];exact q.now (.bl _)⟩
  ·rw [r1.is_str] at rx;rw [r2.is_str] at ry
   exact yg0 pins s σ H _ _ v u Q I rx ry ⟨rfl,by rw [show decide (V.str i=V.str j)=decide (i=j) by simp];exact q.now (.bl _)⟩
  ·exact xt2 hu pins s σ H _ _ v u Q I rx ry ⟨p,p',r1.dp h1,r2.dp h2,h3,h4,h5,q.now (.bl _)⟩⟩
theorem yz0(hu:X.A.units+64<cLine):OpR X (compareOp .NotEq) (POp X.K κ dNe):=⟨by
 rintro pins s σ H x y v u Q I rx ry ⟨dx,dy,d,fx,fy,r1,r2,e,q⟩
 unfold dNe at e
 cases e1:eqB dx dy with
 |none=>rw [e1] at e;cases e
 | some b=>
  rw [e1] at e
  cases e
  rcases zk7 e1 with ⟨i,j,rfl,rfl,rfl⟩|⟨i,j,rfl,rfl,rfl⟩|⟨p,p',h1,h2,h3,h4,h5,rfl⟩
  ·rw [r1.is_int] at rx;rw [r2.is_int] at ry
   exact xg1 pins s σ H _ _ v u Q I rx ry ⟨rfl,by rw [show decide (V.int i=V.int j)=decide (i=j) by simp];exact q.now (.bl _)⟩
  ·rw [r1.is_str] at rx;rw [r2.is_str] at ry
   exact xg1 pins s σ H _ _ v u Q I rx ry ⟨rfl,by rw [show decide (V.str i=V.str j)=decide (i=j) by simp];exact q.now (.bl _)⟩
  ·exact xt3 hu pins s σ H _ _ v u Q I rx ry ⟨p,p',r1.dp h1,r2.dp h2,h3,h4,h5,q.now (.bl _)⟩⟩
def ze6:D->Bool
 | .non=>true
 |_=>false
theorem zs5{K:tz0}{H:Hp}{v:V}{d:D}{fp:List Addr}(r:Rep K κ H v d fp):decide (v= .non)=ze6 d:=by cases r<;>first|rfl|simp [ze6]
def dIs:D->D->Option D
 |x,.non=>some (.bl (ze6 x))
 |_,_=>none
def xQ:D->D->Option D
 |x,.non=>some (.bl (!(ze6 x)))
 |_,_=>none
theorem wd9:OpR X (compareOp .Is) (POp X.K κ dIs):=⟨by
 rintro pins s σ H x y v u Q I rx ry ⟨dx,dy,d,fx,fy,r1,r2,e,q⟩
 cases dy with
 |non=>
  cases e;cases r2
  refine xr2 pins s σ H x _ v u Q I rx ry ⟨rfl,?_⟩
  rw [zs5 r1];exact q.now (.bl _)
 |_=>cases e⟩
theorem yc2:OpR X (compareOp .IsNot) (POp X.K κ xQ):=⟨by
 rintro pins s σ H x y v u Q I rx ry ⟨dx,dy,d,fx,fy,r1,r2,e,q⟩
 cases dy with
 |non=>
  cases e;cases r2
  refine xi9 pins s σ H x _ v u Q I rx ry ⟨rfl,?_⟩
  rw [zs5 r1];exact q.now (.bl _)
 |_=>cases e⟩
def D.flat:D->Option V
 | .non=>some .non
 | .bl b=>some (.bl b)
 | .int i=>some (.int i)
 | .str x=>some (.str x)
 |_=>none
def D.flats:List D->Option (List V)
 |[]=>some []
 |d::ds=>d.flat.bind fun v=>(D.flats ds).map (v::·)
theorem yc3{K:tz0}{H:Hp}{v w:V}{d:D}{fp:List Addr}(r:Rep K κ H v d fp)(h:d.flat=some w):v=w/\jY v=true:=by
 cases r<;>first|(cases h;exact⟨rfl,rfl⟩)|cases h
theorem zs6{K:tz0}{H:Hp}:∀{vs ws:List V} {ds:List D} {fp:List Addr},Reps K κ H vs ds fp->D.flats ds=some ws->vs=ws/\vs.all jY=true
 |_,_,_,_,.nil,e=>by cases e;exact⟨rfl,rfl⟩
 | _,ws,d::ds,_,.cons h hs,e=>by
  rw [D.flats] at e
  cases e1:d.flat with
  |none=>rw [e1] at e;cases e
  | some w=>
   rw [e1] at e
   cases e2:D.flats ds with
   |none=>rw [e2] at e;cases e
   |some us=>
    rw [e2] at e;cases e
    obtain⟨a1,a2⟩:=yc3 h e1
    obtain⟨b1,b2⟩:=zs6 hs e2
    exact⟨by rw [a1,b1],by rw [List.all_cons,a2,b2];rfl⟩
def kX(x:D)(ds:List D):Option Bool:=x.flat.bind fun v=>(D.flats ds).map fun ws=>inV v ws
def inB(x:D):D->Option Bool
 | .lst _ ds=>kX x ds
 | .tup ds=>kX x ds
 |_=>none
def dIn(x y:D):Option D:=(inB x y).map .bl
theorem xt6{H:Hp}{x y:V}{dx dy:D}{fx fy:List Addr}{b:Bool}(r1:Rep X.K κ H x dx fx)(r2:Rep X.K κ H y dy fy)(e:inB dx dy=some b):
  ∃p xs,y= .ref p/\(SqL X.K H p xs\/SqT X.K H p xs)/\jY x=true/\xs.all jY=true/\b=inV x xs:=by
 have gen:∀{vs:List V} {ds:List D} {g:List Addr},Reps X.K κ H vs ds g->kX dx ds=some b->jY x=true/\vs.all jY=true/\b=inV x vs:=fun {vs ds g} rs h=>by
  unfold kX at h
  cases e1:dx.flat with
  |none=>rw [e1] at h;cases h
  | some w=>
   rw [e1] at h
   cases e2:D.flats ds with
   |none=>rw [e2] at h;cases h
   |some ws=>
    rw [e2] at h
    obtain⟨a1,a2⟩:=yc3 r1 e1
    obtain⟨b1,b2⟩:=zs6 rs e2
    subst a1 b1
    exact⟨a2,b2,(Option.some.inj h).symm⟩
 cases dy with
 |lst o ds=>
  obtain⟨a,vs,g,rfl,h,hs,_⟩:=r2.lst_inv
  obtain⟨g1,g2,g3⟩:=gen hs e
  exact⟨a,vs,rfl,.inl (.inl h),g1,g2,g3⟩
 |tup ds=>
  obtain⟨a,vs,rfl,h,hs⟩:=r2.tup_inv
  obtain⟨g1,g2,g3⟩:=gen hs e
  exact⟨a,vs,rfl,.inr h,g1,g2,g3⟩
 |_=>cases e
theorem we0:OpR X (compareOp .In) (POp X.K κ dIn):=⟨by
 rintro pins s σ H x y v u Q I rx ry ⟨dx,dy,d,fx,fy,r1,r2,e,q⟩
 unfold dIn at e
 cases e1:inB dx dy with
 |none=>rw [e1] at e;cases e
 |some b=>
  rw [e1] at e;cases e
  obtain⟨p,xs,ey,h,f1,f2,rfl⟩:=xt6 r1 r2 e1
  exact yo0 pins s σ H x y v u Q I rx ry ⟨p,xs,ey,h,f1,f2,q.now (.bl _)⟩⟩
end
theorem Reps.getS{K:tz0}{κ:tz9}{H:Hp}:∀{vs:List V} {ds:List D} {fp:List Addr} {i:Nat} {d:D},Reps K κ H vs ds fp->ds[i]? =some d->∃v f,vs[i]? =some v/\Rep K κ H v d f/\f.Sublist fp
 |_,_,_,_,_,.nil,e=>by simp at e
 |_,_,_,0,_,.cons h _,e=>by simp at e;subst e;exact⟨_,_,rfl,h,List.sublist_append_left _ _⟩
 |_,_,_,i+1,_,.cons _ hs,e=>by
  obtain⟨v,f,h1,h2,h3⟩:=Reps.getS (i:=i) hs (by simpa using e)
  exact⟨v,f,by simpa using h1,h2,h3.trans (List.sublist_append_right _ _)⟩
theorem Reps.atI{K:tz0}{κ:tz9}{H:Hp}{vs:List V}{ds:List D}{fp:List Addr}{i:Int}{d:D}(r:Reps K κ H vs ds fp)(h:L2.atI ds i=some d):∃v f,L2.atI vs i=some v/\Rep K κ H v d f/\f.Sublist fp:=by
 unfold L2.atI at h|-
 rw [r.length]
 cases e:ixN ds.length i with
 |none=>rw [e] at h;cases h
 |some j=>rw [e] at h;exact r.getS h
section
variable{X:Cx}{κ:tz9}{e a b:Expr}{es:List Expr}{f fa fb:tz2}{g:tz3}{pos p2:Pos}
def aE:tz3:=fun _=>some []
def aB(f:tz2)(g:tz3):tz3:=fun ps=>(f ps).bind fun d=>(g ps).bind fun ds=>some (d::ds)
theorem vA(h:aB f g ps=some ds):∃d es,f ps=some d/\g ps=some es/\ds=d::es:=by
 unfold aB at h
 cases e1:f ps with
 |none=>rw [e1] at h;cases h
 |some d=>
  rw [e1] at h
  cases e2:g ps with
  |none=>rw [e2] at h;cases h
  |some es=>rw [e2] at h;cases h;exact⟨d,es,rfl,rfl,rfl⟩
theorem aS:QVA X κ [] aE:=mS.imp fun σ H Q ⟨ps,ds,w,e,q⟩=>by cases e;exact q [] H [] (.refl H) .nil
theorem aG(ha:QV X κ e f)(hr:QVA X κ es g)(hs:starEach (e::es) X.env=(false,eval e X.env)::starEach es X.env:=by rfl):QVA X κ (e::es) (aB f g):=
 (fM ha hr hs).imp fun σ H Q hh_=>by
  obtain⟨ps,ds,w,e,q⟩:=hh_
  obtain⟨d,es,e1,e2,rfl⟩:=vA e
  exact⟨ps,d,w,e1,fun v H1 fp s1 r1=>⟨ps,es,w.same s1,e2,fun vs H2 fq s2 r2=>q _ H2 _ (s1.trans s2) (.cons (r1.same s2) r2)⟩⟩
theorem bC:QPA X κ [] aE:=mS.imp fun σ H Q ⟨ps,ds,w,e,q⟩=>by cases e;exact q [] H [] (.refl H) (fun _ h=>absurd h (by simp)) List.nodup_nil .nil
theorem yp7{K:tz0}{H1:Hp}{v:V}{d:D}{fv fw:List Addr}(r:Rep K κ H1 v d fv)(n1:fv.Nodup)(hw:∀a∈fw,H1 a=none)(n2:fw.Nodup):(fv++fw).Nodup:=by
 rw [List.nodup_append]
 refine⟨n1,n2,fun a ha b hb e=> ?_⟩
 subst e
 obtain⟨o,h,_⟩:=r.own a ha
 rw [hw a hb] at h;cases h
theorem aK(ha:QP X κ e f)(hr:QPA X κ es g)(hs:starEach (e::es) X.env=(false,eval e X.env)::starEach es X.env:=by rfl):QPA X κ (e::es) (aB f g):=
 (fM ha hr hs).imp fun σ H Q hh_=>by
  obtain⟨ps,ds,w,e,q⟩:=hh_
  obtain⟨d,es,e1,e2,rfl⟩:=vA e
  refine⟨ps,d,w,e1,fun v H1 fv s1 n1 nd1 r1=>⟨ps,es,w.same s1,e2,fun vs H2 fw s2 n2 nd2 r2=> ?_⟩⟩
  refine q _ H2 (fv++fw) (s1.trans s2) (fun a ha=> ?_) (yp7 r1 nd1 n2 nd2) (.cons (r1.same s2) r2)
  rcases List.mem_append.mp ha with z|z
  ·exact n1 a z
  ·exact s1.grow a (n2 a z)
def bN(g:tz3):tz2:=fun ps=>(g ps).bind fun ds=>if (D.imms ds&&decide (ds.length<=1000))=true then some (.tup ds) else none
def cT(g:tz3):tz2:=fun ps=>(g ps).bind fun ds=>if ds.length<=1000 then some (.lst true ds) else none
theorem cP{x1}(h:QPA X κ es g):QP X κ (.Tuple es x1 pos) (bN g):=
 (xr6 h).imp fun σ H Q hh_=>by
  obtain⟨ps,d,w,e,q⟩:=hh_
  obtain⟨ds,e1,e2⟩:=bind_some e
  obtain⟨hc,e3⟩:=bV e2
  cases e3
  rw [Bool.and_eq_true,decide_eq_true_eq] at hc
  refine⟨ps,ds,w,e1,fun vs H1 fv s1 n1 nd1 r1=>⟨by rw [r1.length];exact zo9 hc.2,fun p hp=> ?_⟩⟩
  exact yE hp (r1.pair hc.1) (q.after s1)
theorem dR(h:QPA X κ es g):QP X κ (.List es pos) (cT g):=
 (xr7 h).imp fun σ H Q hh_=>by
  obtain⟨ps,d,w,e,q⟩:=hh_
  obtain⟨ds,e1,e2⟩:=bind_some e
  obtain⟨hc,e3⟩:=bV e2
  cases e3
  refine⟨ps,ds,w,e1,fun vs H1 fv s1 n1 nd1 r1=>⟨by rw [r1.length];exact zo9 hc,fun p hp=> ?_⟩⟩
  refine q _ _ (p::fv) (s1.trans (.new hp _)) (fun a ha=> ?_) (List.nodup_cons.mpr ⟨fun hm=> ?_,nd1⟩) (.lst cJ (r1.same (.new hp _)))
  ·rcases List.mem_cons.mp ha with z|z
   ·rw [z];exact s1.grow p hp
   ·exact n1 a z
  ·obtain⟨o,h,_⟩:=r1.own p hm
   rw [hp] at h;cases h
def dIx:D->D->Option D
 | .lst _ xs,.int i=>atI xs i
 | .tup xs,.int i=>atI xs i
 | .con xs,.int i=>atI xs i
 | .str z,.int i=>if z.length<=sizeLine then(atI z.cps.toList i).map fun c=> .str ⟨#[c]⟩ else none
 |_,_=>none
theorem yp8{K:tz0}{H:Hp}{x y:V}{dx dy d:D}{fx fy:List Addr}{Q:VK}(r1:Rep K κ H x dx fx)(r2:Rep K κ H y dy fy)(e:dIx dx dy=some d)(q:∀v f,Rep K κ H v d f->f.Sublist fx->Q v H):rIx K x y H Q:=by
 unfold dIx at e
 split at e
 ·rename_i o xs i
  obtain⟨a,vs,g,rfl,h,hs,sub⟩:=r1.lst_inv
  obtain⟨v,f,h1,h2,h3⟩:=hs.atI e
  exact .inl ⟨a,vs,i,v,rfl,r2.is_int,.inl h,h1,q v f h2 (h3.trans sub)⟩
 ·rename_i xs i
  obtain⟨a,vs,rfl,h,hs⟩:=r1.tup_inv
  obtain⟨v,f,h1,h2,h3⟩:=hs.atI e
  cases List.sublist_nil.mp h3
  exact .inr (.inl ⟨a,vs,i,v,rfl,r2.is_int,h,h1,q v [] h2 (List.nil_sublist _)⟩)
 ·rename_i xs i
  obtain⟨a,vs,rfl,h,hs⟩:=r1.con_inv
  obtain⟨v,f,h1,h2,h3⟩:=hs.atI e
  cases List.sublist_nil.mp h3
  exact .inl ⟨a,vs,i,v,rfl,r2.is_int,h.l,h1,q v [] h2 (List.nil_sublist _)⟩
 ·rename_i z i
  obtain⟨hz,e⟩:=bV e
  obtain⟨c,e1,e⟩:=Option.map_eq_some_iff.mp e
  subst e
  exact .inr (.inr ⟨z,i,c,r1.is_str,r2.is_int,hz,e1,q _ [] (.str _) (List.nil_sublist _)⟩)
 ·cases e
theorem bB(ha:QV X κ a fa)(hb:QV X κ b fb)(hs:yO b:=by exact fun _ _=>rfl):QV X κ (.Subscript a b pos) (f2 dIx fa fb):=
 (zo8 yn8 ha hb hs).imp fun σ H Q hh_=>by
  obtain⟨ps,d,w,e,q⟩:=hh_
  obtain⟨x,y,e1,e2,e3⟩:=uE e
  exact⟨ps,x,w,e1,fun v H1 fp s1 r1=>⟨ps,y,w.same s1,e2,fun u H2 fq s2 r2=>yp8 (r1.same s2) r2 e3 fun v f r _=>q v H2 f (s1.trans s2) r⟩⟩
theorem sK(ha:QP X κ a fa)(hb:QV X κ b fb)(hs:yO b:=by exact fun _ _=>rfl):QP X κ (.Subscript a b pos) (f2 dIx fa fb):=
 (zo8 yn8 ha hb hs).imp fun σ H Q hh_=>by
  obtain⟨ps,d,w,e,q⟩:=hh_
  obtain⟨x,y,e1,e2,e3⟩:=uE e
  exact⟨ps,x,w,e1,fun v H1 fv s1 n1 nd1 r1=>⟨ps,y,w.same s1,e2,fun u H2 fq s2 r2=>yp8 (r1.same s2) r2 e3 fun v f r sub=>q v H2 f (s1.trans s2) (fun c hc=>n1 c (sub.subset hc)) (nd1.sublist sub) r⟩⟩
def tO(K:tz0)(κ:tz9)(f:PSt->Option (Option Int)):TO:=fun σ H Q=>∃ps o,WS K κ H σ ps/\f ps=some o/\∀H',SameK H H'->Q o H'
abbrev QO(X:Cx)(κ:tz9)(e:Option Expr)(f:PSt->Option (Option Int)):Prop:=PO X e (tO X.K κ f)
def iG:PSt->Option (Option Int):=fun _=>some none
def lN(f:tz2):PSt->Option (Option Int):=fun ps=>(f ps).bind fun d=>match d with
 | .int i=>some (some i)
 |_=>none
theorem xl0:QO X κ none iG:=⟨fun pins s σ H Q I ⟨ps,o,w,e,q⟩=>by cases e;exact xj4 pins s σ H Q I (q H (.refl H))⟩
theorem xl1(h:QV X κ e f):QO X κ (some e) (lN f):=⟨fun pins s σ H Q I hh_=>by
 obtain⟨ps,o,w,e,q⟩:=hh_
 obtain⟨d,e1,e2⟩:=bind_some e
 cases d with
 |int i=>cases e2;exact xj5 h pins s σ H Q I ⟨ps,_,w,e1,fun v H1 fp s1 r1=>⟨i,r1.is_int,q H1 s1⟩⟩
 |_=>cases e2⟩
def zi8(xs:List D)(lo hi:Option Int):List D:=(xs.drop (HT.sIx xs.length 0 lo)).take (HT.sIx xs.length xs.length hi-HT.sIx xs.length 0 lo)
def dSl:D->Option Int->Option Int->Option D
 | .lst _ xs,lo,hi=>if D.imms xs=true then some (.lst true (zi8 xs lo hi)) else none
 | .tup xs,lo,hi=>some (.tup (zi8 xs lo hi))
 | .str z,lo,hi=>if z.length<=sizeLine then some (.str (Txt.slice z lo hi)) else none
 |_,_,_=>none
theorem zs7{K:tz0}{H:Hp}{vs:List V}{ds:List D}{lo hi:Option Int}(r:Paired (fun v d=>Rep K κ H v d []) vs ds):Paired (fun v d=>Rep K κ H v d []) (vR vs lo hi) (zi8 ds lo hi):=by
 unfold vR zi8
 rw [Paired.length r]
 exact Paired.takeN _ (Paired.dropN _ r)
def PSl(K:tz0)(κ:tz9):V->Option Int->Option Int->Hp->VK->Prop:=fun x lo hi H Q=>∃dx d fx,Rep K κ H x dx fx/\dSl dx lo hi=some d/\jT K κ H d Q
theorem xt7:SlR X (PSl X.K κ):=by
 rintro pins s σ H x v vl vu lo hi sl Q I rx hs pl pu ⟨dx,d,fx,r,e,q⟩
 unfold dSl at e
 split at e
 ·obtain⟨hc,e2⟩:=bV e
  cases e2
  obtain⟨a,vs,g,rfl,h,rs,sub⟩:=r.lst_inv
  exact xj7 pins s σ H _ v vl vu _ _ sl Q I rx hs pl pu ⟨a,vs,rfl,.inl h,fun p hp=>uH hp (zs7 (rs.pair hc)) q⟩
 ·rename_i xs
  cases e
  obtain⟨a,vs,rfl,h,rs⟩:=r.tup_inv
  refine xk5 pins s σ H _ v vl vu _ _ sl Q I rx hs pl pu ⟨a,vs,rfl,h,fun hw=> ?_,fun p hp=>yE hp (zs7 rs.nilp) q⟩
  have e1:zi8 xs lo hi=xs:=by
   unfold zi8
   rw [<-rs.length,hw.1,hw.2,List.drop_zero,Nat.sub_zero,rs.length,List.take_length]
  rw [e1] at q
  exact q.now (.tup h rs)
 ·obtain⟨hc,e2⟩:=bV e
  cases e2
  exact xt1 pins s σ H _ v vl vu _ _ sl Q I rx hs pl pu ⟨_,r.is_str,hc,q.now (.str _)⟩
 ·cases e
def fSl(f:tz2)(fl fh:PSt->Option (Option Int)):tz2:=fun ps=>(f ps).bind fun d=>(fl ps).bind fun l=>(fh ps).bind fun h=>dSl d l h
theorem yz1{lo hi:Option Expr}{fl fh:PSt->Option (Option Int)}(he:QV X κ e f)(hl:QO X κ lo fl)(hh:QO X κ hi fh):QP X κ (.Subscript e (.Slice lo hi none p2) pos) (fSl f fl fh):=
 (yy0 xt7 he hl hh).imp fun σ H Q hh_=>by
  obtain⟨ps,d,w,e,q⟩:=hh_
  obtain⟨d1,e1,e2⟩:=bind_some e
  obtain⟨l,e3,e4⟩:=bind_some e2
  obtain⟨h,e5,e6⟩:=bind_some e4
  exact⟨ps,d1,w,e1,fun v H1 fp s1 r1=>⟨ps,l,w.same s1,e3,fun H2 s2=>⟨ps,h,(w.same s1).same s2,e5,fun H3 s3=>⟨d1,d,fp,(r1.same s2).same s3,e6,q.after ((s1.trans s2).trans s3)⟩⟩⟩⟩
def PCl(K:tz0)(κ:tz9)(g:tz6):List V->Hp->VK->Prop:=fun vs H Q=>∃ds fp d,Reps K κ H vs ds fp/\g ds=some d/\jT K κ H d Q
def aJ(h:tz6)(g:tz3):tz2:=fun ps=>(g ps).bind h
theorem yp9(q:tP X.K κ (aJ h g) σ H Q):tCB (PCl X.K κ h) (tVA X.K κ g) σ H Q:=by
 obtain⟨ps,d,w,e,q⟩:=q
 obtain⟨ds,e1,e2⟩:=bind_some e
 exact⟨ps,ds,w,e1,fun vs H1 fp s1 r1=>⟨ds,fp,d,r1,e2,q.after s1⟩⟩
theorem cS{x:Str}{id:String}{p:Pos}{h:tz6}(hc:CallR X (.builtin id) (PCl X.K κ h))(hg:Gl X x)(hm:X.mg x=none)(hv:bootBuiltins x=some (.builtin id))(ha:QVA X κ (e::es) g)(hn:x≠"__name__":=by decide)(hdb:(x==("__debug__":Str))=false:=by decide)
  (hs:starEach (e::es) X.env=(false,eval e X.env)::starEach es X.env:=by rfl) (hpl:(backTo pos (starEach es X.env)).any (·.1)=false:=by rfl):QP X κ (.Call (.Name x p) (e::es) [] pos) (aJ h g):=
 (rD hc hg hm hv ha hn hdb hs hpl).imp fun _ _ _ q=>yp9 q
theorem kB(hc:CallR X (.type T) (PCl X.K κ h))(hg:Gl X x)(hm:X.mg x=none)(hv:bootBuiltins x=some (.type T))(ha:QVA X κ (e::es) g)(hn:x≠"__name__":=by decide)(hdb:(x==("__debug__":Str))=false:=by decide)
  (hs:starEach (e::es) X.env=(false,eval e X.env)::starEach es X.env:=by rfl) (hpl:(backTo pos (starEach es X.env)).any (·.1)=false:=by rfl):QP X κ (.Call (.Name x p) (e::es) [] pos) (aJ h g):=
 (yn7 hc hg hm hv ha hn hdb hs hpl).imp fun _ _ _ q=>yp9 q
theorem Reps.two_inv{K:tz0}{H:Hp}{vs:List V}{d e:D}{fp:List Addr}(r:Reps K κ H vs [d,e] fp):∃v u f g,vs=[v,u]/\Rep K κ H v d f/\Rep K κ H u e g:=by
 obtain⟨v,us,f,g,rfl,h,t,rfl⟩:=r.split
 obtain⟨u,rfl,h2⟩:=t.one_inv
 exact⟨v,u,f,g,rfl,h,h2⟩
def cZ:tz6
 |[.lst _ xs]=>some (.int xs.length)
 |[.tup xs]=>some (.int xs.length)
 |[.con xs]=>some (.int xs.length)
 |[.str z]=>if z.length<=sizeLine then some (.int z.length) else none
 |_=>none
theorem iH:CallR X (.builtin "len") (PCl X.K κ cZ):=⟨by
 rintro pins s σ H vs us Q I r ⟨ds,fp,d,rs,e,q⟩
 unfold cZ at e
 split at e
 ·cases e
  obtain⟨v,rfl,r1⟩:=rs.one_inv
  obtain⟨a,ws,g,rfl,h,hs,_⟩:=r1.lst_inv
  exact iV pins s σ H _ us Q I r ⟨a,ws,rfl,.inl (.inl h),by rw [hs.length];exact q.now (.int _)⟩
 ·cases e
  obtain⟨v,rfl,r1⟩:=rs.one_inv
  obtain⟨a,ws,rfl,h,hs⟩:=r1.tup_inv
  exact iV pins s σ H _ us Q I r ⟨a,ws,rfl,.inr h,by rw [hs.length];exact q.now (.int _)⟩
 ·cases e
  obtain⟨v,rfl,r1⟩:=rs.one_inv
  obtain⟨a,ws,rfl,h,hs⟩:=r1.con_inv
  exact iV pins s σ H _ us Q I r ⟨a,ws,rfl,.inl h.l,by rw [hs.length];exact q.now (.int _)⟩
 ·obtain⟨hz,e⟩:=bV e
  cases e
  obtain⟨v,rfl,r1⟩:=rs.one_inv
  exact zs1 pins s σ H _ us Q I r ⟨_,by rw [r1.is_str],hz,q.now (.int _)⟩
 ·cases e⟩
def vT:tz6
 |[.int i,.int j]=>some (.int (if j>i then j else i))
 |_=>none
def oO:tz6
 |[.int i,.int j]=>some (.int (if j<i then j else i))
 |_=>none
theorem xt8(hc:X.calm=true):CallR X (.builtin "max") (PCl X.K κ vT):=⟨by
 rintro pins s σ H vs us Q I r ⟨ds,fp,d,rs,e,q⟩
 unfold vT at e
 split at e
 ·cases e
  obtain⟨v,u,f,g,rfl,r1,r2⟩:=rs.two_inv
  exact zj4 hc pins s σ H _ us Q I r ⟨_,_,by rw [r1.is_int,r2.is_int],q.now (.int _)⟩
 ·cases e⟩
theorem yq0(hc:X.calm=true):CallR X (.builtin "min") (PCl X.K κ oO):=⟨by
 rintro pins s σ H vs us Q I r ⟨ds,fp,d,rs,e,q⟩
 unfold oO at e
 split at e
 ·cases e
  obtain⟨v,u,f,g,rfl,r1,r2⟩:=rs.two_inv
  exact yn4 hc pins s σ H _ us Q I r ⟨_,_,by rw [r1.is_int,r2.is_int],q.now (.int _)⟩
 ·cases e⟩
def zp7:tz6
 |[.lst _ xs]=>if D.imms xs=true then some (.lst true xs) else none
 |[.tup xs]=>some (.lst true xs)
 |_=>none
def gB:tz6
 |[.lst _ xs]=>if D.imms xs=true then some (.tup xs) else none
 |[.tup xs]=>some (.tup xs)
 |_=>none
theorem qU:CallR X (.type "tuple") (PCl X.K κ gB):=⟨by
 rintro pins s σ H vs us Q I r ⟨ds,fp,d,rs,e,q⟩
 unfold gB at e
 split at e
 ·obtain⟨hc,e⟩:=bV e
  cases e
  obtain⟨v,rfl,r1⟩:=rs.one_inv
  obtain⟨a,ws,g,rfl,h,hs,_⟩:=r1.lst_inv
  exact wH pins s σ H _ us Q I r ⟨a,ws,rfl,.inl ⟨.inl h,fun p hp=>yE hp (hs.pair hc) q⟩⟩
 ·cases e
  obtain⟨v,rfl,r1⟩:=rs.one_inv
  obtain⟨a,ws,rfl,h,hs⟩:=r1.tup_inv
  exact wH pins s σ H _ us Q I r ⟨a,ws,rfl,.inr ⟨h,q.now (.tup h hs)⟩⟩
 ·cases e⟩
def lO:tz6
 |[.int i]=>some (.int i)
 |[.bl k]=>some (.int (if k then 1 else 0))
 |_=>none
theorem wa3:CallR X (.type "int") (PCl X.K κ lO):=⟨by
 rintro pins s σ H vs us Q I r ⟨ds,fp,d,rs,e,q⟩
 unfold lO at e
 split at e
 ·cases e
  obtain⟨v,rfl,r1⟩:=rs.one_inv
  exact zj5 pins s σ H _ us Q I r (.inl ⟨_,by rw [r1.is_int],q.now (.int _)⟩)
 ·cases e
  obtain⟨v,rfl,r1⟩:=rs.one_inv
  exact zj5 pins s σ H _ us Q I r (.inr ⟨_,by rw [r1.is_bl],q.now (.int _)⟩)
 ·cases e⟩
def D.bools:List D->Option (List Bool)
 |[]=>some []
 | .bl b::ds=>(D.bools ds).map (b::·)
 |_::_=>none
theorem zs8{K:tz0}{H:Hp}:∀{vs:List V} {ds:List D} {fp:List Addr} {ns:List Bool},Reps K κ H vs ds fp->D.bools ds=some ns->vs=ns.map V.bl
 |_,_,_,_,.nil,e=>by cases e;rfl
 | _,d::ds,_,ns,.cons h hs,e=>by
  cases d with
  |bl i=>
   rw [D.bools] at e
   cases e1:D.bools ds with
   |none=>rw [e1] at e;cases e
   |some ms=>rw [e1] at e;cases e;rw [h.is_bl,zs8 hs e1];rfl
  |_=>cases e
def yk8:tz6
 |[.lst _ xs]=>(D.bools xs).map fun bs=> .bl (bs.all id)
 |_=>none
theorem wa4(hc:X.calm=true):CallR X (.builtin "all") (PCl X.K κ yk8):=⟨by
 rintro pins s σ H vs us Q I r ⟨ds,fp,d,rs,e,q⟩
 unfold yk8 at e
 split at e
 ·rename_i xs
  cases e1:D.bools xs with
  |none=>rw [e1] at e;cases e
  |some bs=>
   rw [e1] at e;cases e
   obtain⟨v,rfl,r1⟩:=rs.one_inv
   obtain⟨a,ws,g,rfl,h,hs,_⟩:=r1.lst_inv
   rw [zs8 hs e1] at h
   exact yo9 hc pins s σ H _ us Q I r ⟨a,bs,rfl,.inl h,q.now (.bl _)⟩
 ·cases e⟩
def yk9:tz6
 |[.lst _ xs]=>(D.ints xs).map fun ns=> .int ns.sum
 |_=>none
theorem wa5(hc:X.calm=true):CallR X (.builtin "sum") (PCl X.K κ yk9):=⟨by
 rintro pins s σ H vs us Q I r ⟨ds,fp,d,rs,e,q⟩
 unfold yk9 at e
 split at e
 ·rename_i xs
  cases e1:D.ints xs with
  |none=>rw [e1] at e;cases e
  |some bs=>
   rw [e1] at e;cases e
   obtain⟨v,rfl,r1⟩:=rs.one_inv
   obtain⟨a,ws,g,rfl,h,hs,_⟩:=r1.lst_inv
   rw [mF hs e1] at h
   exact yp0 hc pins s σ H _ us Q I r ⟨a,bs,rfl,.inl h,q.now (.int _)⟩
 ·cases e⟩
def PMt(K:tz0)(κ:tz9)(g:D->tz6):V->List V->Hp->VK->Prop:=fun x vs H Q=>∃dx ds fx fp d,Rep K κ H x dx fx/\Reps K κ H vs ds fp/\g dx ds=some d/\jT K κ H d Q
def ze7:D->Bool
 | .str _=>true
 |_=>false
def fMt(h:D->tz6)(f:tz2)(g:tz3):tz2:=fun ps=>(f ps).bind fun x=>(g ps).bind fun ds=>if ze7 x=true then h x ds else none
theorem zp0{name:Str}{id:String}{apos:Pos}{h:D->tz6}(slot:Slot "str" name id)(hty:typeOf (.builtin id)=pure (.type "method_descriptor"))(hm:MtR X id (PMt X.K κ h))(ho:QV X κ a fa)(ha:QVA X κ (e::es) g)
  (hbase:attributeBase a name X.env (eval a X.env)=eval a X.env:=by rfl)
  (hfew:((backTo pos (starEach (e::es) X.env)).all (fun x=> !x.1)&&(backToKw pos (keywordEach [] X.env)).all (fun x=>x.1.isSome)
   &&decide ((e::es).length+([]:List Keyword).length+(if ([]:List Keyword).isEmpty then 0 else 1)<30))=true:=by rfl)
  (hline:(apos.endLine==pos.line)=true:=by rfl) (hs:starEach (e::es) X.env=(false,eval e X.env)::starEach es X.env:=by rfl) (hplain:(backTo pos (starEach es X.env)).any (·.1)=false:=by rfl):
  QP X κ (.Call (.Attribute a name apos) (e::es) [] pos) (fMt h fa g):=
 (xg3 PySem.F.plainAttrs_str slot hty hm ho ha hbase hfew hline hs hplain).imp fun σ H Q hh_=>by
  obtain⟨ps,d,w,e,q⟩:=hh_
  obtain⟨x,e1,e2⟩:=bind_some e
  obtain⟨ds,e3,e4⟩:=bind_some e2
  obtain⟨hc,e5⟩:=bV e4
  refine⟨ps,x,w,e1,fun v H1 fp s1 r1=>⟨?_,ps,ds,w.same s1,e3,fun vs H2 fq s2 r2=>⟨x,ds,fp,fq,d,r1.same s2,r2,e5,q.after (s1.trans s2)⟩⟩⟩
  cases x with
  |str z=>rw [r1.is_str];rfl
  |_=>cases hc
def kY(l:List Str):List D:=l.map .str
theorem zk8{K:tz0}{H:Hp}:∀l:List Str,Paired (fun v d=>Rep K κ H v d []) (l.map V.str) (kY l)
 |[]=> .nil
 |x::l=> .cons (.str x) (zk8 l)
def rW:D->tz6
 | .str z,[.str y]=>if ((y.length==0)=false/\z.length<1000000) then some (.lst true (kY (Txt.split z y))) else none
 |_,_=>none
theorem yc4:MtR X "str.split" (PMt X.K κ rW):=⟨by
 rintro pins s σ H x vs v us Q I rx r ⟨dx,ds,fx,fp,d,r1,rs,e,q⟩
 unfold rW at e
 split at e
 ·obtain⟨hc,e⟩:=bV e
  cases e
  obtain⟨w,rfl,r2⟩:=rs.one_inv
  exact yy8 pins s σ H x _ v us Q I rx r ⟨_,_,r1.is_str,by rw [r2.is_str],hc.1,hc.2,fun p hp=>uH hp (zk8 _) q⟩
 ·cases e⟩
def D.strs:List D->Option (List Str)
 |[]=>some []
 | .str b::ds=>(D.strs ds).map (b::·)
 |_::_=>none
end
structure Fx where
 K:tz0
 κ:tz9
 bor:Nat->Bool
 M:Nat->Bool
 B:Nat->Addr->Prop
structure RS(φ:Fx)(H:Hp)(σ:St)(ps:PSt)(F:Nat->List Addr):Prop where
 rep:∀(i:Nat) (d:D),ps[i]? =some (some d)->∃v fp,σ[i]? =some (some v)/\Rep φ.K φ.κ H v d fp/\(φ.bor i=false->fp=F i)/\(φ.bor i=true->∀a∈fp,φ.B i a)
 emp:∀i a,a∈F i->φ.bor i=false/\∃d,ps[i]? =some (some d)
 dis:∀i j a,a∈F i->a∈F j->i=j
 nd:∀i,(F i).Nodup
 nb:∀i a,a∈F i->∀k,¬φ.B k a
 bt:∀k a,φ.B k a->H a≠none
 len:ps.length<=σ.length
structure Frm(F:Nat->List Addr)(H H':Hp):Prop where
 keep:∀a o,H a=some o->kd o=true->(∀i,a∉F i)->H' a=some o
 grow:∀a,H' a=none->H a=none
structure Stp(φ:Fx)(σ:St)(H:Hp)(F:Nat->List Addr)(σ':St)(H':Hp)(ps':PSt)(F':Nat->List Addr):Prop where
 fr:Frm F H H'
 nw:∀i a,a∈F' i->(∃j,a∈F j)\/H a=none
 rs:RS φ H' σ' ps' F'
 msk:∀i,φ.M i=true->σ'[i]? =σ[i]?
structure OwnV(F:Nat->List Addr)(H:Hp)(F':Nat->List Addr)(fv:List Addr):Prop where
 nw:∀a∈fv,(∃j,a∈F j)\/H a=none
 nd:fv.Nodup
 dis:∀i,∀a∈F' i,a∉fv
section
variable{φ:Fx}{H H' H1 H2:Hp}{σ σ1 σ2:St}{ps ps1 ps2:PSt}{F F1 F2:Nat->List Addr}
theorem RS.own(R:RS φ H σ ps F){i:Nat}{a:Addr}(h:a∈F i):∃o,H a=some o/\kd o=true/\tf o=false:=by
 obtain⟨b,d,e⟩:=R.emp i a h
 obtain⟨v,fp,_,r,q,_⟩:=R.rep i d e
 rw [<-q b] at h
 exact r.own a h
theorem RS.ws(R:RS φ H σ ps F):WS φ.K φ.κ H σ ps:=fun i d h=>by
 obtain⟨v,fp,h1,h2,_⟩:=R.rep i d h
 exact⟨v,fp,h1,h2⟩
theorem RS.same(R:RS φ H σ ps F)(s:SameK H H'):RS φ H' σ ps F:=
 ⟨fun i d h=>by obtain⟨v,fp,h1,h2,h3⟩:=R.rep i d h;exact⟨v,fp,h1,h2.same s,h3⟩,R.emp,R.dis,R.nd,R.nb,fun k a h z=>R.bt k a h (s.grow a z),R.len⟩
theorem RS.notB(R:RS φ H σ ps F){a:Addr}(h:(∃j,a∈F j)\/H a=none):∀k,¬φ.B k a:=fun k hb=>h.elim (fun⟨j,hj⟩=>R.nb j a hj k hb) fun z=>R.bt k a hb z
theorem Stp.same(R:RS φ H σ ps F)(s:SameK H H'):Stp φ σ H F σ H' ps F:=
 ⟨⟨fun a o h k _=>s.keep a o h k,s.grow⟩,fun i a h=> .inl ⟨i,h⟩,R.same s,fun _ _=>rfl⟩
theorem Stp.refl(R:RS φ H σ ps F):Stp φ σ H F σ H ps F:= .same R (.refl H)
theorem Stp.trans(s1:Stp φ σ H F σ1 H1 ps1 F1)(s2:Stp φ σ1 H1 F1 σ2 H2 ps2 F2):Stp φ σ H F σ2 H2 ps2 F2:=by
 refine⟨⟨fun a o h k n=>s2.fr.keep a o (s1.fr.keep a o h k n) k fun i hi=> ?_,fun a h=>s1.fr.grow a (s2.fr.grow a h)⟩,fun i a h=> ?_,s2.rs,fun i h=>(s2.msk i h).trans (s1.msk i h)⟩
 ·rcases s1.nw i a hi with ⟨j,hj⟩|z
  ·exact n j hj
  ·rw [h] at z;cases z
 ·rcases s2.nw i a h with ⟨j,hj⟩|z
  ·exact s1.nw j a hj
  ·exact .inr (s1.fr.grow a z)
theorem OwnV.after(s1:Stp φ σ H F σ1 H1 ps1 F1)(o:OwnV F1 H1 F2 fv):OwnV F H F2 fv:=
 ⟨fun a ha=>(o.nw a ha).elim (fun⟨j,hj⟩=>s1.nw j a hj) fun z=> .inr (s1.fr.grow a z),o.nd,o.dis⟩
theorem OwnV.new(R:RS φ H σ ps F)(n:∀a∈fv,H a=none)(nd:fv.Nodup):OwnV F H F fv:=
 ⟨fun a ha=> .inr (n a ha),nd,fun i a ha hb=>by obtain⟨o,h,_⟩:=R.own ha;rw [n a hb] at h;cases h⟩
def tX(F:Nat->List Addr)(i:Nat)(fv:List Addr):Nat->List Addr:=fun j=>if j=i then fv else F j
theorem eJ:tX F i fv i=fv:=by simp [tX]
theorem eO(h:j≠i):tX F i fv j=F j:=by simp [tX,h]
theorem jD(h:a∈tX F i fv j):a∈fv\/a∈F j:=by
 by_cases e:j=i
 ·subst e;rw [eJ] at h;exact .inl h
 ·rw [eO e] at h;exact .inr h
theorem RS.drop(R:RS φ H σ ps F)(i:Nat):RS φ H σ (ps.set i none) (tX F i []):=by
 have eF:∀j a,a∈tX F i [] j->j≠i/\a∈F j:=fun j a h=>by
  by_cases e:j=i
  ·subst e;rw [eJ] at h;exact absurd h (by simp)
  ·rw [eO e] at h;exact⟨e,h⟩
 refine⟨fun j d h=> ?_,fun j a h=> ?_,fun j k a h1 h2=>R.dis j k a (eF j a h1).2 (eF k a h2).2,fun j=> ?_,fun j a h=>R.nb j a (eF j a h).2,R.bt,by simpa using R.len⟩
 ·have e:j≠i:=by
   rintro rfl
   by_cases hj:j<ps.length
   ·rw [List.getElem?_set_self hj] at h;cases h
   ·rw [List.getElem?_eq_none (by simpa using hj)] at h;cases h
  rw [List.getElem?_set_ne (fun z=>e z.symm)] at h
  rw [eO e]
  exact R.rep j d h
 ·obtain⟨e,h⟩:=eF j a h
  obtain⟨b,d,q⟩:=R.emp j a h
  exact⟨b,d,by rw [List.getElem?_set_ne (fun z=>e z.symm)];exact q⟩
 ·by_cases e:j=i
  ·subst e;rw [eJ];exact List.nodup_nil
  ·rw [eO e];exact R.nd j
theorem RS.set(R:RS φ H σ ps F){i:Nat}{v:V}{d:D}{fv:List Addr}(r:Rep φ.K φ.κ H v d fv)(hb:φ.bor i=false\/fv=[])(hd:∀j,j≠i->∀a∈F j,a∉fv)(hn:fv.Nodup)(hB:∀a∈fv,∀k,¬φ.B k a):
  RS φ H (σ.set i (some v)) (ps.set i (some d)) (tX F i (if i<ps.length then fv else [])):=by
 by_cases hi:i<ps.length
 ·rw [if_pos hi]
  have hl:=R.len
  refine⟨fun j d' h=> ?_,fun j a h=> ?_,fun j k a h1 h2=> ?_,fun j=> ?_,fun j a h=> ?_,R.bt,by simpa using R.len⟩
  ·by_cases e:j=i
   ·subst e
    rw [List.getElem?_set_self hi] at h
    cases h
    refine⟨v,fv,by rw [List.getElem?_set_self (by omega)],r,fun _=>eJ.symm,fun z=> ?_⟩
    rcases hb with q|q
    ·rw [q] at z;cases z
    ·subst q;intro a ha;exact absurd ha (by simp)
   ·rw [List.getElem?_set_ne (fun z=>e z.symm)] at h|-
    rw [eO e]
    exact R.rep j d' h
  ·by_cases e:j=i
   ·subst e
    rw [eJ] at h
    refine⟨?_,d,by rw [List.getElem?_set_self hi]⟩
    rcases hb with q|q
    ·exact q
    ·subst q;exact absurd h (by simp)
   ·rw [eO e] at h
    obtain⟨b,d',q⟩:=R.emp j a h
    exact⟨b,d',by rw [List.getElem?_set_ne (fun z=>e z.symm)];exact q⟩
  ·by_cases e1:j=i
   ·by_cases e2:k=i
    ·rw [e1,e2]
    ·subst e1;rw [eJ] at h1;rw [eO e2] at h2;exact absurd h1 (hd k e2 a h2)
   ·by_cases e2:k=i
    ·subst e2;rw [eJ] at h2;rw [eO e1] at h1;exact absurd h2 (hd j e1 a h1)
    ·rw [eO e1] at h1;rw [eO e2] at h2;exact R.dis j k a h1 h2
  ·by_cases e:j=i
   ·subst e;rw [eJ];exact hn
   ·rw [eO e];exact R.nd j
  ·rcases jD h with z|z
   ·exact hB a z
   ·exact R.nb j a z
 ·rw [if_neg hi]
  have e0:ps.set i (some d)=ps:=List.set_eq_of_length_le (by omega)
  rw [e0]
  have R':=R.drop i
  rw [List.set_eq_of_length_le (by omega)] at R'
  refine⟨fun j d' h=> ?_,R'.emp,R'.dis,R'.nd,R'.nb,R'.bt,by simpa using R.len⟩
  have hj:j≠i:=by
   rintro rfl
   have:=(List.getElem?_eq_some_iff.mp h).1
   omega
  rw [List.getElem?_set_ne (fun z=>hj z.symm)]
  exact R'.rep j d' h
theorem Stp.set(s1:Stp φ σ H F σ1 H1 ps1 F1)(o:OwnV F H F1 fv)(R:RS φ H σ ps F)(r:Rep φ.K φ.κ H1 v d fv)(hb:φ.bor i=false\/fv=[])(hm:φ.M i=false):
  ∃F',Stp φ σ H F (σ1.set i (some v)) H1 (ps1.set i (some d)) F':=by
 refine⟨_,s1.fr,fun j a h=> ?_,s1.rs.set r hb (fun j _=>o.dis j) o.nd fun a ha=>R.notB (o.nw a ha),fun j h=> ?_⟩
 ·rcases jD h with z|z
  ·by_cases k:i<ps1.length
   ·rw [if_pos k] at z;exact o.nw a z
   ·rw [if_neg k] at z;exact absurd z (by simp)
  ·exact s1.nw j a z
 ·rw [List.getElem?_set_ne (fun z=>by subst z;rw [hm] at h;cases h)]
  exact s1.msk j h
end
inductive Fl where
 |nx|bk|ct|ret (d:D)
abbrev _root_.tz1:=PSt->Option (Fl×PSt)
def vU(φ:Fx)(E:Ends)(σ:St)(H:Hp)(F:Nat->List Addr)(fl:Fl)(ps':PSt):Prop:=match fl with
 | .nx=>∀σ' H' F',Stp φ σ H F σ' H' ps' F'->E.nx σ' H'
 | .bk=>∀σ' H' F',Stp φ σ H F σ' H' ps' F'->E.bk σ' H'
 | .ct=>∀σ' H' F',Stp φ σ H F σ' H' ps' F'->E.ct σ' H'
 | .ret d=>∀v σ' H' F' fv,Stp φ σ H F σ' H' ps' F'->OwnV F H F' fv->Rep φ.K φ.κ H' v d fv->E.rt v H'
def tS(φ:Fx)(f:tz1):TS:=fun E σ H=>∃ps F fl ps',RS φ H σ ps F/\f ps=some (fl,ps')/\vU φ E σ H F fl ps'
def tE(φ:Fx)(f:tz8):TE:=fun σ H Q=>∃ps F d ps',RS φ H σ ps F/\f ps=some (d,ps')/\∀v H' F' fv,Stp φ σ H F σ H' ps' F'->OwnV F H F' fv->Rep φ.K φ.κ H' v d fv->Q v H'
def tTE(φ:Fx)(f:PSt->Option (Bool×PSt)):TT:=fun σ H Q=>∃ps F b ps',RS φ H σ ps F/\f ps=some (b,ps')/\∀H' F',Stp φ σ H F σ H' ps' F'->Q b H'
structure F0 where
 bor:Nat->Bool
 M:Nat->Bool
 B:Nat->Addr->Prop
def F0.fx(φ:F0)(K:tz0)(κ:tz9):Fx:=⟨K,κ,φ.bor,φ.M,φ.B⟩
abbrev QS(X:Cx)(κ:tz9)(φ:F0)(st:Stmt)(f:tz1):Prop:=PS X st (tS (φ.fx X.K κ) f)
abbrev QSs(X:Cx)(κ:tz9)(φ:F0)(st:List Stmt)(f:tz1):Prop:=PSs X st (tS (φ.fx X.K κ) f)
abbrev QE(X:Cx)(κ:tz9)(φ:F0)(e:Expr)(f:tz8):Prop:=PE X e (tE (φ.fx X.K κ) f)
abbrev QTE(X:Cx)(κ:tz9)(φ:F0)(e:Expr)(f:PSt->Option (Bool×PSt)):Prop:=PT X e (tTE (φ.fx X.K κ) f)
theorem zK(s1:Stp φ σ H F σ1 H1 ps1 F1)(e:f ps1=some (fl,ps2))(q:vU φ E σ H F fl ps2):tS φ f E σ1 H1:=by
 refine⟨ps1,F1,fl,ps2,s1.rs,e,?_⟩
 cases fl with
 |nx=>exact fun σ' H' F' s=>q σ' H' F' (s1.trans s)
 |bk=>exact fun σ' H' F' s=>q σ' H' F' (s1.trans s)
 |ct=>exact fun σ' H' F' s=>q σ' H' F' (s1.trans s)
 |ret d=>exact fun v σ' H' F' fv s o r=>q v σ' H' F' fv (s1.trans s) (o.after s1) r
def bO:tz1:=fun ps=>some (.nx,ps)
def aU(f g:tz1):tz1:=fun ps=>(f ps).bind fun r=>match r with
 |(.nx,ps')=>g ps'
 |(.bk,ps')=>some (.bk,ps')
 |(.ct,ps')=>some (.ct,ps')
 |(.ret d,ps')=>some (.ret d,ps')
section
variable{X:Cx}{κ:tz9}{φ:F0}{st:Stmt}{cE:List Stmt}{f g:tz1}{pos:Pos}
theorem cB:QSs X κ φ [] bO:=ya9.imp fun E σ H ⟨ps,F,fl,ps',R,e,q⟩=>by cases e;exact q σ H F (.refl R)
theorem aN(h:QS X κ φ st f):QSs X κ φ [st] f:=yB h
theorem aL(h1:QS X κ φ st f)(h2:QSs X κ φ cE g):QSs X κ φ (st::cE) (aU f g):=
 (lW h1 h2).imp fun E σ H hh_=>by
  obtain⟨ps,F,fl,ps',R,e,q⟩:=hh_
  obtain⟨⟨fl1,ps1⟩,e1,e2⟩:=bind_some e
  refine⟨ps,F,fl1,ps1,R,e1,?_⟩
  cases fl1 with
  |nx=>exact fun σ' H' F' s=>zK s e2 q
  |bk=>cases e2;exact q
  |ct=>cases e2;exact q
  |ret d=>cases e2;exact q
def aH(f:tz2):tz8:=fun ps=>(f ps).bind fun d=>some (d,ps)
theorem QP.e{e:Expr}{f:tz2}(h:PE X e (tP X.K κ f)):QE X κ φ e (aH f):=h.imp fun σ H Q hh_=>by
 obtain⟨ps,F,d,ps',R,e,q⟩:=hh_
 obtain⟨d1,e1,e2⟩:=bind_some e
 cases e2
 exact⟨ps,_,R.ws,e1,fun v H' fv s n nd r=>q v H' F fv (.same R s) (.new R n nd) r⟩
def aW(f:tz4):PSt->Option (Bool×PSt):=fun ps=>(f ps).bind fun d=>some (d,ps)
theorem QT.e{e:Expr}{f:tz4}(h:PT X e (tQ X.K κ f)):QTE X κ φ e (aW f):=h.imp fun σ H Q hh_=>by
 obtain⟨ps,F,d,ps',R,e,q⟩:=hh_
 obtain⟨d1,e1,e2⟩:=bind_some e
 cases e2
 exact⟨ps,_,R.ws,e1,fun H' s=>q H' F (.same R s)⟩
def aT(i:Nat)(f:tz8):tz1:=fun ps=>(f ps).bind fun r=>some (.nx,r.2.set i (some r.1))
theorem bH(i:Nat){x:Str}{e:Expr}{pos':Pos}{f:tz8}(hN:X.N.Nodup)(hi:X.N[i]? =some x)(hx:Loc X.env.scope x)(hb:φ.bor i=false)(hm:φ.M i=false)(he:QE X κ φ e f)(hs:swapsWith e (some (.Name x pos')) pos.line X.env=pure false:=by rfl)(hf:X.fn x=true\/X.env.scope.names.lookup x=some .local:=by first|exact .inl rfl|exact .inr rfl|assumption):
  QS X κ φ (.Assign [.Name x pos'] e pos) (aT i f):=(uC hN hi hx he hs hf).imp fun E σ H hh_=>by
 obtain⟨ps,F,fl,ps',R,e,q⟩:=hh_
 obtain⟨⟨d,ps1⟩,e1,e2⟩:=bind_some e
 cases e2
 refine⟨ps,F,d,ps1,R,e1,fun v H' F' fv s o r=> ?_⟩
 obtain⟨F2,s2⟩:=s.set o R r (.inl hb) hm (i:=i)
 exact q _ _ F2 s2
def zp8(i:Nat)(f:tz8):tz1:=fun ps=>(f ps).bind fun r=>if r.1.imm=true then some (.nx,r.2.set i (some r.1)) else none
def cM(f:tz8):tz1:=fun ps=>(f ps).bind fun r=>some (.nx,r.2)
theorem fE{e:Expr}{f:tz8}(he:QE X κ φ e f)(hs:swapsWith e none pos.line X.env=pure false:=by rfl):QS X κ φ (.Expr e pos) (cM f):=(xi8 he hs).imp fun E σ H hh_=>by
 obtain⟨ps,F,fl,ps',R,e,q⟩:=hh_
 obtain⟨⟨d,ps1⟩,e1,e2⟩:=bind_some e
 cases e2
 exact⟨ps,F,d,ps1,R,e1,fun v H' F' fv s o r=>q _ _ F' s⟩
def cA(f:tz8):tz1:=fun ps=>(f ps).bind fun r=>some (.ret r.1,r.2)
theorem bM{e:Expr}{f:tz8}(he:QE X κ φ e f):QS X κ φ (.Return (some e) pos) (cA f):=(wT he).imp fun E σ H hh_=>by
 obtain⟨ps,F,fl,ps',R,e,q⟩:=hh_
 obtain⟨⟨d,ps1⟩,e1,e2⟩:=bind_some e
 cases e2
 exact⟨ps,F,d,ps1,R,e1,fun v H' F' fv s o r=>q v σ H' F' fv s o r⟩
def zp9:tz1:=fun ps=>some (.ret .non,ps)
def sT(i:Nat):tz1:=fun ps=>((ps[i]?).join).bind fun d=>some (.ret d,ps.set i none)
theorem join_some{ps:PSt}{i:Nat}{d:D}(h:(ps[i]?).join=some d):ps[i]? =some (some d):=by
 cases q:ps[i]? with
 |none=>rw [q] at h;cases h
 |some o=>rw [q] at h;exact congrArg some h
theorem qV(i:Nat){x:Str}{p:Pos}(hb:φ.bor i=false)(hN:X.N[i]? =some x:=by rfl)(hv:Vis X.env.scope x:=by first|exact Or.inl rfl|exact Or.inr (Or.inl rfl)|exact Or.inr (Or.inr rfl))(hd:(x==("__debug__":Str))=false:=by decide)
  (hcd:(x==("__classdict__":Str))=false:=by decide):QS X κ φ (.Return (some (.Name x p)) pos) (sT i):=(wT (uB hN hv hd hcd)).imp fun E σ H hh_=>by
 obtain⟨ps,F,fl,ps',R,e,q⟩:=hh_
 obtain⟨d,e1,e2⟩:=bind_some e
 cases e2
 obtain⟨v,fp,h1,h2,h3,_⟩:=R.rep i d (join_some e1)
 have h3:=h3 hb
 subst h3
 refine⟨v,h1,q v σ H (tX F i []) (F i) ⟨⟨fun a o h _ _=>h,fun a h=>h⟩,fun j a h=> ?_,R.drop i,fun _ _=>rfl⟩ ⟨fun a h=> .inl ⟨i,h⟩,R.nd i,fun j a h1 h2=> ?_⟩ h2⟩
 ·rcases jD h with z|z
  ·exact absurd z (by simp)
  ·exact .inl ⟨j,z⟩
 ·rcases jD h1 with z|z
  ·exact absurd z (by simp)
  ·have:=R.dis j i a z h2
   subst this
   rw [eJ] at h1;exact absurd h1 (by simp)
def fIf(c:PSt->Option (Bool×PSt))(f g:tz1):tz1:=fun ps=>(c ps).bind fun r=>if r.1=true then f r.2 else g r.2
theorem cG(hc:QTE X κ φ c tc)(ha:QSs X κ φ a f)(hb:QSs X κ φ b g):QS X κ φ (.If c a b pos) (fIf tc f g):=(xg0 hc ha hb).imp fun E σ H hh_=>by
 obtain⟨ps,F,fl,ps',R,e,q⟩:=hh_
 obtain⟨⟨k,ps1⟩,e1,e2⟩:=bind_some e
 refine⟨ps,F,k,ps1,R,e1,fun H' F' s=> ?_⟩
 cases k with
 |true=>rw [if_pos rfl] at e2|-;exact zK s e2 q
 |false=>rw [if_neg Bool.false_ne_true] at e2|-;exact zK s e2 q
end
def kL(c:PSt->Option (Bool×PSt))(f:tz1):Nat->tz1
 |0,_=>none
 | n+1,ps=>(c ps).bind fun r=>if r.1=true then(f r.2).bind fun q=>match q with
   |(.nx,p)=>kL c f n p
   |(.ct,p)=>kL c f n p
   |(.bk,p)=>some (.nx,p)
   |(.ret d,p)=>some (.ret d,p)
  else some (.nx,r.2)
section
variable{X:Cx}{φ:Fx}{pos:Pos}{body:List Stmt}{f:tz1}
theorem vU.back(s1:Stp φ σ H F σ1 H1 ps1 F1)(q:vU φ E σ H F fl ps2):vU φ E σ1 H1 F1 fl ps2:=by
 cases fl with
 |nx=>exact fun σ' H' F' s=>q σ' H' F' (s1.trans s)
 |bk=>exact fun σ' H' F' s=>q σ' H' F' (s1.trans s)
 |ct=>exact fun σ' H' F' s=>q σ' H' F' (s1.trans s)
 |ret d=>exact fun v σ' H' F' fv s o r=>q v σ' H' F' fv (s1.trans s) (o.after s1) r
def wg9(φ:Fx)(σ:St)(H:Hp)(F:Nat->List Addr)(tc:PSt->Option (Bool×PSt))(f:tz1)(fl:Fl)(ps':PSt)(m:Nat)(σ1:St)(H1:Hp):Prop:=∃ps1 F1,Stp φ σ H F σ1 H1 ps1 F1/\kL tc f m ps1=some (fl,ps')
theorem yz2{κ:tz9}{φ:F0}(n:Nat){c:Expr}{tc:PSt->Option (Bool×PSt)}(hp:PassesOwn (model X.prog X.w) X.A X.env X.xe)(hc:QTE X κ φ c tc)(hb:QSs X κ φ body f):QS X κ φ (.While c body [] pos) (kL tc f n):=
 (yx0 hp hc hb).imp fun E σ H hh_=>by
  obtain⟨ps,F,fl,ps',R,e,q⟩:=hh_
  refine⟨wg9 (φ.fx X.K κ) σ H F tc f fl ps',⟨n,ps,F,.refl R,e⟩,?_⟩
  rintro m σ1 H1 ⟨ps1,F1,s1,e1⟩
  cases m with
  |zero=>cases e1
  | succ m=>
   rw [kL] at e1
   obtain⟨⟨k,ps2⟩,e2,e3⟩:=bind_some e1
   refine⟨ps1,F1,k,ps2,s1.rs,e2,fun H2 F2 s2=> ?_⟩
   have s12:=s1.trans s2
   cases k with
   |true=>
    dsimp only at e3|-
    rw [if_pos rfl] at e3|-
    obtain⟨⟨fl3,ps3⟩,e4,e5⟩:=bind_some e3
    refine⟨fun σ' H'=>∃F',Stp (φ.fx X.K κ) σ1 H2 F2 σ' H' ps3 F'/\kL tc f m ps3=some (fl,ps'),fun σ' H' ⟨F',s,e⟩=>⟨m,Nat.lt_succ_self m,ps3,F',s12.trans s,e⟩,?_⟩
    refine⟨ps2,F2,fl3,ps3,s2.rs,e4,?_⟩
    cases fl3 with
    |nx=>exact fun σ' H' F' s=>⟨F',s,e5⟩
    |ct=>exact fun σ' H' F' s=>⟨F',s,e5⟩
    |bk=>cases e5;exact fun σ' H' F' s=>q σ' H' F' (s12.trans s)
    |ret d=>cases e5;exact fun v σ' H' F' fv s o r=>q v σ' H' F' fv (s12.trans s) (o.after s12) r
   |false=>
    dsimp only at e3|-
    rw [if_neg Bool.false_ne_true] at e3|-
    cases e3
    exact q _ _ F2 s12
end
def qD(Z:List Addr)(H H':Hp):Prop:=∀a o,H a=some o->(tf o=true\/(kd o=true/\a∈Z))->H' a=some o
structure Walk(K:tz0)(κ:tz9)(J:It)(Z:List Addr)(H1:Hp)(ds:List D):Prop where
 go:∀H',qD Z H1 H'->∀(i:Nat) d,ds[i]? =some d->J.go i H'/\∀x H2,J.yld i H' x H2->H2=H'/\Rep K κ H' x d []
 stop:∀H',qD Z H1 H'->J.stop ds.length H'
def tIV(K:tz0)(κ:tz9)(f:tz3):TI:=fun σ H R=>∃ps ds,WS K κ H σ ps/\f ps=some ds/\∀J H1 Z,SameK H H1->Walk K κ J Z H1 ds->R J H1
def tIP(K:tz0)(κ:tz9)(f:tz3):TI:=fun σ H R=>∃ps ds,WS K κ H σ ps/\f ps=some ds/\∀J H1 Z,SameK H H1->(∀a∈Z,H a=none/\H1 a≠none)->Walk K κ J Z H1 ds->R J H1
theorem qD.sq{K:tz0}{Z:List Addr}{H H':Hp}{a:Addr}{vs:List V}(k:qD Z H H')(h:Rd H a (.lst vs))(hz:H a=some (.lst vs)->a∈Z):SqL K H' a vs:=by
 rcases h with h|⟨o,h⟩
 ·exact .inl (.inl (k a _ h (.inr ⟨rfl,hz h⟩)))
 ·exact .inl (.inr ⟨o,k a _ h (.inl rfl)⟩)
theorem qD.rep{K:tz0}{κ:tz9}{Z:List Addr}{H H':Hp}{v:V}{d:D}(k:qD Z H H')(r:Rep K κ H v d []):Rep K κ H' v d []:=r.move (fun a o h t=>k a o h (.inl t)) fun a ha=>absurd ha (by simp)
theorem nX:∀{l₁:List α} {l₂:List β} {i:Nat} {y:β},Paired R l₁ l₂->l₂[i]? =some y->∃x,l₁[i]? =some x/\R x y
 |_,_,_,_,.nil,e=>by simp at e
 |_,_,0,_,.cons h _,e=>by simp at e;subst e;exact⟨_,rfl,h⟩
 |_,_,i+1,_,.cons _ t,e=>by obtain⟨x,h1,h2⟩:=nX (i:=i) t (by simpa using e);exact⟨x,by simpa using h1,h2⟩
section
variable{K:tz0}{κ:tz9}{H1:Hp}{a:Addr}{vs:List V}{ds:List D}{Z:List Addr}
theorem zk9(h:Rd H1 a (.lst vs))(hz:H1 a=some (.lst vs)->a∈Z)(r:Paired (fun v d=>Rep K κ H1 v d []) vs ds):Walk K κ (Itl K a) Z H1 ds where
 go:=fun H' k i d e=>by
  obtain⟨x,e1,r1⟩:=nX r e
  have sq:SqL K H' a vs:=k.sq h hz
  refine⟨⟨vs,x,sq,e1⟩,fun y H2 hy=>⟨hy.1,?_⟩⟩
  have e2:=hy.2 vs sq
  rw [e1] at e2;cases e2
  exact k.rep r1
 stop:=fun H' k=>⟨vs,k.sq h hz,by rw [Paired.length r];exact Nat.le_refl _⟩
theorem yz3(h:SqF K H1 a vs)(r:Paired (fun v d=>Rep K κ H1 v d []) vs ds):Walk K κ (Itl K a) Z H1 ds where
 go:=fun H' k i d e=>by
  obtain⟨x,e1,r1⟩:=nX r e
  have sq:SqL K H' a vs:=(h.tf fun a o e t=>k a o e (.inl t)).l
  refine⟨⟨vs,x,sq,e1⟩,fun y H2 hy=>⟨hy.1,?_⟩⟩
  have e2:=hy.2 vs sq
  rw [e1] at e2;cases e2
  exact k.rep r1
 stop:=fun H' k=>⟨vs,(h.tf fun a o e t=>k a o e (.inl t)).l,by rw [Paired.length r];exact Nat.le_refl _⟩
theorem yz4(h:SqT K H1 a vs)(r:Paired (fun v d=>Rep K κ H1 v d []) vs ds):Walk K κ (Itt K a) Z H1 ds where
 go:=fun H' k i d e=>by
  obtain⟨x,e1,r1⟩:=nX r e
  have sq:SqT K H' a vs:=h.tf fun a o e t=>k a o e (.inl t)
  refine⟨⟨vs,x,sq,e1⟩,fun y H2 hy=>⟨hy.1,?_⟩⟩
  have e2:=hy.2 vs sq
  rw [e1] at e2;cases e2
  exact k.rep r1
 stop:=fun H' k=>⟨vs,h.tf fun a o e t=>k a o e (.inl t),by rw [Paired.length r];exact Nat.le_refl _⟩
end
def eZ(lo:Int)(n:Nat):List D:=(List.range n).map fun(k:Nat)=> .int (lo+(k:Int))
theorem zb6{K:tz0}{κ:tz9}{H1:Hp}{Z:List Addr}(lo:Int)(n:Nat):Walk K κ (Itr lo n) Z H1 (eZ lo n) where
 go:=fun H' _ i d e=>by
  have hi:=(List.getElem?_eq_some_iff.mp e).1
  unfold eZ at hi e
  rw [List.length_map,List.length_range] at hi
  rw [List.getElem?_map,List.getElem?_range hi] at e
  cases e
  exact⟨hi,fun x H2 ⟨h1,h2⟩=>⟨h1,by rw [h2];exact .int _⟩⟩
 stop:=fun H' _=>by
  show n<=(eZ lo n).length
  unfold eZ
  rw [List.length_map,List.length_range];exact Nat.le_refl _
abbrev QIV(X:Cx)(κ:tz9)(tg iter:Expr)(f:tz3):Prop:=PI X tg iter (tIV X.K κ f)
abbrev QIP(X:Cx)(κ:tz9)(tg iter:Expr)(f:tz3):Prop:=PI X tg iter (tIP X.K κ f)
theorem PI.imp(h:PI X tg e t)(k:∀σ H Q,t' σ H Q->t σ H Q):PI X tg e t':=⟨fun pins s σ H Q I q=>h pins s σ H Q I (k σ H Q q)⟩
theorem QIP.v(h:QIP X κ tg iter f):QIV X κ tg iter f:=PI.imp h fun σ H R ⟨ps,ds,w,e,q⟩=>⟨ps,ds,w,e,fun J H1 Z s _ k=>q J H1 Z s k⟩
section
variable{X:Cx}{κ:tz9}{tg l a b:Expr}{f:tz2}{g:tz3}{p pos:Pos}
def sU:List D->Option (List D)
 |[.int j]=>if (-(2^62)<=j/\j<2^62) then some (eZ 0 j.toNat) else none
 |_=>none
def sV:List D->Option (List D)
 |[.int i,.int j]=>if (-(2^62)<=i/\i<2^62/\ -(2^62)<=j/\j<2^62) then some (eZ i (j-i).toNat) else none
 |_=>none
def kZ(g:tz3):tz3:=fun ps=>(g ps).bind sU
def qQ(g:tz3):tz3:=fun ps=>(g ps).bind sV
theorem wW(hg:Gl X "range")(hm:X.mg "range"=none)(ha:QVA X κ [a] g)(hs:starEach [a] X.env=[(false,eval a X.env)]:=by rfl):QIP X κ tg (.Call (.Name "range" p) [a] [] pos) (kZ g):=
 PI.imp (ym8 hg hm ha hs) fun σ H R hh_=>by
  obtain⟨ps,ds,w,e,q⟩:=hh_
  obtain⟨as,e1,e2⟩:=bind_some e
  refine⟨ps,as,w,e1,fun vs H1 fp s1 r1=> ?_⟩
  unfold sU at e2
  split at e2
  ·obtain⟨hc,e3⟩:=bV e2
   cases e3
   obtain⟨v,rfl,r⟩:=r1.one_inv
   exact⟨_,by rw [r.is_int],hc.1,hc.2,q _ H1 [] s1 (fun _ h=>absurd h (by simp)) (zb6 _ _)⟩
  ·cases e2
theorem yq1(hg:Gl X "range")(hm:X.mg "range"=none)(ha:QVA X κ [a,b] g)(hs:starEach [a,b] X.env=[(false,eval a X.env),(false,eval b X.env)]:=by rfl)(hs2:starEach [b] X.env=[(false,eval b X.env)]:=by rfl):QIP X κ tg (.Call (.Name "range" p) [a,b] [] pos) (qQ g):=
 PI.imp (ym9 hg hm ha hs hs2) fun σ H R hh_=>by
  obtain⟨ps,ds,w,e,q⟩:=hh_
  obtain⟨as,e1,e2⟩:=bind_some e
  refine⟨ps,as,w,e1,fun vs H1 fp s1 r1=> ?_⟩
  unfold sV at e2
  split at e2
  ·obtain⟨hc,e3⟩:=bV e2
   cases e3
   obtain⟨v,u,f,g,rfl,r,r'⟩:=r1.two_inv
   exact⟨_,_,by rw [r.is_int,r'.is_int],hc,q _ H1 [] s1 (fun _ h=>absurd h (by simp)) (zb6 _ _)⟩
  ·cases e2
def wh0(K:tz0)(tl:TE):TI:=fun σ H R=>tl σ H fun x H1=>∃a,x= .ref a/\(((∃xs,SqL K H1 a xs)/\R (Itl K a) H1)\/((∃xs,SqT K H1 a xs)/\R (Itt K a) H1))
theorem yq2(hl:PE X l tl):PI X tg l (wh0 X.K tl):=⟨by
 intro pins s σ H R I h
 refine thn (hl pins s σ H _ I h) fun v s1 ⟨x,H1,I1,r1,q1⟩=> ?_
 obtain⟨a,e,q1⟩:=q1
 subst e
 cases r1
 rcases q1 with ⟨⟨xs,hq⟩,q⟩|⟨⟨xs,hq⟩,q⟩
 ·obtain⟨its,rv,p,hz⟩:=I1.list hq
  refine wpAny_pyIter_list p.isList ?_
  refine⟨s1.heap.objs.size,[s1.heap.objs.size],_,_,H1,rfl,I1.kept (t':=s1.toks) fun b o e=>Heap.get?_push_of_some _ e,ym7 a _,⟨_,Heap.get?_push_size _ rfl,rfl,rfl⟩,fun b hb=> ?_,q⟩
  have e:b=s1.heap.objs.size:=by simpa using hb
  subst e
  exact I1.fpOk (Nat.le_refl _) (I1.hok.fresh (Nat.le_refl _))
 ·obtain⟨its,rv,p,hz⟩:=I1.tuple hq
  refine wpAny_pyIter_tuple (show s1.heap.IsTuple a its.toArray from p) ?_
  refine⟨s1.heap.objs.size,[s1.heap.objs.size],_,_,H1,rfl,I1.kept (t':=s1.toks) fun b o e=>Heap.get?_push_of_some _ e,yf7 a _,⟨_,Heap.get?_push_size _ rfl,rfl,rfl⟩,fun b hb=> ?_,q⟩
  have e:b=s1.heap.objs.size:=by simpa using hb
  subst e
  exact I1.fpOk (Nat.le_refl _) (I1.hok.fresh (Nat.le_refl _))⟩
def yl0:D->Option (List D)
 | .lst _ xs=>if D.imms xs=true then some xs else none
 | .tup xs=>some xs
 | .con xs=>some xs
 |_=>none
theorem yc5{K:tz0}{H:Hp}{v:V}{d:D}{fp:List Addr}{ds:List D}{R:It->Hp->Prop}(r:Rep K κ H v d fp)(e:yl0 d=some ds)(q:∀J Z,(∀a∈Z,a∈fp)->Walk K κ J Z H ds->R J H):
  ∃a,v= .ref a/\(((∃xs,SqL K H a xs)/\R (Itl K a) H)\/((∃xs,SqT K H a xs)/\R (Itt K a) H)):=by
 cases d with
 |lst o xs=>
  obtain⟨hc,e⟩:=bV e
  cases e
  cases r with
  |lst h hs=>exact⟨_,rfl,.inl ⟨⟨_,.inl (.inl h)⟩,q _ [_] (fun a ha=>by simp at ha;subst ha;exact List.mem_cons_self) (zk9 (.inl h) (fun _=>by simp) (hs.pair hc))⟩⟩
  |lstF h hs=>exact⟨_,rfl,.inl ⟨⟨_,.inl (.inr ⟨_,h⟩)⟩,q _ [] (fun a ha=>absurd ha (by simp)) (zk9 (.inr ⟨_,h⟩) (fun z=>by rw [h] at z;cases z) (hs.pair hc))⟩⟩
 |tup xs=>
  cases e
  obtain⟨a,vs,rfl,h,hs⟩:=r.tup_inv
  exact⟨a,rfl,.inr ⟨⟨_,h⟩,q _ [] (fun a ha=>absurd ha (by simp)) (yz4 h hs.nilp)⟩⟩
 |con xs=>
  cases e
  obtain⟨a,vs,rfl,h,hs⟩:=r.con_inv
  exact⟨a,rfl,.inl ⟨⟨_,h.l⟩,q _ [] (fun a ha=>absurd ha (by simp)) (yz3 h hs.nilp)⟩⟩
 |_=>cases e
def eL(f:tz2):tz3:=fun ps=>(f ps).bind yl0
theorem uI(h:QV X κ l f):QIV X κ tg l (eL f):=PI.imp (yq2 h) fun σ H R hh_=>by
 obtain⟨ps,ds,w,e,q⟩:=hh_
 obtain⟨d,e1,e2⟩:=bind_some e
 exact⟨ps,d,w,e1,fun v H1 fv s1 r1=>yc5 r1 e2 fun J Z _ k=>q J H1 Z s1 k⟩
end
def cX(i:Nat)(f:tz1):List D->tz1
 |[],ps=>some (.nx,ps)
 | d::ds,ps=>(f (ps.set i (some d))).bind fun q=>match q with
   |(.nx,p)=>cX i f ds p
   |(.ct,p)=>cX i f ds p
   |(.bk,p)=>some (.nx,p)
   |(.ret d,p)=>some (.ret d,p)
section
variable{X:Cx}{φ:Fx}{pos:Pos}{body:List Stmt}{f:tz1}
theorem Frm.kept(R:RS φ H σ ps F)(k:Frm F H H')(hz:∀a∈Z,∀i,a∉F i):qD Z H H':=fun a o h t=>by
 rcases t with t|⟨t1,t2⟩
 ·refine k.keep a o h (lX t) fun i hi=> ?_
  obtain⟨o',h',_,t'⟩:=R.own hi
  rw [h] at h';cases h';rw [t] at t';cases t'
 ·exact k.keep a o h t1 (hz a t2)
def wd2(J:It)(E:Ends)(V:Nat->Nat->St->Hp->Prop)(g:TG)(tb:TS)(k m:Nat)(σ:St)(H:Hp):Prop:=
 (J.stop k H/\E.nx σ H)\/(J.go k H/\∃N:St->Hp->Prop,(∀σ' H',N σ' H'->∃m',m'<m/\V (k+1) m' σ' H')/\∀x H',J.yld k H x H'->g x σ H' fun σ2 H2=>tb {E with nx:=N,ct:=N,bk:=E.nx} σ2 H2)
def wh1(φ:Fx)(σ:St)(H:Hp)(F:Nat->List Addr)(i:Nat)(f:tz1)(ds:List D)(fl:Fl)(ps':PSt)(k m:Nat)(σ1:St)(H1:Hp):Prop:=k<=ds.length/\m=ds.length-k/\∃ps1 F1,Stp φ σ H F σ1 H1 ps1 F1/\cX i f (ds.drop k) ps1=some (fl,ps')
theorem zs9(R:RS φ H σ ps F)(hz:∀a∈Z,H a≠none/\∀i,a∉F i)(W:Walk φ.K φ.κ J Z H ds)(hb:φ.bor i=false)(hm:φ.M i=false)
  (e:cX i f ds ps=some (fl,ps')) (q:vU φ E σ H F fl ps'):∃V:Nat->Nat->St->Hp->Prop,(∃m,V 0 m σ H)/\∀k m σ H,V k m σ H->wd2 J E V (vQ i) (tS φ f) k m σ H:=by
 refine⟨wh1 φ σ H F i f ds fl ps',⟨_,Nat.zero_le _,rfl,ps,F,.refl R,by rw [List.drop_zero];exact e⟩,?_⟩
 rintro k m σ1 H1 ⟨hk,rfl,ps1,F1,s1,e1⟩
 have kp:qD Z H H1:=s1.fr.kept R fun a ha=>(hz a ha).2
 by_cases hlt:k<ds.length
 ·right
  have ed:ds[k]? =some ds[k]:=List.getElem?_eq_getElem hlt
  obtain⟨hgo,hy⟩:=W.go H1 kp k _ ed
  rw [List.drop_eq_getElem_cons hlt,cX] at e1
  obtain⟨⟨fl2,ps2⟩,e2,e3⟩:=bind_some e1
  refine⟨hgo,fun σ' H'=>∃F',Stp φ σ H F σ' H' ps2 F'/\cX i f (ds.drop (k+1)) ps2=some (fl,ps'),fun σ' H' ⟨F',s,e⟩=>⟨ds.length-(k+1),by omega,hlt,rfl,ps2,F',s,e⟩,fun x H' y=> ?_⟩
  obtain⟨rfl,rx⟩:=hy x H' y
  obtain⟨F2,s2⟩:=(Stp.refl s1.rs).set (i:=i) (fv:=[]) (v:=x) (d:=ds[k]) ⟨fun _ h=>absurd h (by simp),List.nodup_nil,fun _ _ _ h=>absurd h (by simp)⟩ s1.rs rx (.inl hb) hm
  have s12:=s1.trans s2
  refine⟨_,F2,fl2,ps2,s2.rs,e2,?_⟩
  cases fl2 with
  |nx=>exact fun σ' H' F' s=>⟨F',s12.trans s,e3⟩
  |ct=>exact fun σ' H' F' s=>⟨F',s12.trans s,e3⟩
  |bk=>cases e3;exact fun σ' H' F' s=>q σ' H' F' (s12.trans s)
  |ret d=>cases e3;exact fun v σ' H' F' fv s o r=>q v σ' H' F' fv (s12.trans s) (o.after s12) r
 ·left
  have ek:k=ds.length:=by omega
  subst ek
  rw [List.drop_length,cX] at e1
  cases e1
  exact⟨W.stop H1 kp,q _ _ F1 s1⟩
def fJ(i:Nat)(fi:tz3)(f:tz1):tz1:=fun ps=>(fi ps).bind fun ds=>cX i f ds ps
theorem rJ{κ:tz9}{φ:F0}(i:Nat){x:Str}{px:Pos}{iter:Expr}{fi:tz3}(hp:PassesOwn (model X.prog X.w) X.A X.env X.xe)(hc:X.calm=true)(hN:X.N.Nodup)(hi:X.N[i]? =some x)(hx:Loc X.env.scope x)(hb:φ.bor i=false)(hm:φ.M i=false)
  (hit:PI X (.Name x px) iter (tIP X.K κ fi)) (hbd:QSs X κ φ body f) (hs:∀x,foldedSetIterable iter X.env x=pure x:=by intro _;rfl) (hf:X.fn x=true\/X.env.scope.names.lookup x=some .local:=by first|exact .inl rfl|exact .inr rfl|assumption):
  QS X κ φ (.For (.Name x px) iter body [] pos) (fJ i fi f):=(zr5 hp hc hit (eN hN hi hx hf) hbd hs).imp fun E σ H hh_=>by
 obtain⟨ps,F,fl,ps',R,e,q⟩:=hh_
 obtain⟨ds,e1,e2⟩:=bind_some e
 refine⟨ps,ds,R.ws,e1,fun J H1 Z s1 hz W=> ?_⟩
 have s:=Stp.same R s1
 exact zs9 s.rs (fun a ha=>⟨(hz a ha).2,fun j hj=>by obtain⟨o,h,_⟩:=R.own hj;rw [(hz a ha).1] at h;cases h⟩) W hb hm e2 (q.back s)
def xy3(g:TG)(tb:TS)(E:Ends)(σ:St):It->Hp->Prop:=fun J H1=>∃W:Nat->Nat->St->Hp->Prop,(∃m,W 0 m σ H1)/\∀i m σ H,W i m σ H->
 (J.stop i H/\E.nx σ H)\/(J.go i H/\∃N:St->Hp->Prop,(∀σ' H',N σ' H'->∃m',m'<m/\W (i+1) m' σ' H')/\∀x H',J.yld i H x H'->g x σ H' fun σ2 H2=>tb {E with nx:=N,ct:=N,bk:=E.nx} σ2 H2)
theorem zg9{κ:tz9}{φ:F0}(i j:Nat){x y:Str}{px py:Pos}(hp:PassesOwn (model X.prog X.w) X.A X.env X.xe)(hc:X.calm=true)(hN:X.N.Nodup)(hi:X.N[i]? =some x)(hx:Loc X.env.scope x)(hb:φ.bor i=false)(hm:φ.M i=false)(hj:φ.bor j=true)
  (hbd:QSs X κ φ body f) (hNj:X.N[j]? =some y:=by rfl) (hv:Vis X.env.scope y:=by first|exact Or.inl rfl|exact Or.inr (Or.inl rfl)|exact Or.inr (Or.inr rfl)) (hd:(y==("__debug__":Str))=false:=by decide)
  (hcd:(y==("__classdict__":Str))=false:=by decide) (hs:∀x,foldedSetIterable (.Name y py) X.env x=pure x:=by intro _;rfl) (hf:X.fn x=true\/X.env.scope.names.lookup x=some .local:=by first|exact .inl rfl|exact .inr rfl|assumption):
  QS X κ φ (.For (.Name x px) (.Name y py) body [] pos) (fJ i (eL (aA j)) f):=(zr5 hp hc (yq2 (uB hNj hv hd hcd)) (eN hN hi hx hf) hbd hs).imp fun E σ H hh_=>by
 obtain⟨ps,F,fl,ps',R,e,q⟩:=hh_
 obtain⟨ds,e1,e2⟩:=bind_some e
 obtain⟨d,e3,e4⟩:=bind_some e1
 obtain⟨v,fp,h1,h2,_,h4⟩:=R.rep j d (join_some e3)
 refine⟨v,h1,?_⟩
 refine yc5 (R:=xy3 (vQ i) (tS (φ.fx X.K κ) f) E σ) h2 e4 fun J Z hz W=> ?_
 exact zs9 R (fun a ha=>⟨R.bt j a (h4 hj a (hz a ha)),fun k hk=>R.nb k a hk j (h4 hj a (hz a ha))⟩) W hb hm e2 q
end
def gP(np n:Nat)(f:tz1):tz6:=fun ds=>if ds.length=np then(f (ds.map some++List.replicate n none)).bind fun r=>match r with
 |(.ret d,_)=>some d
 |(.nx,_)=>some .non
 |_=>none
 else none
def SpP(np:Nat)(K:tz0)(κ:tz9)(g:tz6):Sp:=fun vs H Q _=>vs.length=np/\∃ds fp d,Reps K κ H vs ds fp/\g ds=some d/\jT K κ H d Q
def fxP(K:tz0)(κ:tz9)(np:Nat)(B:Nat->Addr->Prop):Fx:=⟨K,κ,fun i=>decide (i<np),fun _=>false,B⟩
def f0P(np:Nat)(B:Nat->Addr->Prop):F0:=⟨fun i=>decide (i<np),fun _=>false,B⟩
theorem yq3{N:List Str}{vs:List V}{i:Nat}{v:V}(h:vs[i]? =some v):(start N vs)[i]? =some (some v):=by
 unfold start
 have hi:=(List.getElem?_eq_some_iff.mp h).1
 rw [List.getElem?_append_left (by simpa using hi),List.getElem?_map,h];rfl
theorem RS.start{K:tz0}{κ:tz9}{H:Hp}{N:List Str}{vs:List V}{ds:List D}{fp:List Addr}{np:Nat}(r:Reps K κ H vs ds fp)(hl:vs.length=np)(hn:np<=N.length):
  RS (fxP K κ np (fun _ a=>a∈fp)) H (start N vs) (ds.map some++List.replicate (N.length-np) none) (fun _=>[]):=by
 have el:=r.length
 refine⟨fun i d h=> ?_,fun i a h=>absurd h (by simp),fun i j a h=>absurd h (by simp),fun i=>List.nodup_nil,fun i a h=>absurd h (by simp),fun k a h z=> ?_,?_⟩
 ·by_cases hi:i<ds.length
  ·rw [List.getElem?_append_left (by simpa using hi),List.getElem?_map] at h
   cases e:ds[i]? with
   |none=>rw [e] at h;cases h
   |some d'=>
    rw [e] at h;cases h
    obtain⟨v,f,h1,h2,h3⟩:=r.get e
    refine⟨v,f,yq3 h1,h2,fun z=> ?_,fun _=>h3⟩
    exact absurd (of_decide_eq_false z) (by omega)
  ·rw [List.getElem?_append_right (by simpa using hi),List.getElem?_replicate] at h
   split at h<;>cases h
 ·obtain⟨o,h,_⟩:=r.own a h
  rw [z] at h;cases h
 ·unfold L2.start
  simp only [List.length_append,List.length_map,List.length_replicate]
  omega
section
variable{P:Program}{w:World}{K:tz0}{mg:tzA}{base:Heap}{κ:tz9}
theorem cO{x qual:Str}{st:Stmt}{f:Addr}{fd:FuncData}{N ps:List Str}{k:Nat}{fb:tz1}(F:Fun K x qual st f fd)(S:FnScope N ps (aX st))
  (hbody:∀(cdv:Value) (A:Around) (outer:List Env) (s:Shared) (H:Hp) (E:XK) (B:Nat->Addr->Prop),Room k (A.deeper (envOfC qual (aX st) s.heap.objs.size f cdv))->
   QSs (xO CX0 P w K mg base N qual (aX st) f cdv A outer s H E).nox κ (f0P ps.length B) (mO st) fb):
  FnOk P w K mg base CX0 (k+1) f fd ps (SpP ps.length K κ (gP ps.length (N.length-ps.length) fb)):=by
 refine F.ok S (fun vs H Q E h=>h.1) fun cdv A outer s H vs Q E hr ⟨hl,ds,fp,d,r,e,q⟩=>⟨_,hbody cdv A outer s H E (fun _ a=>a∈fp) hr,?_⟩
 have hn:ps.length<=N.length:=by have:=congrArg List.length S.pre;rw [List.length_take] at this;omega
 unfold gP at e
 obtain⟨_,e0⟩:=bV e
 obtain⟨⟨fl,ps'⟩,e1,e2⟩:=bind_some e0
 refine⟨_,fun _=>[],fl,ps',RS.start r hl hn,e1,?_⟩
 have sm:∀{H':Hp},Frm (fun _=>[]) H H'->SameK H H':=fun k=>⟨fun a o h kk=>k.keep a o h kk (fun _=>by simp),k.grow⟩
 cases fl with
 |ret d'=>
  cases e2
  exact fun v σ' H' F' fv s o rv=>q v H' fv (sm s.fr) (fun a ha=>(o.nw a ha).elim (fun⟨j,hj⟩=>absurd hj (by simp)) id) o.nd rv
 |nx=>
  cases e2
  exact fun σ' H' F' s=>q .non H' [] (sm s.fr) (fun a ha=>absurd ha (by simp)) List.nodup_nil .non
 |bk=>cases e2
 |ct=>cases e2
end
section
variable{X:Cx}{κ:tz9}{e:Expr}{es:List Expr}{g:tz3}{pos p:Pos}
theorem cR{x:Str}{st:Stmt}{ps:List Str}{f:Addr}{fd:FuncData}{k np:Nat}{h:tz6}(Dd:Dn X.K X.mg x st ps f fd)(G:FnOk X.prog X.w X.K X.mg X.base CX0 k f fd ps (SpP np X.K κ h))(hr:Room k X.A)(hg:Gl X x)(hnp:(e::es).length=np)(ha:QVA X κ (e::es) g)
  (hlen:∀ps ds,g ps=some ds->ds.length=(e::es).length)
  (hdb:(x==("__debug__":Str))=false:=by decide) (he:starEach (e::es) X.env=(false,eval e X.env)::starEach es X.env:=by rfl) (hpl:(backTo pos (starEach es X.env)).any (·.1)=false:=by rfl):
  QP X κ (.Call (.Name x p) (e::es) [] pos) (aJ h g):=(yh3 Dd G hr hg ha hdb he hpl).imp fun σ H Q hh_=>by
 obtain⟨ps,d,w,e,q⟩:=hh_
 obtain⟨ds,e1,e2⟩:=bind_some e
 refine⟨ps,ds,w,e1,fun vs H1 fp s1 r1=> ?_⟩
 show SpP np X.K κ h (vs++[]) H1 Q E0
 rw [List.append_nil]
 exact⟨by rw [r1.length,hlen ps ds e1,hnp],ds,fp,d,r1,e2,q.after s1⟩
theorem xt9{x:Str}{st:Stmt}{ps:List Str}{f:Addr}{fd:FuncData}{k:Nat}{h:tz6}(Dd:Dn X.K X.mg x st ps f fd)(G:FnOk X.prog X.w X.K X.mg X.base CX0 k f fd ps (SpP 0 X.K κ h))(hr:Room k X.A)(hg:Gl X x)
  (hdb:(x==("__debug__":Str))=false:=by decide):QP X κ (.Call (.Name x p) [] [] pos) (aJ h aE):=(xs9 Dd G hr hg hdb).imp fun σ H Q hh_=>by
 obtain⟨ps,d,w,e,q⟩:=hh_
 obtain⟨ds,e1,e2⟩:=bind_some e
 cases e1
 exact⟨rfl,[],[],d,.nil,e2,q⟩
theorem bS:∀(ps:PSt) (ds:List D),aE ps=some ds->ds.length=([]:List Expr).length:=fun _ _ h=>by cases h;rfl
theorem aO(h:∀ps ds,g ps=some ds->ds.length=es.length):∀(ps:PSt) (ds:List D),aB f g ps=some ds->ds.length=(e::es).length:=fun ps ds q=>by
 obtain⟨d,es',_,e2,rfl⟩:=vA q
 rw [List.length_cons,List.length_cons,h ps es' e2]
end
def qE(pick:List (Option Nat))(ps:PSt):PSt:=pick.map fun o=>o.bind fun j=>(ps[j]?).join
def fA(psb:PSt)(ft:tz4)(fe:tz2):List D->Option (List D)
 |[]=>some []
 |d::ds=>(ft (psb.set 0 (some d))).bind fun b=>if b=true then(fe (psb.set 0 (some d))).bind fun r=>(fA psb ft fe ds).bind fun rs=>some (r::rs) else fA psb ft fe ds
def gR(pick:List (Option Nat))(fi:tz3)(ft:tz4)(fe:tz2):tz2:=fun ps=>(fi ps).bind fun ds=>if ds.length<=sizeLine then(fA (qE pick ps) ft fe ds).bind fun rs=>some (.lst true rs) else none
def gI:tz4:=fun _=>some true
theorem WS.sub{K:tz0}{κ:tz9}{H:Hp}{σ:St}{ps:PSt}(pick:List (Option Nat))(w:WS K κ H σ ps):WS K κ H (qC pick σ) (qE pick ps):=fun i d h=>by
 unfold qE at h
 unfold qC
 rw [List.getElem?_map] at h|-
 cases e:pick[i]? with
 |none=>rw [e] at h;cases h
 | some o=>
  rw [e] at h
  cases o with
  |none=>cases h
  |some j=>
   have h':(ps[j]?).join=some d:=Option.some.inj h
   obtain⟨v,fp,h1,h2⟩:=w j d (join_some h')
   refine⟨v,fp,?_,h2⟩
   show some ((σ[j]?).join)=some (some v)
   rw [h1];rfl
theorem WS.set0{K:tz0}{κ:tz9}{H:Hp}{σ:St}{ps:PSt}{v:V}{d:D}{fp:List Addr}(w:∀(i:Nat) (d:D),i≠0->ps[i]? =some (some d)->∃v fp,σ[i]? =some (some v)/\Rep K κ H v d fp)(hl:ps.length<=σ.length)(r:Rep K κ H v d fp):WS K κ H (σ.set 0 (some v)) (ps.set 0 (some d)):=fun i d' h=>by
 by_cases e:i=0
 ·subst e
  by_cases hp:0<ps.length
  ·rw [List.getElem?_set_self hp] at h
   cases h
   exact⟨v,fp,by rw [List.getElem?_set_self (by omega)],r⟩
  ·rw [List.getElem?_eq_none (by simpa using hp)] at h;cases h
 ·rw [List.getElem?_set_ne (fun z=>e z.symm)] at h|-
  exact w i d' e h
section
variable{X:Cx}{κ:tz9}{sc:Scope}{NX N:List Str}{pick:List (Option Nat)}{elt iter:Expr}{ifs:List Expr}{scope:Scope}{pos px:Pos}{x:Str}{fi:tz3}{ft:tz4}{fe:tz2}
theorem PTs.imp(h:PTs X ifs t)(k:∀σ H Q,t' σ H Q->t σ H Q):PTs X ifs t':=⟨fun pins s σ H Q I q=>h pins s σ H Q I (k σ H Q q)⟩
theorem qW:PTs X [] (tQ X.K κ gI):=xt0.imp fun σ H Q ⟨ps,b,w,e,q⟩=>by cases e;exact q H (.refl H)
structure Grown(K:tz0)(κ:tz9)(H1:Hp)(Dd:Addr)(H':Hp)(vs:List V)(rs:List D)(fv:List Addr):Prop where
 same:SameK H1 H'
 at_:H' Dd=some (.lst vs)
 rep:Reps K κ H' vs rs fv
 new:∀a∈fv,H1 a=none
 ne:Dd∉fv
 nd:fv.Nodup
def wd3(K:tz0)(κ:tz9)(J:It)(Dd:Addr)(q:Hp->Prop)(V:Nat->Nat->St->Hp->Prop)(ft:tz4)(fe:tz2)(i m:Nat)(σ':St)(H':Hp):Prop:=
  (J.stop i H'/\q H')\/(J.go i H'/\∀x H2,J.yld i H' x H2->vQ 0 x σ' H2 fun σ3 H3=>tQ K κ ft σ3 H3 fun b H4=>
   if b=true then tP K κ fe σ3 H4 fun y H5=>∃ys,H5 Dd=some (.lst ys)/\ys.length<sizeLine/\∃m',m'<m/\V (i+1) m' σ3 (upd H5 Dd (.lst (ys++[y]))) else ∃m',m'<m/\V (i+1) m' σ3 H4)
def wh2(K:tz0)(κ:tz9)(H1:Hp)(Dd:Addr)(pick:List (Option Nat))(ps:PSt)(ft:tz4)(fe:tz2)(ds rs:List D)(i m:Nat)(σ':St)(H':Hp):Prop:=i<=ds.length/\m=ds.length-i/\(∀(j:Nat) (d:D),j≠0->(qE pick ps)[j]? =some (some d)->∃v fp,σ'[j]? =some (some v)/\Rep K κ H1 v d fp)/\(qE pick ps).length<=σ'.length/\
  ∃vs fv done cE,Grown K κ H1 Dd H' vs done fv/\done.length<=i/\fA (qE pick ps) ft fe (ds.drop i)=some cE/\rs=done++cE
theorem yz5{pick:List (Option Nat)}{J:It}{Z:List Addr}{σ:St}{ps:PSt}{H1:Hp}{Dd:Addr}{ds rs:List D}{Q:Addr->Hp->Prop}(w:WS X.K κ H1 σ ps)(hD:H1 Dd=none)(W:Walk X.K κ J Z H1 ds)(hz:ds.length<=sizeLine)
  (e:fA (qE pick ps) ft fe ds=some rs) (q:∀H' vs fv,Grown X.K κ H1 Dd H' vs rs fv->Q Dd H'):
  ∃V:Nat->Nat->St->Hp->Prop,(∃m,V 0 m (qC pick σ) (upd H1 Dd (.lst [])))/\∀i m σ' H',V i m σ' H'->wd3 X.K κ J Dd (Q Dd) V ft fe i m σ' H':=by
 refine⟨wh2 X.K κ H1 Dd pick ps ft fe ds rs,⟨_,Nat.zero_le _,rfl,fun j d _ h=>w.sub pick j d h,by simp [qE,qC],[],[],[],rs,⟨.new hD _,cJ,.nil,fun _ h=>absurd h (by simp),by simp,List.nodup_nil⟩,Nat.zero_le _,by rw [List.drop_zero];exact e,rfl⟩,?_⟩
 rintro i m σ' H' ⟨hi,rfl,ws,wl,vs,fv,done,cE,G,hdn,er,ers⟩
 have kp:qD Z H1 H':=fun a o h t=>G.same.keep a o h (t.elim lX fun t=>t.1)
 by_cases hlt:i<ds.length
 ·right
  have ed:ds[i]? =some ds[i]:=List.getElem?_eq_getElem hlt
  obtain⟨hgo,hy⟩:=W.go H' kp i _ ed
  refine⟨hgo,fun x H2 y=> ?_⟩
  obtain⟨rfl,rx⟩:=hy x H2 y
  rw [List.drop_eq_getElem_cons hlt,fA] at er
  obtain⟨b,e1,e2⟩:=bind_some er
  have wset:WS X.K κ H2 (σ'.set 0 (some x)) ((qE pick ps).set 0 (some ds[i])):=WS.set0 (fun j d hj h=>by obtain⟨v,fp,h1,h2⟩:=ws j d hj h;exact⟨v,fp,h1,h2.same G.same⟩) wl rx
  refine⟨_,b,wset,e1,fun H3 s3=> ?_⟩
  have keepS:∀(j:Nat) (d:D),j≠0->(qE pick ps)[j]? =some (some d)->∃v fp,(σ'.set 0 (some x))[j]? =some (some v)/\Rep X.K κ H1 v d fp:=fun j d hj h=>by
   obtain⟨v,fp,h1,h2⟩:=ws j d hj h
   exact⟨v,fp,by rw [List.getElem?_set_ne (fun z=>hj z.symm)];exact h1,h2⟩
  have Dkeep:∀{H5:Hp},SameK H2 H5->H5 Dd=some (.lst vs):=fun s=>s.keep _ _ G.at_ rfl
  cases b with
  | true=>
   dsimp only
   rw [if_pos rfl] at e2|-
   obtain⟨r,e3,e4⟩:=bind_some e2
   obtain⟨rs',e5,e6⟩:=bind_some e4
   cases e6
   refine⟨_,r,wset.same s3,e3,fun y H5 fw s5 n5 nd5 r5=> ?_⟩
   have s25:=s3.trans s5
   refine⟨vs,Dkeep s25,?_,ds.length-(i+1),by omega,hlt,rfl,keepS,by simpa using wl,vs++[y],fv++fw,done++[r],rs',?_,?_,e5,by rw [ers];simp⟩
   ·have:=G.rep.length;omega
   ·have hDw:Dd∉fw:=fun z=>by have:=s3.grow Dd (n5 Dd z);rw [G.at_] at this;cases this
    have hup:∀a,a≠Dd->upd H5 Dd (.lst (vs++[y])) a=H5 a:=fun a h=>bF h
    have tfk:∀a o,H5 a=some o->tf o=true->upd H5 Dd (.lst (vs++[y])) a=some o:=fun a o h t=>by
     rw [hup a]
     ·exact h
     ·rintro rfl;rw [Dkeep s25] at h;cases h;cases t
    have rv5:Reps X.K κ H5 vs done fv:=G.rep.same s25
    refine⟨⟨fun a o h k=> ?_,fun a h=> ?_⟩,cJ,Reps.append (rv5.move tfk fun a ha=>hup a fun z=>G.ne (z▸ha)) (Reps.one (r5.move tfk fun a ha=>hup a fun z=>hDw (z▸ha))),fun a ha=> ?_,fun z=> ?_,?_⟩
    ·rw [hup a (fun z=>by subst z;rw [hD] at h;cases h)]
     exact(G.same.trans s25).keep a o h k
    ·by_cases z:a=Dd
     ·subst z;rw [cJ] at h;cases h
     ·rw [hup a z] at h;exact(G.same.trans s25).grow a h
    ·rcases List.mem_append.mp ha with z|z
     ·exact G.new a z
     ·exact(G.same.trans s3).grow a (n5 a z)
    ·rcases List.mem_append.mp z with z|z
     ·exact G.ne z
     ·exact hDw z
    ·rw [List.nodup_append]
     refine⟨G.nd,nd5,fun a ha b hb e=> ?_⟩
     subst e
     obtain⟨o,h,k,_⟩:=G.rep.own a ha
     have:=s3.keep a o h k
     rw [n5 a hb] at this;cases this
   ·rw [List.length_append,List.length_singleton];omega
  |false=>
   dsimp only
   rw [if_neg Bool.false_ne_true] at e2|-
   refine⟨ds.length-(i+1),by omega,hlt,rfl,keepS,by simpa using wl,vs,fv,done,cE,⟨G.same.trans s3,Dkeep s3,G.rep.same s3,G.new,G.ne,G.nd⟩,by omega,e2,ers⟩
 ·left
  have ek:i=ds.length:=by omega
  subst ek
  rw [List.drop_length,fA] at er
  cases er
  rw [List.append_nil] at ers
  subst ers
  exact⟨W.stop H' kp,q H' vs fv G⟩
theorem qX(S:CScope sc NX N pick scope)(hsc:X.env.scope=sc)(hNX:X.N=NX)(hc:X.calm=true)(hi:QIV X κ (.Name x px) iter fi)
  (hg:∀cl fp s H,PG (cxB X N scope cl fp s H) (.Name x px) (vQ 0)) (ht:∀cl fp s H,PTs (cxB X N scope cl fp s H) ifs (tQ X.K κ ft)) (he:∀cl fp s H,PE (cxB X N scope cl fp s H) elt (tP X.K κ fe))
  (hs:∀x,foldedSetIterable iter X.env x=pure x:=by intro _;rfl):QP X κ (.ListComp elt [⟨.Name x px,iter,ifs,0⟩] scope pos) (gR pick fi ft fe):=
 (xk4 S hsc hNX hc hi hg ht he hs).imp fun σ H Q hh_=>by
  obtain⟨ps,d,w,e,q⟩:=hh_
  obtain⟨ds,e1,e2⟩:=bind_some e
  obtain⟨hz,e3⟩:=bV e2
  obtain⟨rs,e4,e5⟩:=bind_some e3
  cases e5
  refine⟨ps,ds,w,e1,fun J H1 Z s1 W Dd hD=> ?_⟩
  refine yz5 (Q:=fun Dd H'=>Q (.ref Dd) H') (w.same s1) hD W hz e4 fun H' vs fv G=> ?_
  refine q _ H' (Dd::fv) (s1.trans G.same) (fun a ha=> ?_) (List.nodup_cons.mpr ⟨G.ne,G.nd⟩) (.lst G.at_ G.rep)
  rcases List.mem_cons.mp ha with z|z
  ·rw [z];exact s1.grow Dd hD
  ·exact s1.grow a (G.new a z)
end
inductive Ps1 where
 |ix (n:Nat)|fld (f:Str)
def cN:List Str->Str->Option Nat
 |[],_=>none
 |n::ns,f=>if n=f then some 0 else(cN ns f).map (·+1)
def eP{α:Type}(h:D->Option (α×D)):D->List Ps1->Option (α×D)
 |d,[]=>h d
 | .lst true xs,.ix n::p=>(xs[n]?).bind fun d=>(eP h d p).bind fun r=>some (r.1,.lst true (xs.set n r.2))
 | .obj true C ns vs,.fld f::p=>(cN ns f).bind fun n=>(vs[n]?).bind fun d=>(eP h d p).bind fun r=>some (r.1,.obj true C ns (vs.set n r.2))
 |_,_=>none
def iZ:D->List Ps1->Option D
 |d,[]=>some d
 | .lst true xs,.ix n::p=>(xs[n]?).bind fun d=>iZ d p
 | .obj true _ ns vs,.fld f::p=>(cN ns f).bind fun n=>(vs[n]?).bind fun d=>iZ d p
 |_,_=>none
def At(H:Hp):V->List Ps1->V->Prop
 |v0,[],v=>v=v0
 |v0,.ix n::p,v=>∃a vs v1,v0= .ref a/\H a=some (.lst vs)/\vs[n]? =some v1/\At H v1 p v
 |v0,.fld f::p,v=>∃a C dx fs n v1,v0= .ref a/\H a=some (.ins C dx fs)/\cN (fs.map (·.1)) f=some n/\(fs.map (·.2))[n]? =some v1/\At H v1 p v
theorem At.same(s:SameK H H'):∀{p:List Ps1} {v0 v:V},At H v0 p v->At H' v0 p v
 |[],_,_,h=>h
 | .ix n::p,_,_,⟨a,vs,v1,h1,h2,h3,h4⟩=>⟨a,vs,v1,h1,s.keep _ _ h2 rfl,h3,At.same s h4⟩
 | .fld f::p,_,_,⟨a,C,dx,fs,n,v1,h1,h2,h3,h4,h5⟩=>⟨a,C,dx,fs,n,v1,h1,s.keep _ _ h2 rfl,h3,h4,At.same s h5⟩
theorem At.snoc_ix(h:H a=some (.lst vs))(hv:vs[n]? =some v):∀{p:List Ps1} {v0:V},At H v0 p (.ref a)->At H v0 (p++[.ix n]) v
 |[],_,e=>⟨a,vs,v,e.symm,h,hv,rfl⟩
 | .ix m::p,_,⟨b,us,v1,h1,h2,h3,h4⟩=>⟨b,us,v1,h1,h2,h3,At.snoc_ix h hv h4⟩
 | .fld f::p,_,⟨b,C,dx,fs,m,v1,h1,h2,h3,h4,h5⟩=>⟨b,C,dx,fs,m,v1,h1,h2,h3,h4,At.snoc_ix h hv h5⟩
theorem At.snoc_fld(h:H a=some (.ins C dx fs))(hn:cN (fs.map (·.1)) f=some n)(hv:(fs.map (·.2))[n]? =some v):∀{p:List Ps1} {v0:V},At H v0 p (.ref a)->At H v0 (p++[.fld f]) v
 |[],_,e=>⟨a,C,dx,fs,n,v,e.symm,h,hn,hv,rfl⟩
 | .ix m::p,_,⟨b,us,v1,h1,h2,h3,h4⟩=>⟨b,us,v1,h1,h2,h3,At.snoc_fld h hn hv h4⟩
 | .fld f'::p,_,⟨b,C',dx',fs',m,v1,h1,h2,h3,h4,h5⟩=>⟨b,C',dx',fs',m,v1,h1,h2,h3,h4,At.snoc_fld h hn hv h5⟩
theorem yc6(e:eP h d0 (.ix n::p)=some (r,d')):∃xs d1 d2,d0= .lst true xs/\xs[n]? =some d1/\eP h d1 p=some (r,d2)/\d'= .lst true (xs.set n d2):=by
 unfold eP at e
 split at e
 ·rename_i z;cases z
 ·rename_i z;cases z
  obtain⟨d1,h1,h2⟩:=bind_some e
  obtain⟨⟨r1,d2⟩,h3,h4⟩:=bind_some h2
  cases h4
  exact⟨_,_,_,rfl,h1,h3,rfl⟩
 ·rename_i z;cases z
 ·cases e
theorem zt0(e:eP h d0 (.fld f::p)=some (r,d')):∃C ns xs n d1 d2,d0= .obj true C ns xs/\cN ns f=some n/\xs[n]? =some d1/\eP h d1 p=some (r,d2)/\d'= .obj true C ns (xs.set n d2):=by
 unfold eP at e
 split at e
 ·rename_i z;cases z
 ·rename_i z;cases z
 ·rename_i z;cases z
  obtain⟨n,h0,h9⟩:=bind_some e
  obtain⟨d1,h1,h2⟩:=bind_some h9
  obtain⟨⟨r1,d2⟩,h3,h4⟩:=bind_some h2
  cases h4
  exact⟨_,_,_,_,_,_,rfl,h0,h1,h3,rfl⟩
 ·cases e
theorem zh0(e:iZ d0 (.ix n::p)=some d):∃xs d1,d0= .lst true xs/\xs[n]? =some d1/\iZ d1 p=some d:=by
 unfold iZ at e
 split at e
 ·rename_i z;cases z
 ·rename_i z;cases z
  obtain⟨d1,h1,h2⟩:=bind_some e
  exact⟨_,_,rfl,h1,h2⟩
 ·rename_i z;cases z
 ·cases e
theorem zL(e:iZ d0 (.fld f::p)=some d):∃C ns xs n d1,d0= .obj true C ns xs/\cN ns f=some n/\xs[n]? =some d1/\iZ d1 p=some d:=by
 unfold iZ at e
 split at e
 ·rename_i z;cases z
 ·rename_i z;cases z
 ·rename_i z;cases z
  obtain⟨n,h0,h9⟩:=bind_some e
  obtain⟨d1,h1,h2⟩:=bind_some h9
  exact⟨_,_,_,_,_,rfl,h0,h1,h2⟩
 ·cases e
theorem lY:∀{d0:D},eP h d0 p=some (r,d')->∃d dn,iZ d0 p=some d/\h d=some (r,dn):=by
 induction p generalizing d' with
 |nil=>intro d0 e;rw [eP] at e;exact⟨d0,d',by rw [iZ],e⟩
 | cons s p ih=>
  intro d0 e
  cases s with
  |ix m=>
   obtain⟨xs,d1,d2,rfl,h1,h3,rfl⟩:=yc6 e
   obtain⟨d,dn,g1,g2⟩:=ih h3
   refine⟨d,dn,?_,g2⟩
   show(xs[m]?).bind _=_
   rw [h1];exact g1
  |fld f=>
   obtain⟨C,ns,xs,m,d1,d2,rfl,h0,h1,h3,rfl⟩:=zt0 e
   obtain⟨d,dn,g1,g2⟩:=ih h3
   refine⟨d,dn,?_,g2⟩
   show(cN ns f).bind _=_
   rw [h0]
   show(xs[m]?).bind _=_
   rw [h1];exact g1
section
variable{K:tz0}{κ:tz9}{H:Hp}
theorem Reps.focus:∀{vs:List V} {ds:List D} {g:List Addr} {n:Nat} {d1:D} {v1:V},Reps K κ H vs ds g->ds[n]? =some d1->vs[n]? =some v1->∃f1 cE,Rep K κ H v1 d1 f1/\g.Perm (f1++cE)/\
  ∀(H':Hp) (d':D) (f':List Addr),(∀a o,H a=some o->tf o=true->H' a=some o)->(∀a∈cE,H' a=H a)->Rep K κ H' v1 d' f'->∃g',Reps K κ H' vs (ds.set n d') g'/\g'.Perm (f'++cE)
 |_,_,_,_,_,_,.nil,e,_=>by simp at e
 |_,_,_,0,_,_,.cons (f:=f) (g:=g) h hs,e,e'=>by
  simp at e e';subst e;subst e'
  exact⟨f,g,h,.refl _,fun H' d' f' t k r=>⟨f'++g,.cons r (hs.move t k),.refl _⟩⟩
 | _,_,_,n+1,_,_,.cons (f:=f) (g:=g) h hs,e,e'=>by
  obtain⟨f1,cE,h1,h2,h3⟩:=Reps.focus (n:=n) hs (by simpa using e) (by simpa using e')
  refine⟨f1,f++cE,h1,?_,fun H' d' f' t k r=> ?_⟩
  ·refine(h2.append_left f).trans ?_
   rw [<-List.append_assoc,<-List.append_assoc]
   exact List.perm_append_comm.append_right cE
  ·obtain⟨g',r1,r2⟩:=h3 H' d' f' t (fun a ha=>k a (List.mem_append_right _ ha)) r
   refine⟨f++g',.cons (h.move t fun a ha=>k a (List.mem_append_left _ ha)) r1,?_⟩
   refine(r2.append_left f).trans ?_
   rw [<-List.append_assoc,<-List.append_assoc]
   exact List.perm_append_comm.append_right cE
theorem zl0{b:Addr}{g f1 fd cE rest1:List Addr}(k2:g.Perm (f1++rest1))(m3:f1.Perm (fd++cE)):(b::g).Perm (fd++b::(cE++rest1)):=by
 refine((k2.trans (m3.append_right rest1)).cons b).trans ?_
 rw [List.append_assoc]
 exact List.perm_middle.symm
def Foc(K:tz0)(κ:tz9)(H:Hp){α:Type}(h:D->Option (α×D))(r:α)(v v0:V)(d0':D)(fp:List Addr):Prop:=∃d d' fd cE,Rep K κ H v d fd/\h d=some (r,d')/\fp.Perm (fd++cE)/\
  ∀(H':Hp) (f':List Addr),(∀a o,H a=some o->tf o=true->H' a=some o)->(∀a∈cE,H' a=H a)->Rep K κ H' v d' f'->∃fp',Rep K κ H' v0 d0' fp'/\fp'.Perm (f'++cE)
theorem focus{α:Type}{h:D->Option (α×D)}{r:α}{p:List Ps1}:∀{v0 v:V} {d0 d0':D} {fp:List Addr},Rep K κ H v0 d0 fp->eP h d0 p=some (r,d0')->At H v0 p v->Foc K κ H h r v v0 d0' fp:=by
 induction p with
 |nil=>
  intro v0 v d0 d0' fp R e a
  rw [eP] at e
  cases(show v=v0 from a)
  exact⟨d0,d0',fp,[],R,e,by rw [List.append_nil],fun H' f' t k r=>⟨f',r,by rw [List.append_nil]⟩⟩
 | cons s p ih=>
  intro v0 v d0 d0' fp R e a
  have deep:∀(b:Addr) (vs:List V) (xs:List D) (n:Nat) (d1 d2:D) (v1:V) (g:List Addr),fp=b::g->Reps K κ H vs xs g->xs[n]? =some d1->vs[n]? =some v1->eP h d1 p=some (r,d2)->At H v1 p v->(∀(H':Hp) (g2:List Addr),H' b=H b->Reps K κ H' vs (xs.set n d2) g2->Rep K κ H' v0 d0' (b::g2))->
    Foc K κ H h r v v0 d0' fp:=fun b vs xs n d1 d2 v1 g ef hs h1 e3 h3 e4 mk=>by
   subst ef
   obtain⟨f1,rest1,k1,k2,k3⟩:=hs.focus h1 e3
   obtain⟨d,d',fd,cE,m1,m2,m3,m4⟩:=ih k1 h3 e4
   refine⟨d,d',fd,b::(cE++rest1),m1,m2,zl0 k2 m3,fun H' f' t k rr=> ?_⟩
   obtain⟨g1,q1,q2⟩:=m4 H' f' t (fun a ha=>k a (List.mem_cons_of_mem _ (List.mem_append_left _ ha))) rr
   obtain⟨g2,q3,q4⟩:=k3 H' d2 g1 t (fun a ha=>k a (List.mem_cons_of_mem _ (List.mem_append_right _ ha))) q1
   exact⟨b::g2,mk H' g2 (k b List.mem_cons_self) q3,zl0 q4 q2⟩
  cases s with
  |ix n=>
   obtain⟨b,vs,v1,e1,e2,e3,e4⟩:=a
   subst e1
   obtain⟨xs,d1,d2,rfl,h1,h3,rfl⟩:=yc6 e
   obtain⟨_,_,g,e5,hb,hs,ef⟩:=R.lstT_inv
   cases e5
   rw [e2] at hb;cases hb
   exact deep b vs xs n d1 d2 v1 g ef hs h1 e3 h3 e4 fun H' g2 k q3=> .lst (k.trans e2) q3
  |fld f=>
   obtain⟨b,C,dx,fs,n,v1,e1,e2,e2',e3,e4⟩:=a
   subst e1
   obtain⟨C',ns,xs,n',d1,d2,rfl,h0,h1,h3,rfl⟩:=zt0 e
   obtain⟨_,_,_,g,e5,hb,hn,hs,ef⟩:=R.objT_inv
   cases e5
   rw [e2] at hb;cases hb
   subst hn
   rw [e2'] at h0;cases h0
   exact deep b _ xs n d1 d2 v1 g ef hs h1 e3 h3 e4 fun H' g2 k q3=> .obj (k.trans e2) rfl q3
end
theorem uJ(R:RS φ H σ ps F)(s1:SameK H H1)(hb:φ.bor j=false)(e0:ps[j]? =some (some d0))(ev:σ[j]? =some (some v0))
  (em:eP h d0 p=some (r,d0')) (at_:At H1 v0 p v):∃d d' fd,Rep φ.K φ.κ H1 v d fd/\h d=some (r,d')/\fd.Nodup/\(∀a∈fd,a∈F j)/\
  ∀(H':Hp) (fd' fr:List Addr),(∀a o,H1 a=some o->kd o=true->a∉fd->H' a=some o)->(∀a,H' a=none->H1 a=none)->Rep φ.K φ.κ H' v d' fd'->(fd'++fr).Nodup->(∀a∈fd'++fr,a∈fd\/H a=none)->
   ∃F',Stp φ σ H F σ H' (ps.set j (some d0')) F'/\OwnV F H F' fr:=by
 obtain⟨v0',fp,h1,h2,h3,_⟩:=R.rep j d0 e0
 rw [ev] at h1;cases h1
 have h3:=h3 hb
 subst h3
 obtain⟨d,d',fd,cE,m1,m2,m3,m4⟩:=focus (h2.same s1) em at_
 have ndF:=R.nd j
 have ndp:(fd++cE).Nodup:=m3.nodup_iff.mp ndF
 obtain⟨nd1,nd2,nd3⟩:=List.nodup_append.mp ndp
 have inF:∀a,a∈fd\/a∈cE->a∈F j:=fun a ha=>m3.mem_iff.mpr (List.mem_append.mpr ha)
 refine⟨d,d',fd,m1,m2,nd1,fun a ha=>inF a (.inl ha),fun H' fd' fr k1 k2 k3 k4 k5=> ?_⟩
 have tfk:∀a o,H1 a=some o->tf o=true->H' a=some o:=fun a o ha t=>k1 a o ha (lX t) fun hm=>by
  obtain⟨o',q,_,q'⟩:=m1.own a hm
  rw [ha] at q;cases q;rw [t] at q';cases q'
 have keepO:∀a,(∃i,a∈F i)->a∉fd->H' a=H1 a:=fun a ⟨i,hi⟩ hn=>by
  obtain⟨o,q,q',_⟩:=R.own hi
  have q1:=s1.keep a o q q'
  rw [q1];exact k1 a o q1 q' hn
 have notfd:∀a,a∈cE->a∉fd:=fun a hr hf=>nd3 a hf a hr rfl
 obtain⟨fp',r1,r2⟩:=m4 H' fd' tfk (fun a ha=>keepO a ⟨j,inF a (.inr ha)⟩ (notfd a ha)) k3
 obtain⟨kd1,kd2,kd3⟩:=List.nodup_append.mp k4
 have memfp:∀a,a∈fp'->a∈fd'\/a∈cE:=fun a ha=>List.mem_append.mp (r2.mem_iff.mp ha)
 have lt:j<ps.length:=(List.getElem?_eq_some_iff.mp e0).1
 have old:∀a,a∈fd'++fr->∀i,a∈F i->a∈fd:=fun a ha i hi=>(k5 a ha).elim id fun z=>by
  obtain⟨o,q,_⟩:=R.own hi
  rw [z] at q;cases q
 refine⟨tX F j fp',⟨⟨fun a o ha hk hn=> ?_,fun a ha=>s1.grow a (k2 a ha)⟩,fun i a ha=> ?_,⟨fun i d2 hi=> ?_,fun i a ha=> ?_,fun i k a ha hk=> ?_,fun i=> ?_,fun i a ha kk hB=> ?_,fun kk a hB z=>R.bt kk a hB (s1.grow a (k2 a z)),by simpa using R.len⟩,fun _ _=>rfl⟩,⟨fun a ha=> ?_,kd2,fun i a ha hr=> ?_⟩⟩
 ·exact k1 a o (s1.keep a o ha hk) hk fun hm=>hn j (inF a (.inl hm))
 ·rcases jD ha with z|z
  ·rcases memfp a z with z|z
   ·exact(k5 a (List.mem_append_left _ z)).elim (fun z=> .inl ⟨j,inF a (.inl z)⟩) .inr
   ·exact .inl ⟨j,inF a (.inr z)⟩
  ·exact .inl ⟨i,z⟩
 ·by_cases e:i=j
  ·subst e
   rw [List.getElem?_set_self lt] at hi
   cases hi
   exact⟨v0,fp',ev,r1,fun _=>eJ.symm,fun z=>by rw [hb] at z;cases z⟩
  ·rw [List.getElem?_set_ne (fun z=>e z.symm)] at hi
   obtain⟨v2,f2,q1,q2,q3,q4⟩:=R.rep i d2 hi
   refine⟨v2,f2,q1,(q2.same s1).move tfk fun a ha=> ?_,fun z=>by rw [eO e];exact q3 z,q4⟩
   obtain⟨o,w1,w2,_⟩:=q2.own a ha
   have w3:=s1.keep a o w1 w2
   rw [w3]
   refine k1 a o w3 w2 fun hm=> ?_
   have hF:=inF a (.inl hm)
   cases hbi:φ.bor i with
   |true=>exact R.nb j a hF i (q4 hbi a ha)
   |false=>rw [q3 hbi] at ha;exact e (R.dis i j a ha hF)
 ·by_cases e:i=j
  ·subst e;exact⟨hb,d0',by rw [List.getElem?_set_self lt]⟩
  ·rw [eO e] at ha
   obtain⟨b1,d1,b2⟩:=R.emp i a ha
   exact⟨b1,d1,by rw [List.getElem?_set_ne (fun z=>e z.symm)];exact b2⟩
 ·have hh:∀a,a∈fp'->∀i,i≠j->a∈F i->False:=fun a ha i hij hi=>by
   rcases memfp a ha with z|z
   ·exact hij (R.dis i j a hi (inF a (.inl (old a (List.mem_append_left _ z) i hi))))
   ·exact hij (R.dis i j a hi (inF a (.inr z)))
  by_cases e1:i=j
  ·by_cases e2:k=j
   ·rw [e1,e2]
   ·subst e1;rw [eJ] at ha;rw [eO e2] at hk;exact(hh a ha k e2 hk).elim
  ·by_cases e2:k=j
   ·subst e2;rw [eJ] at hk;rw [eO e1] at ha;exact(hh a hk i e1 ha).elim
   ·rw [eO e1] at ha;rw [eO e2] at hk;exact R.dis i k a ha hk
 ·by_cases e:i=j
  ·subst e
   rw [eJ]
   refine r2.nodup_iff.mpr (List.nodup_append.mpr ⟨kd1,nd2,fun a ha b hb' e=> ?_⟩)
   subst e
   exact notfd a hb' (old a (List.mem_append_left _ ha) i (inF a (.inr hb')))
  ·rw [eO e];exact R.nd i
 ·rcases jD ha with z|z
  ·rcases memfp a z with z|z
   ·exact R.notB ((k5 a (List.mem_append_left _ z)).elim (fun z=> .inl ⟨j,inF a (.inl z)⟩) .inr) kk hB
   ·exact R.nb j a (inF a (.inr z)) kk hB
  ·exact R.nb i a z kk hB
 ·exact(k5 a (List.mem_append_right _ ha)).elim (fun z=> .inl ⟨j,inF a (.inl z)⟩) .inr
 ·rcases jD ha with z|z
  ·rcases memfp a z with z|z
   ·exact kd3 a z a hr rfl
   ·exact notfd a z (old a (List.mem_append_right _ hr) j (inF a (.inr z)))
  ·have:=old a (List.mem_append_right _ hr) i z
   by_cases e:i=j
   ·subst e
    rw [eJ] at ha
    rcases memfp a ha with w|w
    ·exact kd3 a w a hr rfl
    ·exact notfd a w this
   ·exact e (R.dis i j a z (inF a (.inl this)))
def nE(K:tz0)(κ:tz9)(j:Nat)(pf:PSt->Option (List Ps1)):TE:=fun σ H Q=>∃ps p d0 d,WS K κ H σ ps/\ps[j]? =some (some d0)/\pf ps=some p/\iZ d0 p=some d/\∀v H' v0,SameK H H'->σ[j]? =some (some v0)->At H' v0 p v->Q v H'
theorem zM{K:tz0}{κ:tz9}{H:Hp}{v0 v:V}{d0 d:D}{fp:List Addr}{p:List Ps1}(R:Rep K κ H v0 d0 fp)(g:iZ d0 p=some d)(a:At H v0 p v):∃fd,Rep K κ H v d fd:=by
 have key:∀{p:List Ps1} {v0 v:V} {d0 d:D} {fp:List Addr},Rep K κ H v0 d0 fp->iZ d0 p=some d->At H v0 p v->∃fd,Rep K κ H v d fd:=by
  intro p
  induction p with
  |nil=>intro v0 v d0 d fp R g a;cases g;cases(show v=v0 from a);exact⟨fp,R⟩
  | cons s p ih=>
   intro v0 v d0 d fp R g a
   cases s with
   |ix n=>
    obtain⟨b,vs,v1,e1,e2,e3,e4⟩:=a
    subst e1
    obtain⟨xs,d1,rfl,h1,h2⟩:=zh0 g
    obtain⟨_,_,_,e5,hb,hs,_⟩:=R.lstT_inv
    cases e5
    rw [e2] at hb;cases hb
    obtain⟨v',f,q1,q2,_⟩:=hs.get h1
    rw [e3] at q1;cases q1
    exact ih q2 h2 e4
   |fld f=>
    obtain⟨b,C,dx,fs,n,v1,e1,e2,e2',e3,e4⟩:=a
    subst e1
    obtain⟨C',ns,xs,n',d1,rfl,h0,h1,h2⟩:=zL g
    obtain⟨_,_,_,_,e5,hb,hn,hs,_⟩:=R.objT_inv
    cases e5
    rw [e2] at hb;cases hb
    subst hn
    rw [e2'] at h0;cases h0
    obtain⟨v',f,q1,q2,_⟩:=hs.get h1
    rw [e3] at q1;cases q1
    exact ih q2 h2 e4
 exact key R g a
def bU:PSt->Option (List Ps1):=fun _=>some []
def eU(j:Nat)(pf:PSt->Option (List Ps1))(fb:tz2):PSt->Option (List Ps1):=fun ps=>(pf ps).bind fun p=>((ps[j]?).join).bind fun d0=>(iZ d0 p).bind fun d=>(fb ps).bind fun y=>match d,y with
 | .lst true xs,.int i=>(ixN xs.length i).bind fun n=>some (p++[.ix n])
 |_,_=>none
def yl1(j:Nat)(pf:PSt->Option (List Ps1))(C f:Str):PSt->Option (List Ps1):=fun ps=>(pf ps).bind fun p=>((ps[j]?).join).bind fun d0=>(iZ d0 p).bind fun d=>match d with
 | .obj true C' _ _=>if C'=C then some (p++[.fld f]) else none
 |_=>none
theorem rK:∀{fs:List (Str×V)} {f:Str} {n:Nat} {v:V},cN (fs.map (·.1)) f=some n->(fs.map (·.2))[n]? =some v->fs.lookup f=some v
 |[],_,_,_,h,_=>by cases h
 | (g,u)::fs,f,n,v,h,hv=>by
  rw [List.map_cons,cN] at h
  by_cases e:g=f
  ·rw [if_pos e] at h
   cases h
   rw [List.lookup_cons]
   have:(f==g)=true:=by simp [e]
   rw [this]
   simpa using hv
  ·rw [if_neg e] at h
   cases q:cN (fs.map (·.1)) f with
   |none=>rw [q] at h;cases h
   |some m=>
    rw [q] at h;cases h
    rw [List.lookup_cons]
    have:(f==g)=false:=by simp;exact fun z=>e z.symm
    rw [this]
    exact rK q (by simpa using hv)
section
variable{X:Cx}{φ:F0}{κ:tz9}{K:tz0}{o e a b:Expr}{f fb fe:tz2}{g:tz3}{pf:PSt->Option (List Ps1)}{j:Nat}{pos apos:Pos}
theorem cH(j:Nat){x:Str}(hN:X.N[j]? =some x:=by rfl)(hv:Vis X.env.scope x:=by first|exact Or.inl rfl|exact Or.inr (Or.inl rfl)|exact Or.inr (Or.inr rfl))(hd:(x==("__debug__":Str))=false:=by decide)
  (hcd:(x==("__classdict__":Str))=false:=by decide):PE X (.Name x pos) (nE K κ j bU):=(uB hN hv hd hcd).imp fun σ H Q hh_=>by
 obtain⟨ps,p,d0,d,w,e0,ep,eg,q⟩:=hh_
 cases ep
 obtain⟨v,fp,h1,h2⟩:=w j d0 e0
 exact⟨v,h1,q v H v (.refl H) h1 rfl⟩
theorem jE(ha:PE X a (nE X.K κ j pf))(hb:QV X κ b fb)(hs:yO b:=by exact fun _ _=>rfl):PE X (.Subscript a b pos) (nE X.K κ j (eU j pf fb)):=
 (zo8 zg5 ha hb hs).imp fun σ H Q hh_=>by
  obtain⟨ps,p,d0,d,w,e0,ep,eg,q⟩:=hh_
  obtain⟨p1,e1,e2⟩:=bind_some ep
  obtain⟨d0',e3,e4⟩:=bind_some e2
  have:=join_some e3
  rw [e0] at this;cases this
  obtain⟨d1,e5,e6⟩:=bind_some e4
  obtain⟨y,e7,e8⟩:=bind_some e6
  split at e8
  ·rename_i xs i
   obtain⟨n,e9,e10⟩:=bind_some e8
   cases e10
   refine⟨ps,p1,d0,_,w,e0,e1,e5,fun v H1 v0 s1 ev a1=>⟨ps,_,w.same s1,e7,fun u H2 fq s2 r2=> ?_⟩⟩
   obtain⟨v0',fp,h1,h2⟩:=w j d0 e0
   rw [ev] at h1;cases h1
   obtain⟨fd,rd⟩:=zM (h2.same (s1.trans s2)) e5 (a1.same s2)
   obtain⟨l,vs,g,rfl,hl,hr,_⟩:=rd.lstT_inv
   have ln:=hr.length
   have hn:=(yC e9).2.1
   obtain⟨v1,hv⟩:∃v1,vs[n]? =some v1:=⟨_,List.getElem?_eq_getElem (by rw [ln];exact hn)⟩
   refine⟨l,vs,i,v1,rfl,r2.is_int,.inl (.inl hl),?_,q _ H2 v0 (s1.trans s2) ev (At.snoc_ix hl hv (a1.same s2))⟩
   unfold atI
   rw [ln,e9];exact hv
  ·cases e8
theorem yq4{C fn:Str}(hc:Cls X.K (κ C))(hna:cY X.K (κ C) fn)(ha:PE X a (nE X.K κ j pf))(hb:attributeBase a fn X.env (eval a X.env)=eval a X.env:=by rfl):PE X (.Attribute a fn pos) (nE X.K κ j (yl1 j pf C fn)):=
 (xr4 ha hb).imp fun σ H Q hh_=>by
  obtain⟨ps,p,d0,d,w,e0,ep,eg,q⟩:=hh_
  obtain⟨p1,e1,e2⟩:=bind_some ep
  obtain⟨d0',e3,e4⟩:=bind_some e2
  have:=join_some e3
  rw [e0] at this;cases this
  obtain⟨d1,e5,e6⟩:=bind_some e4
  split at e6
  ·rename_i C' ns xs
   obtain⟨hC,e7⟩:=bV e6
   subst hC
   cases e7
   refine⟨ps,p1,d0,_,w,e0,e1,e5,fun v H1 v0 s1 ev a1=> ?_⟩
   obtain⟨v0',fp,h1,h2⟩:=w j d0 e0
   rw [ev] at h1;cases h1
   obtain⟨fd,rd⟩:=zM (h2.same s1) e5 a1
   have key:∀{p:List Ps1} {d0:D},iZ d0 p=some (.obj true C' ns xs)->iZ d0 (p++[.fld fn])=some d->∃n d',cN ns fn=some n/\xs[n]? =some d':=by
    intro p
    induction p with
    |nil=>
     intro d0 h1 h2
     cases h1
     obtain⟨n,k1,k2⟩:=bind_some h2
     obtain⟨d',k3,_⟩:=bind_some k2
     exact⟨n,d',k1,k3⟩
    | cons s p ih=>
     intro d0 h1 h2
     cases s with
     |ix m=>
      obtain⟨ys,x1,rfl,k1,k2⟩:=zh0 h1
      obtain⟨_,x2,z,k3,k4⟩:=zh0 h2
      cases z
      rw [k1] at k3;cases k3
      exact ih k2 k4
     |fld f'=>
      obtain⟨C2,ns2,ys,m1,x1,rfl,k0,k1,k2⟩:=zL h1
      obtain⟨_,_,_,m2,x2,z,k5,k3,k4⟩:=zL h2
      cases z
      rw [k0] at k5;cases k5
      rw [k1] at k3;cases k3
      exact ih k2 k4
   obtain⟨n,d',k1,k2⟩:=key e5 eg
   obtain⟨l,dx,fs,g,rfl,hl,hn,hr,_⟩:=rd.objT_inv
   subst hn
   obtain⟨v1,f1,k3,_⟩:=hr.get k2
   exact⟨l,κ C',dx,fs,v1,rfl,hl,hc,hna,rK k1 k3,q _ H1 v0 s1 ev (At.snoc_fld hl k1 k3 a1)⟩
  ·cases e6
def dI(j:Nat)(pf:PSt->Option (List Ps1))(g:tz3)(h:List D->D->Option (D×D)):tz8:=fun ps=>((ps[j]?).join).bind fun d0=>(pf ps).bind fun p=>(g ps).bind fun ys=>(eP (h ys) d0 p).bind fun r=>some (r.1,ps.set j (some r.2))
theorem wX(e:dI j pf g h ps=some (d,ps')):∃d0 p ys d0',ps[j]? =some (some d0)/\pf ps=some p/\g ps=some ys/\eP (h ys) d0 p=some (d,d0')/\ps'=ps.set j (some d0'):=by
 obtain⟨d0,e1,e2⟩:=bind_some e
 obtain⟨p,e3,e4⟩:=bind_some e2
 obtain⟨ys,e5,e6⟩:=bind_some e4
 obtain⟨⟨r,d0'⟩,e7,e8⟩:=bind_some e6
 cases e8
 exact⟨d0,p,ys,d0',join_some e1,e3,e5,e7,rfl⟩
def cW:List D->D->Option (D×D)
 |[y],.lst true xs=>if xs.length<sizeLine then some (.non,.lst true (xs++[y])) else none
 |_,_=>none
theorem wY(h:cW ys d=some (r,d')):∃y xs,ys=[y]/\d= .lst true xs/\xs.length<sizeLine/\r= .non/\d'= .lst true (xs++[y]):=by
 unfold cW at h
 split at h
 ·obtain⟨hc,e⟩:=bV h
  cases e
  exact⟨_,_,rfl,rfl,hc,rfl,rfl⟩
 ·cases h
theorem zh1(w:WS K κ H σ ps)(s1:SameK H H1)(e0:ps[j]? =some (some d0))(ev:σ[j]? =some (some v0))(g:iZ d0 p=some d)(a:At H1 v0 p v):∃fd,Rep K κ H1 v d fd:=by
 obtain⟨v0',fp,h1,h2⟩:=w j d0 e0
 rw [ev] at h1;cases h1
 exact zM (h2.same s1) g a
theorem mG(hb:φ.bor j=false)(ho:PE X o (nE X.K κ j pf))(ha:PA X [e] (tPA X.K κ g))
  (hbase:attributeBase o "append" X.env (eval o X.env)=eval o X.env:=by rfl)
  (hfew:((backTo pos (starEach [e] X.env)).all (fun x=> !x.1)&&(backToKw pos (keywordEach [] X.env)).all (fun x=>x.1.isSome)
   &&decide ([e].length+([]:List Keyword).length+(if ([]:List Keyword).isEmpty then 0 else 1)<30))=true:=by rfl)
  (hline:(apos.endLine==pos.line)=true:=by rfl) (hs:starEach [e] X.env=(false,eval e X.env)::starEach [] X.env:=by rfl) (hplain:(backTo pos (starEach [] X.env)).any (·.1)=false:=by rfl):
  QE X κ φ (.Call (.Attribute o "append" apos) [e] [] pos) (dI j pf g cW):=
 (xg3 PySem.F.plainAttrs_list PySem.F.slot_list_append PySem.F.type_list_append zk2 ho ha hbase hfew hline hs hplain).imp fun σ H Q hh_=>by
  obtain⟨ps,F,d,ps',R,e,q⟩:=hh_
  obtain⟨d0,p,ys,d0',e0,ep,eg,em,rfl⟩:=wX e
  obtain⟨dd,dn,gp,hh⟩:=lY em
  refine⟨ps,p,d0,dd,R.ws,e0,ep,gp,fun v H1 v0 s1 ev a1=>⟨?_,ps,ys,R.ws.same s1,eg,fun vs H2 fy s2 n2 nd2 r2=> ?_⟩⟩
  ·obtain⟨y,xs,rfl,rfl,_⟩:=wY hh
   obtain⟨fd,rd⟩:=zh1 R.ws s1 e0 ev gp a1
   obtain⟨_,_,_,rfl,hl,hr,rfl⟩:=rd.lstT_inv
   exact .inl ⟨rfl,_,.inl (.inl hl)⟩
  ·obtain⟨d1,d1',fd,m1,m2,m3,m4,m5⟩:=uJ R (s1.trans s2) hb e0 ev em (a1.same s2)
   obtain⟨y,xs,rfl,rfl,hz,rfl,rfl⟩:=wY m2
   obtain⟨u,rfl,ru⟩:=r2.one_inv
   obtain⟨l,us,g1,rfl,hl,hr,rfl⟩:=m1.lstT_inv
   have ln:=hr.length
   refine⟨l,us,u,rfl,rfl,hl,by omega,?_⟩
   have nl:l∉fy:=fun z=>by have:=n2 l z;have:=s1.keep l;obtain⟨o,h1,h2,_⟩:=R.own (m4 l List.mem_cons_self);have:=s1.keep l o h1 h2;rw [n2 l z] at this;cases this
   obtain⟨nl2,nd3⟩:=List.nodup_cons.mp m3
   have up:∀a,a≠l->upd H2 l (.lst (us++[u])) a=H2 a:=fun a h=>bF h
   have tfk:∀a o,H2 a=some o->tf o=true->upd H2 l (.lst (us++[u])) a=some o:=fun a o h t=>by
    rw [up a]
    ·exact h
    ·rintro rfl;rw [hl] at h;cases h;cases t
   obtain⟨F',st,ow⟩:=m5 (upd H2 l (.lst (us++[u]))) (l::(g1++fy)) [] (fun a o h _ hn=>by rw [up a (fun z=>hn (z▸List.mem_cons_self))];exact h)
    (fun a h=>by
     by_cases z:a=l
     ·subst z;rw [cJ] at h;cases h
     ·rw [up a z] at h;exact h)
    (.lst cJ (Reps.append (hr.move tfk fun a ha=>up a fun z=>nl2 (z▸ha)) (Reps.one (ru.move tfk fun a ha=>up a fun z=>nl (z▸ha)))))
    (by
     rw [List.append_nil,List.nodup_cons,List.nodup_append]
     refine⟨fun z=>(List.mem_append.mp z).elim nl2 nl,nd3,nd2,fun a ha b hb e=> ?_⟩
     subst e
     obtain⟨o,h1,h2,_⟩:=R.own (m4 a (List.mem_cons_of_mem _ ha))
     have:=s1.keep a o h1 h2
     rw [n2 a hb] at this;cases this)
    (fun a ha=>by
     rw [List.append_nil] at ha
     rcases List.mem_cons.mp ha with z|z
     ·exact .inl (z▸List.mem_cons_self)
     ·rcases List.mem_append.mp z with z|z
      ·exact .inl (List.mem_cons_of_mem _ z)
      ·exact .inr (s1.grow a (n2 a z)))
   exact q .non _ F' [] st ow .non
end
section
variable{K:tz0}{κ:tz9}{H:Hp}{l:Addr}{o0 o:HO}
theorem yq5(hl:H l=some o0)(ht:tf o0=false):∀a u,H a=some u->tf u=true->upd H l o a=some u:=fun a u h t=>by
 rw [bF]
 ·exact h
 ·rintro rfl;rw [hl] at h;cases h;rw [ht] at t;cases t
theorem Rep.updL(r:Rep K κ H v d g)(hl:H l=some o0)(ht:tf o0=false)(n:l∉g):Rep K κ (upd H l o) v d g:=r.move (yq5 hl ht) fun a ha=>bF fun z=>n (z▸ha)
theorem Reps.updL(r:Reps K κ H v d g)(hl:H l=some o0)(ht:tf o0=false)(n:l∉g):Reps K κ (upd H l o) v d g:=r.move (yq5 hl ht) fun a ha=>bF fun z=>n (z▸ha)
theorem vB(h:H a=some u)(n:a∉l::g):upd H l o a=some u:=by
 rw [bF (fun z=>n (by rw [z];exact List.mem_cons_self))];exact h
theorem nY(h:upd H l o a=none):H a=none:=by
 by_cases z:a=l
 ·subst z;rw [cJ] at h;cases h
 ·rw [bF z] at h;exact h
theorem Reps.pop:∀{vs:List V} {ds:List D} {g:List Addr} {d:D},Reps K κ H vs ds g->ds[ds.length-1]? =some d->∃v g1 f,vs[vs.length-1]? =some v/\Rep K κ H v d f/\Reps K κ H vs.dropLast ds.dropLast g1/\g=g1++f
 |_,_,_,_,.nil,e=>by simp at e
 |_,[d1],_,d,.cons (f:=f) h .nil,e=>by
  have e':d1=d:=by simpa using e
  subst e'
  exact⟨_,[],f,by simp,h,.nil,by simp⟩
 |v::v2::vs,d1::d2::ds,_,d,.cons (f:=f) h (.cons (f:=f2) (g:=g2) h2 hs),e=>by
  obtain⟨w,g1,f',k1,k2,k3,k4⟩:=Reps.pop (.cons h2 hs) (d:=d) (by simpa using e)
  refine⟨w,f++g1,f',by simpa using k1,k2,?_,by rw [List.append_assoc,<-k4]⟩
  rw [List.dropLast_cons₂,List.dropLast_cons₂]
  exact .cons h k3
theorem Reps.setV:∀{vs:List V} {ds:List D} {g:List Addr} {n:Nat} {v':V} {d':D} {f':List Addr},Reps K κ H vs ds g->n<ds.length->Rep K κ H v' d' f'->∃f1 cE g',g.Perm (f1++cE)/\Reps K κ H (vs.set n v') (ds.set n d') g'/\g'.Perm (f'++cE)
 |_,_,_,_,_,_,_,.nil,e,_=>by simp at e
 |_,_,_,0,_,_,f',.cons (f:=f) (g:=g) h hs,_,r=>⟨f,g,f'++g,.refl _,.cons r hs,.refl _⟩
 | _,_,_,n+1,_,_,f',.cons (f:=f) (g:=g) h hs,e,r=>by
  obtain⟨f1,cE,g',h1,h2,h3⟩:=Reps.setV (n:=n) hs (by simpa using e) r
  refine⟨f1,f++cE,f++g',?_,.cons h h2,?_⟩
  ·refine(h1.append_left f).trans ?_
   rw [<-List.append_assoc,<-List.append_assoc]
   exact List.perm_append_comm.append_right cE
  ·refine(h3.append_left f).trans ?_
   rw [<-List.append_assoc,<-List.append_assoc]
   exact List.perm_append_comm.append_right cE
end
section
variable{X:Cx}{φ:F0}{κ:tz9}{K:tz0}{o e a b:Expr}{f fi fe:tz2}{g:tz3}{pf:PSt->Option (List Ps1)}{j:Nat}{pos apos:Pos}
def nF:List D->D->Option (D×D)
 |[],.lst true xs=>(xs[xs.length-1]?).bind fun y=>some (y,.lst true xs.dropLast)
 |_,_=>none
theorem zl1(h:nF ys d=some (r,d')):∃xs,ys=[]/\d= .lst true xs/\xs[xs.length-1]? =some r/\d'= .lst true xs.dropLast:=by
 unfold nF at h
 split at h
 ·obtain⟨y,h1,h2⟩:=bind_some h
  cases h2
  exact⟨_,rfl,rfl,h1,rfl⟩
 ·cases h
theorem xu0(hb:φ.bor j=false)(ho:PE X o (nE X.K κ j pf))
  (hbase:attributeBase o "pop" X.env (eval o X.env)=eval o X.env:=by rfl) (hline:(apos.endLine==pos.line)=true:=by rfl):QE X κ φ (.Call (.Attribute o "pop" apos) [] [] pos) (dI j pf aE nF):=
 (xs4 PySem.F.plainAttrs_list PySem.F.slot_list_pop PySem.F.type_list_pop xs5 ho hbase hline).imp fun σ H Q hh_=>by
  obtain⟨ps,F,d,ps',R,e,q⟩:=hh_
  obtain⟨d0,p,ys,d0',e0,ep,eg,em,rfl⟩:=wX e
  cases eg
  obtain⟨dd,dn,gp,hh⟩:=lY em
  refine⟨ps,p,d0,dd,R.ws,e0,ep,gp,fun v H1 v0 s1 ev a1=>⟨?_,?_⟩⟩
  ·obtain⟨xs,_,rfl,_⟩:=zl1 hh
   obtain⟨fd,rd⟩:=zh1 R.ws s1 e0 ev gp a1
   obtain⟨_,_,_,rfl,hl,hr,rfl⟩:=rd.lstT_inv
   exact .inl ⟨rfl,_,.inl (.inl hl)⟩
  ·obtain⟨d1,d1',fd,m1,m2,m3,m4,m5⟩:=uJ R s1 hb e0 ev em a1
   obtain⟨xs,_,rfl,hx,rfl⟩:=zl1 m2
   obtain⟨l,us,g1,rfl,hl,hr,rfl⟩:=m1.lstT_inv
   obtain⟨u,g2,f2,k1,k2,k3,rfl⟩:=hr.pop hx
   obtain⟨nl,nd3⟩:=List.nodup_cons.mp m3
   have n1:l∉g2:=fun z=>nl (List.mem_append_left _ z)
   have n2:l∉f2:=fun z=>nl (List.mem_append_right _ z)
   refine⟨l,us,u,rfl,rfl,hl,k1,?_⟩
   obtain⟨F',st,ow⟩:=m5 (upd H1 l (.lst us.dropLast)) (l::g2) f2 (fun a o h _ hn=>vB h hn)
    (fun a h=>nY h)
    (.lst cJ (k3.updL hl rfl n1)) (by rw [List.cons_append,List.nodup_cons];exact⟨nl,nd3⟩) (fun a ha=> .inl ha)
   exact q u _ F' f2 st ow (k2.updL hl rfl n2)
def yP:List D->D->Option (D×D)
 |[.lst true ys],.lst true xs=>if (D.imms ys=true/\xs.length+ys.length<=sizeLine) then some (.non,.lst true (xs++ys)) else none
 |_,_=>none
def ze8:List D->D->Option (D×D)
 |[],.lst true _=>some (.non,.lst true [])
 |_,_=>none
def rX:D->D->D->Option (Unit×D)
 | .int i,y,.lst true xs=>(ixN xs.length i).bind fun n=>some ((),.lst true (xs.set n y))
 |_,_,_=>none
def fL(j:Nat)(pf:PSt->Option (List Ps1))(fi fe:tz2):tz1:=fun ps=>(fe ps).bind fun y=>((ps[j]?).join).bind fun d0=>(pf ps).bind fun p=>(fi ps).bind fun i=>(eP (rX i y) d0 p).bind fun r=>some (.nx,ps.set j (some r.2))
theorem ya3(h:rX i y d=some (r,d')):∃k xs n,i= .int k/\d= .lst true xs/\ixN xs.length k=some n/\d'= .lst true (xs.set n y):=by
 unfold rX at h
 split at h
 ·obtain⟨n,h1,h2⟩:=bind_some h
  cases h2
  exact⟨_,_,n,rfl,rfl,h1,rfl⟩
 ·cases h
theorem rL(hb:φ.bor j=false)(he:PE X e (tP X.K κ fe))(ho:PE X o (nE X.K κ j pf))(hi:PE X i (tV X.K κ fi))(hs:swapsWithSole [.Subscript o i apos] e pos.line X.env=pure false:=by rfl)(hw:swappedStores [.Subscript o i apos] e X.env=pure none:=by rfl)
  (h1:(assignEach [.Subscript o i apos] X.env).map (·.2)=[assign (.Subscript o i apos) X.env]:=by rfl)
  (ha:∀v,assign (.Subscript o i apos) X.env v=(do
   let ov<-holding [v] (eval o X.env)
   let iv<-holding [v,ov] (eval i X.env)
   standAt apos
   holding [v,ov,iv] (setItem ov iv v)
   release [v,ov,iv] []):=by intro _;rfl):QS X κ φ (.Assign [.Subscript o i apos] e pos) (fL j pf fi fe):=
 (ym6 he (xq8 ho hi yy1 ha) hs hw h1).imp fun E σ H hh_=>by
  obtain⟨ps,F,fl,ps',R,e,q⟩:=hh_
  obtain⟨y,e1,e2⟩:=bind_some e
  obtain⟨d0,e3,e4⟩:=bind_some e2
  have e0:=join_some e3
  obtain⟨p,e5,e6⟩:=bind_some e4
  obtain⟨iv,e7,e8⟩:=bind_some e6
  obtain⟨⟨r,d0'⟩,em,e9⟩:=bind_some e8
  cases e9
  obtain⟨dd,dn,gp,hh⟩:=lY em
  refine⟨ps,y,R.ws,e1,fun v H1 fy s1 n1 nd1 ry=>⟨ps,p,d0,dd,R.ws.same s1,e0,e5,gp,fun lv H2 v0 s2 ev a2=>⟨ps,iv,(R.ws.same s1).same s2,e7,fun u H3 fu s3 r3=> ?_⟩⟩⟩
  have s13:=(s1.trans s2).trans s3
  obtain⟨d1,d1',fd,m1,m2,m3,m4,m5⟩:=uJ R s13 hb e0 ev em (a2.same s3)
  obtain⟨k,xs,n,rfl,rfl,hn,rfl⟩:=ya3 m2
  obtain⟨l,us,g1,rfl,hl,hr,rfl⟩:=m1.lstT_inv
  have ln:=hr.length
  have ry3:=(ry.same s2).same s3
  obtain⟨nl,nd3⟩:=List.nodup_cons.mp m3
  have own0:∀a∈l::g1,H a≠none:=fun a ha z=>by obtain⟨o,h,_⟩:=R.own (m4 a ha);rw [z] at h;cases h
  have nl2:l∉fy:=fun z=>own0 l List.mem_cons_self (n1 l z)
  obtain⟨f1,cE,g2,k1,k2,k3⟩:=hr.setV (n:=n) (yC hn).2.1 ry3
  have mem2:∀a∈g2,a∈fy\/a∈g1:=fun a ha=>(List.mem_append.mp (k3.mem_iff.mp ha)).elim .inl fun z=> .inr (k1.mem_iff.mpr (List.mem_append_right _ z))
  have n2:l∉g2:=fun z=>(mem2 l z).elim nl2 nl
  refine⟨l,us,k,n,rfl,r3.is_int,hl,by rw [ln];exact hn,?_⟩
  obtain⟨F',st,ow⟩:=m5 (upd H3 l (.lst (us.set n v))) (l::g2) [] (fun a o h _ hn=>vB h hn)
   (fun a h=>nY h)
   (.lst cJ (k2.updL hl rfl n2))
   (by
    rw [List.append_nil,List.nodup_cons]
    refine⟨n2,k3.nodup_iff.mpr (List.nodup_append.mpr ⟨nd1,?_,fun a ha b hb e=> ?_⟩)⟩
    ·exact(List.nodup_append.mp (k1.nodup_iff.mp nd3)).2.1
    ·subst e
     exact own0 a (List.mem_cons_of_mem _ (k1.mem_iff.mpr (List.mem_append_right _ hb))) (n1 a ha))
   (fun a ha=>by
    rw [List.append_nil] at ha
    rcases List.mem_cons.mp ha with z|z
    ·exact .inl (by rw [z];exact List.mem_cons_self)
    ·exact(mem2 a z).elim (fun z=> .inr (n1 a z)) fun z=> .inl (List.mem_cons_of_mem _ z))
  exact q _ _ F' st
end
section
variable{φ:Fx}{H H1:Hp}{σ σ1:St}{ps ps1:PSt}{F F1:Nat->List Addr}
theorem Stp.set'(s1:Stp φ σ H F σ1 H1 ps1 F1)(o:OwnV F H F1 fv)(R:RS φ H σ ps F)(r:Rep φ.K φ.κ H1 v d fv)(hb:φ.bor i=false\/fv=[])(hm:φ.M i=false):
  ∃F',Stp φ σ H F (σ1.set i (some v)) H1 (ps1.set i (some d)) F'/\∀k a,a∈F' k->a∈fv\/a∈F1 k:=by
 refine⟨_,⟨s1.fr,fun j a h=> ?_,s1.rs.set r hb (fun j _=>o.dis j) o.nd fun a ha=>R.notB (o.nw a ha),fun j h=> ?_⟩,fun k a h=> ?_⟩
 ·rcases jD h with z|z
  ·by_cases k:i<ps1.length
   ·rw [if_pos k] at z;exact o.nw a z
   ·rw [if_neg k] at z;exact absurd z (by simp)
  ·exact s1.nw j a z
 ·rw [List.getElem?_set_ne (fun z=>by subst z;rw [hm] at h;cases h)]
  exact s1.msk j h
 ·rcases jD h with z|z
  ·by_cases k:i<ps1.length
   ·rw [if_pos k] at z;exact .inl z
   ·rw [if_neg k] at z;exact absurd z (by simp)
  ·exact .inr z
def setN:St->List Nat->List V->St
 |σ,i::is,v::vs=>setN (σ.set i (some v)) is vs
 |σ,_,_=>σ
def nG:PSt->List Nat->List D->PSt
 |ps,i::is,d::ds=>nG (ps.set i (some d)) is ds
 |ps,_,_=>ps
def uT:List Nat->TGs
 |[]=>xw8
 |i::is=>xh5 (vQ i) (uT is)
theorem sL:∀{is:List Nat} {vs:List V} {σ:St},vs.length=is.length->Q (setN σ is vs) H->uT is vs σ H Q
 |[],[],σ,_,q=>⟨rfl,q⟩
 |i::is,v::vs,σ,h,q=>⟨v,vs,rfl,sL (is:=is) (by simpa using h) q⟩
 |[],_::_,_,h,_=>by simp at h
 |_::_,[],_,h,_=>by simp at h
theorem Stp.setN(R:RS φ H σ ps F):∀{is:List Nat} {vs:List V} {ds:List D} {g:List Addr} {σ1:St} {ps1:PSt} {F1:Nat->List Addr},Stp φ σ H F σ1 H1 ps1 F1->OwnV F H F1 g->Reps φ.K φ.κ H1 vs ds g->(∀i∈is,φ.bor i=false/\φ.M i=false)->
  ∃F',Stp φ σ H F (L2.setN σ1 is vs) H1 (nG ps1 is ds) F':=by
 intro is
 induction is with
 |nil=>intro vs ds g σ1 ps1 F1 s _ _ _;exact⟨F1,by simpa [L2.setN,nG] using s⟩
 | cons i is ih=>
  intro vs ds g σ1 ps1 F1 s o r hi
  cases ds with
  |nil=>cases r;exact⟨F1,by simpa [L2.setN,nG] using s⟩
  |cons d ds=>
   obtain⟨v,us,f,g',rfl,h,hs,rfl⟩:=r.split
   obtain⟨nd1,nd2,nd3⟩:=List.nodup_append.mp o.nd
   obtain⟨F2,s2,hF⟩:=s.set' (i:=i) (fv:=f) ⟨fun a ha=>o.nw a (List.mem_append_left _ ha),nd1,fun k a ha hf=>o.dis k a ha (List.mem_append_left _ hf)⟩ R h (.inl (hi i List.mem_cons_self).1) (hi i List.mem_cons_self).2
   refine ih s2 ⟨fun a ha=>o.nw a (List.mem_append_right _ ha),nd2,fun k a ha hg=> ?_⟩ hs fun k hk=>hi k (List.mem_cons_of_mem _ hk)
   rcases hF k a ha with z|z
   ·exact nd3 a z a hg rfl
   ·exact o.dis k a z (List.mem_append_right _ hg)
end
def vV:D->Option (List D)
 | .lst _ ds=>some ds
 | .tup ds=>some ds
 |_=>none
def mD(is:List Nat)(f:tz8):tz1:=fun ps=>(f ps).bind fun r=>(vV r.1).bind fun ds=>if ds.length=is.length then some (.nx,nG r.2 is ds) else none
section
variable{X:Cx}{κ:tz9}{φ:F0}{es:List Expr}{pos p:Pos}{k:Nat}{is:List Nat}{e:Expr}{f:tz8}
theorem yq6(hc:X.calm=true)(h:PGs X es t)
  (hn:(assignEach es X.env).length=n:=by rfl) (hst:(assignEach es X.env).findIdx? (·.1)=none:=by rfl):PG X (.Tuple es k pos) (fun v σ H Q=>xf0 X.K n t v σ H Q\/xe4 X.K n t v σ H Q):=⟨by
 intro pins s σ H v u Q I r hw
 rcases hw with hw|hw
 ·exact xt4 hc h hn hst pins s σ H v u Q I r hw
 ·exact xq7 hc h hn hst pins s σ H v u Q I r hw⟩
theorem zl2(hc:X.calm=true)(hg:PGs X es (uT is))(he:QE X κ φ e f)(hb:∀i∈is,φ.bor i=false/\φ.M i=false)(hn:(assignEach es X.env).length=is.length:=by rfl)(hst:(assignEach es X.env).findIdx? (·.1)=none:=by rfl)
  (hs:swapsWithSole [.Tuple es k p] e pos.line X.env=pure false:=by rfl) (hw:swappedStores [.Tuple es k p] e X.env=pure none:=by rfl)
  (h1:(assignEach [.Tuple es k p] X.env).map (·.2)=[assign (.Tuple es k p) X.env]:=by rfl):QS X κ φ (.Assign [.Tuple es k p] e pos) (mD is f):=
 (ym6 he (yq6 (n:=is.length) hc hg hn hst) hs hw h1).imp fun E σ H hh_=>by
  obtain⟨ps,F,fl,ps',R,e,q⟩:=hh_
  obtain⟨⟨d,ps1⟩,e1,e2⟩:=bind_some e
  obtain⟨ds,e3,e4⟩:=bind_some e2
  obtain⟨hl,e5⟩:=bV e4
  cases e5
  refine⟨ps,F,d,ps1,R,e1,fun v H' F' fv s o r=> ?_⟩
  cases d with
  |lst ow xs=>
   cases e3
   obtain⟨a,vs,g,rfl,h,hs,sub⟩:=r.lst_inv
   have ln:=hs.length
   obtain⟨F2,s2⟩:=Stp.setN R s ⟨fun a ha=>o.nw a (sub.subset ha),o.nd.sublist sub,fun k a ha hg=>o.dis k a ha (sub.subset hg)⟩ hs hb
   exact .inl ⟨a,vs,rfl,.inl h,by omega,sL (by omega) (q _ _ F2 s2)⟩
  |tup xs=>
   cases e3
   obtain⟨a,vs,rfl,h,hs⟩:=r.tup_inv
   have ln:=hs.length
   obtain⟨F2,s2⟩:=Stp.setN R s ⟨fun a ha=>absurd ha (by simp),List.nodup_nil,fun k a ha hg=>absurd hg (by simp)⟩ hs hb
   exact .inr ⟨a,vs,rfl,h,by omega,sL (by omega) (q _ _ F2 s2)⟩
  |_=>cases e3
end
def D.key:D->Option Key
 | .int i=>some (.inl i)
 | .str x=>some (.inr x)
 |_=>none
theorem yF{K:tz0}{κ:tz9}{H:Hp}{v:V}{d:D}{fp:List Addr}{k:Key}(r:Rep K κ H v d fp)(h:d.key=some k):v=kV k:=by
 cases r<;>first|(cases h;rfl)|cases h
def iR:List Key->List D->Key->Option D
 |k::ks,d::ds,j=>if k=j then some d else iR ks ds j
 |_,_,_=>none
def eQ:D->D->Option D
 | .dic _ ks ds,y=>y.key.bind fun k=>iR ks ds k
 |_,_=>none
theorem zN{K:tz0}{κ:tz9}{H:Hp}:∀{kvs:List (Key×V)} {ks:List Key} {ds:List D} {g:List Addr} {k:Key} {d:D},kvs.map (·.1)=ks->Reps K κ H (kvs.map (·.2)) ds g->iR ks ds k=some d->∃v f,jS kvs k=some v/\Rep K κ H v d f/\f.Sublist g
 |[],_,_,_,_,_,e,r,h=>by subst e;cases r;cases h
 | (k0,v0)::kvs,_,_,_,k,d,e,.cons (f:=f) (g:=g) h hs,q=>by
  subst e
  rw [List.map_cons,iR] at q
  by_cases z:k0=k
  ·rw [if_pos z] at q
   cases q
   exact⟨v0,f,rE z,h,List.sublist_append_left _ _⟩
  ·rw [if_neg z] at q
   obtain⟨v,f',q1,q2,q3⟩:=zN rfl hs q
   exact⟨v,f',by rw [rF z];exact q1,q2,q3.trans (List.sublist_append_right _ _)⟩
theorem Rep.dic_inv{K:tz0}{κ:tz9}{H:Hp}{v:V}{o:Bool}{ks:List Key}{ds:List D}{fp:List Addr}(r:Rep K κ H v (.dic o ks ds) fp):∃a kvs g,v= .ref a/\Rd H a (.dK kvs)/\kvs.map (·.1)=ks/\Reps K κ H (kvs.map (·.2)) ds g/\g.Sublist fp:=by
 cases r with
 |dic h e hs=>exact⟨_,_,_,rfl,.inl h,e,hs,List.sublist_cons_self _ _⟩
 |dicF h e hs=>exact⟨_,_,_,rfl,.inr ⟨_,h⟩,e,hs,.refl _⟩
section
variable{X:Cx}{κ:tz9}{a b:Expr}{fa fb:tz2}{pos:Pos}
theorem xl2{K:tz0}{H:Hp}{x y:V}{dx dy d:D}{fx fy:List Addr}{Q:VK}(r1:Rep K κ H x dx fx)(r2:Rep K κ H y dy fy)(e:eQ dx dy=some d)(q:∀v f,Rep K κ H v d f->f.Sublist fx->Q v H):∃a v,x= .ref a/\qB H a y (some v)/\Q v H:=by
 cases dx with
 |dic o ks ds=>
  obtain⟨k,e1,e2⟩:=bind_some e
  obtain⟨a,kvs,g,rfl,h,hk,hs,sub⟩:=r1.dic_inv
  obtain⟨v,f,q1,q2,q3⟩:=zN hk hs e2
  exact⟨a,v,rfl,.inl ⟨kvs,k,h,yF r2 e1,q1.symm⟩,q v f q2 (q3.trans sub)⟩
 |_=>cases e
theorem nZ(hu:X.A.units+1<cLine)(ha:QV X κ a fa)(hb:QV X κ b fb)(hs:xe9 b:=by exact fun _ _=>rfl):QV X κ (.Subscript a b pos) (f2 eQ fa fb):=
 (xk2 hu ha hb hs).imp fun σ H Q hh_=>by
  obtain⟨ps,d,w,e,q⟩:=hh_
  obtain⟨x,y,e1,e2,e3⟩:=uE e
  exact⟨ps,x,w,e1,fun v H1 fp s1 r1=>⟨ps,y,w.same s1,e2,fun u H2 fq s2 r2=>xl2 (r1.same s2) r2 e3 fun v f r _=>q v H2 f (s1.trans s2) r⟩⟩
end
def fxE(K:tz0)(κ:tz9)(np:Nat)(m:Nat->Bool):Fx:=⟨K,κ,fun i=>decide (i<np)&& !m i,m,fun _ _=>False⟩
def f0E(np:Nat)(m:Nat->Bool):F0:=⟨fun i=>decide (i<np)&& !m i,m,fun _ _=>False⟩
def SpE(np:Nat)(K:tz0)(κ:tz9)(m:Nat->Bool)(g:tz7):Sp:=fun vs H Q _=>vs.length=np/\∃ds r ds' F,ds.length=np/\RS (fxE K κ np m) H (vs.map some) (ds.map some) F/\g ds=some (r,ds')/\
 ∀v H' F' fv,Stp (fxE K κ np m) (vs.map some) H F (vs.map some) H' (ds'.map some) F'->OwnV F H F' fv->Rep K κ H' v r fv->Q v H'
def za4(m:Nat->Bool)(ps:PSt):Nat->List D->Option (List D)
 |_,[]=>some []
 |i,d::ds=>(if m i=true then(ps[i]?).join else some d).bind fun d'=>(za4 m ps (i+1) ds).bind fun ds'=>some (d'::ds')
theorem zl3:∀{ds ds':List D} {i:Nat},za4 m ps i ds=some ds'->ds'.length=ds.length/\∀(k:Nat) (d':D),ds'[k]? =some d'->(m (i+k)=true->ps[i+k]? =some (some d'))/\(m (i+k)=false->ds[k]? =some d')
 |[],_,_,e=>by cases e;exact⟨rfl,fun k d' h=>by simp at h⟩
 | d::ds,_,i,e=>by
  obtain⟨d1,e1,e2⟩:=bind_some e
  obtain⟨ds1,e3,e4⟩:=bind_some e2
  cases e4
  obtain⟨l,h⟩:=zl3 e3
  refine⟨by simp [l],fun k d' hk=> ?_⟩
  cases k with
  |zero=>
   simp at hk;subst hk
   refine⟨fun z=> ?_,fun z=> ?_⟩
   ·rw [Nat.add_zero] at z|-;rw [if_pos z] at e1;exact join_some e1
   ·rw [Nat.add_zero] at z;rw [if_neg (by rw [z];simp)] at e1;simpa using e1
  |succ k=>
   obtain⟨h1,h2⟩:=h k d' (by simpa using hk)
   have ea:i+(k+1)=i+1+k:=by omega
   rw [ea]
   exact⟨h1,fun z=>by simpa using h2 z⟩
def gE(np n:Nat)(m:Nat->Bool)(f:tz1):tz7:=fun ds=>if ds.length=np then(f (ds.map some++List.replicate n none)).bind fun r=>match r with
 |(.ret d,ps)=>(za4 m ps 0 ds).bind fun ds'=>some (d,ds')
 |(.nx,ps)=>(za4 m ps 0 ds).bind fun ds'=>some (.non,ds')
 |_=>none
 else none
theorem RS.more(R:RS φ H σ ps F)(hl:ps.length=σ.length)(h2:n<=σ2.length):RS φ H (σ++σ2) (ps++List.replicate n none) F:=by
 refine⟨fun i d h=> ?_,fun i a h=> ?_,R.dis,R.nd,R.nb,R.bt,by simp [hl];omega⟩
 ·by_cases hi:i<ps.length
  ·rw [List.getElem?_append_left hi] at h
   rw [List.getElem?_append_left (by omega)]
   exact R.rep i d h
  ·rw [List.getElem?_append_right (by omega),List.getElem?_replicate] at h
   split at h<;>cases h
 ·obtain⟨b,d,e⟩:=R.emp i a h
  have hi:=(List.getElem?_eq_some_iff.mp e).1
  exact⟨b,d,by rw [List.getElem?_append_left hi];exact e⟩
theorem zt1{K:tz0}{κ:tz9}{np n:Nat}{m:Nat->Bool}{H H':Hp}{vs:List V}{σ2 σ':St}{ds ds':List D}{ps':PSt}{F F':Nat->List Addr}{fv:List Addr}(hm:∀i,m i=true->i<np)(hl:vs.length=np)(hd:ds.length=np)(R:RS (fxE K κ np m) H (vs.map some) (ds.map some) F)
  (s:Stp (fxE K κ np m) (vs.map some++σ2) H F σ' H' ps' F') (o:OwnV F H F' fv) (e:za4 m ps' 0 ds=some ds'):
  ∃F2,Stp (fxE K κ np m) (vs.map some) H F (vs.map some) H' (ds'.map some) F2/\OwnV F H F2 fv:=by
 obtain⟨l,ho⟩:=zl3 e
 have sub:∀i a,a∈(if m i=true then F' i else [])->m i=true/\a∈F' i:=fun i a h=>by
  by_cases z:m i=true
  ·rw [if_pos z] at h;exact⟨z,h⟩
  ·rw [if_neg z] at h;exact absurd h (by simp)
 have tfk:∀a u,H a=some u->tf u=true->H' a=some u:=fun a u h t=>s.fr.keep a u h (lX t) fun i hi=>by
  obtain⟨u',h',_,t'⟩:=R.own hi
  rw [h] at h';cases h';rw [t] at t';cases t'
 have mb:∀i,m i=true->(fxE K κ np m).bor i=false:=fun i h=>by simp [fxE,h]
 refine⟨fun i=>if m i=true then F' i else [],⟨s.fr,fun i a h=>s.nw i a (sub i a h).2,⟨fun i d h=> ?_,fun i a h=> ?_,fun i j a h1 h2=>s.rs.dis i j a (sub i a h1).2 (sub j a h2).2,fun i=> ?_,fun i a h=>s.rs.nb i a (sub i a h).2,fun _ a h=>h.elim,by simp [l,hl,hd]⟩,fun _ _=>rfl⟩,⟨o.nw,o.nd,fun i a h=>o.dis i a (sub i a h).2⟩⟩
 ·rw [List.getElem?_map] at h
  cases q:ds'[i]? with
  |none=>rw [q] at h;cases h
  | some d1=>
   rw [q] at h;cases h
   obtain⟨h1,h2⟩:=ho i d q
   rw [Nat.zero_add] at h1 h2
   by_cases z:m i=true
   ·obtain⟨v,fp,k1,k2,k3,_⟩:=s.rs.rep i d (h1 z)
    refine⟨v,fp,?_,k2,fun _=>by rw [if_pos z];exact k3 (mb i z),fun w=>by rw [mb i z] at w;cases w⟩
    rw [<-k1]
    have:=s.msk i z
    rw [this,List.getElem?_append_left (by simp [hl];exact hm i z)]
   ·have zf:m i=false:=by simpa using z
    have hi:(ds.map some)[i]? =some (some d):=by rw [List.getElem?_map,h2 zf];rfl
    have hib:(fxE K κ np m).bor i=true:=by
     have:=(List.getElem?_eq_some_iff.mp (h2 zf)).1
     simp [fxE,zf];omega
    obtain⟨v,fp,k1,k2,_,k4⟩:=R.rep i d hi
    have efp:fp=[]:=by
     cases fp with
     |nil=>rfl
     |cons a r=>exact(k4 hib a List.mem_cons_self).elim
    subst efp
    exact⟨v,[],k1,k2.move tfk (fun a ha=>absurd ha (by simp)),(fun w=>by rw [hib] at w;cases w),(fun _ a ha=>absurd ha (by simp))⟩
 ·obtain⟨z,h⟩:=sub i a h
  refine⟨mb i z,?_⟩
  have hi:i<ds'.length:=by rw [l,hd];exact hm i z
  exact⟨ds'[i],by rw [List.getElem?_map,List.getElem?_eq_getElem hi];rfl⟩
 ·by_cases z:m i=true
  ·rw [if_pos z];exact s.rs.nd i
  ·rw [if_neg z];exact List.nodup_nil
section
variable{P:Program}{w:World}{K:tz0}{mg:tzA}{base:Heap}{κ:tz9}
theorem mW{x qual:Str}{st:Stmt}{f:Addr}{fd:FuncData}{N ps:List Str}{k:Nat}{fb:tz1}{m:Nat->Bool}(F:Fun K x qual st f fd)(S:FnScope N ps (aX st))(hm:∀i,m i=true->i<ps.length)
  (hbody:∀(cdv:Value) (A:Around) (outer:List Env) (s:Shared) (H:Hp) (E:XK),Room k (A.deeper (envOfC qual (aX st) s.heap.objs.size f cdv))->
   QSs (xO CX0 P w K mg base N qual (aX st) f cdv A outer s H E).nox κ (f0E ps.length m) (mO st) fb):
  FnOk P w K mg base CX0 (k+1) f fd ps (SpE ps.length K κ m (gE ps.length (N.length-ps.length) m fb)):=by
 refine F.ok S (fun vs H Q E h=>h.1) fun cdv A outer s H vs Q E hr ⟨hl,ds,r,ds',F0,hd,R,e,q⟩=>⟨_,hbody cdv A outer s H E hr,?_⟩
 have hn:ps.length<=N.length:=by have:=congrArg List.length S.pre;rw [List.length_take] at this;omega
 unfold gE at e
 obtain⟨_,e0⟩:=bV e
 obtain⟨⟨fl,ps'⟩,e1,e2⟩:=bind_some e0
 have R0:=R.more (σ2:=List.replicate (N.length-vs.length) none) (n:=N.length-ps.length) (by simp [hl,hd]) (by simp [hl])
 refine⟨_,F0,fl,ps',R0,e1,?_⟩
 cases fl with
 | ret d'=>
  obtain⟨ds1,e3,e4⟩:=bind_some e2
  cases e4
  exact fun v σ' H' F' fv s o rv=>by
   obtain⟨F2,s2,o2⟩:=zt1 (n:=0) hm hl hd R s o e3
   exact q v H' F2 fv s2 o2 rv
 | nx=>
  obtain⟨ds1,e3,e4⟩:=bind_some e2
  cases e4
  exact fun σ' H' F' s=>by
   obtain⟨F2,s2,o2⟩:=zt1 (n:=0) (fv:=[]) hm hl hd R s ⟨fun _ h=>absurd h (by simp),List.nodup_nil,fun _ _ _ h=>absurd h (by simp)⟩ e3
   exact q .non H' F2 [] s2 o2 .non
 |bk=>cases e2
 |ct=>cases e2
end
set_option genInjectivity true in
inductive Arg where
 |io (j:Nat)|im (f:tz2)
def cK:List Arg->tz3
 |[],_=>some []
 | .io j::as,ps=>((ps[j]?).join).bind fun d=>(cK as ps).bind fun ds=>some (d::ds)
 | .im f::as,ps=>(aQ f ps).bind fun d=>(cK as ps).bind fun ds=>some (d::ds)
def lD:List Arg->Nat->Bool
 | .io _::_,0=>true
 |_::as,i+1=>lD as i
 |_,_=>false
def slots:List Arg->List Nat
 |[]=>[]
 | .io j::as=>j::slots as
 | .im _::as=>slots as
def hU:PSt->List Arg->List D->PSt
 |ps,.io j::as,d::ds=>hU (ps.set j (some d)) as ds
 |ps,.im _::as,_::ds=>hU ps as ds
 |ps,_,_=>ps
inductive ArgsAt(K:tz0)(κ:tz9)(H:Hp)(σ:St)(ps:PSt):List Arg->List V->List D->Prop
 |nil:ArgsAt K κ H σ ps [] [] []
 |io {j:Nat} {as:List Arg} {v:V} {vs:List V} {d:D} {ds:List D}:σ[j]? =some (some v)->ps[j]? =some (some d)->ArgsAt K κ H σ ps as vs ds->ArgsAt K κ H σ ps (.io j::as) (v::vs) (d::ds)
 |im {f:tz2} {as:List Arg} {v:V} {vs:List V} {d:D} {ds:List D}:Rep K κ H v d []->ArgsAt K κ H σ ps as vs ds->ArgsAt K κ H σ ps (.im f::as) (v::vs) (d::ds)
theorem ArgsAt.same{K:tz0}{κ:tz9}{H H':Hp}{σ:St}{ps:PSt}(s:SameK H H'):∀{as:List Arg} {vs:List V} {ds:List D},ArgsAt K κ H σ ps as vs ds->ArgsAt K κ H' σ ps as vs ds
 |_,_,_,.nil=> .nil
 |_,_,_,.io h1 h2 h=> .io h1 h2 (ArgsAt.same s h)
 |_,_,_,.im r h=> .im (r.same s) (ArgsAt.same s h)
theorem ArgsAt.len{K:tz0}{κ:tz9}{H:Hp}{σ:St}{ps:PSt}:∀{as:List Arg} {vs:List V} {ds:List D},ArgsAt K κ H σ ps as vs ds->vs.length=as.length/\ds.length=as.length
 |_,_,_,.nil=>⟨rfl,rfl⟩
 |_,_,_,.io _ _ h=>by have:=h.len;simp [this]
 |_,_,_,.im _ h=>by have:=h.len;simp [this]
theorem ArgsAt.get{K:tz0}{κ:tz9}{H:Hp}{σ:St}{ps:PSt}:∀{as:List Arg} {vs:List V} {ds:List D} {i:Nat} {d:D},ArgsAt K κ H σ ps as vs ds->ds[i]? =some d->∃v,vs[i]? =some v/\((∃j,as[i]? =some (.io j)/\lD as i=true/\σ[j]? =some (some v)/\ps[j]? =some (some d))\/(lD as i=false/\Rep K κ H v d []))
 |_,_,_,_,_,.nil,e=>by simp at e
 |_,_,_,0,_,.io h1 h2 _,e=>by simp at e;subst e;exact⟨_,rfl,.inl ⟨_,rfl,rfl,h1,h2⟩⟩
 |_,_,_,0,_,.im r _,e=>by simp at e;subst e;exact⟨_,rfl,.inr ⟨rfl,r⟩⟩
 |_,_,_,i+1,_,.io _ _ h,e=>by
  obtain⟨v,h1,h2⟩:=ArgsAt.get (i:=i) h (by simpa using e)
  exact⟨v,by simpa using h1,by simpa [lD] using h2⟩
 |_,_,_,i+1,_,.im _ h,e=>by
  obtain⟨v,h1,h2⟩:=ArgsAt.get (i:=i) h (by simpa using e)
  exact⟨v,by simpa using h1,by simpa [lD] using h2⟩
theorem zh2:∀{as:List Arg} {i:Nat},lD as i=true->∃j,as[i]? =some (.io j)
 | .io j::_,0,_=>⟨j,rfl⟩
 | .im _::_,0,h=>by cases h
 | .io _::as,i+1,h=>by obtain⟨j,e⟩:=zh2 (as:=as) (i:=i) h;exact⟨j,by simpa using e⟩
 | .im _::as,i+1,h=>by obtain⟨j,e⟩:=zh2 (as:=as) (i:=i) h;exact⟨j,by simpa using e⟩
 |[],_,h=>by cases h
theorem oA:∀{as:List Arg} {i j:Nat},as[i]? =some (.io j)->lD as i=true
 | .io _::_,0,_,_=>rfl
 | .im _::_,0,_,h=>by simp at h
 | .io _::as,i+1,j,h=>oA (as:=as) (i:=i) (j:=j) (by simpa using h)
 | .im _::as,i+1,j,h=>oA (as:=as) (i:=i) (j:=j) (by simpa using h)
 |[],_,_,h=>by simp at h
theorem iI:∀{as:List Arg} {i j:Nat},as[i]? =some (.io j)->j∈slots as
 | .io _::_,0,_,h=>by simp at h;subst h;exact List.mem_cons_self
 | .im _::_,0,_,h=>by simp at h
 | .io _::as,i+1,j,h=>List.mem_cons_of_mem _ (iI (as:=as) (i:=i) (by simpa using h))
 | .im _::as,i+1,j,h=>iI (as:=as) (i:=i) (by simpa using h)
 |[],_,_,h=>by simp at h
theorem wZ:∀{as:List Arg} {i k j:Nat},(slots as).Nodup->as[i]? =some (.io j)->as[k]? =some (.io j)->i=k
 |[],_,_,_,_,h,_=>by simp at h
 |a::as,0,0,_,_,_,_=>rfl
 | .io j'::as,0,k+1,j,nd,h1,h2=>by
  simp at h1;subst h1
  exact absurd (iI (as:=as) (i:=k) (by simpa using h2)) (List.nodup_cons.mp nd).1
 | .im _::as,0,k+1,j,_,h1,_=>by simp at h1
 | .io j'::as,i+1,0,j,nd,h1,h2=>by
  simp at h2;subst h2
  exact absurd (iI (as:=as) (i:=i) (by simpa using h1)) (List.nodup_cons.mp nd).1
 | .im _::as,i+1,0,j,_,_,h2=>by simp at h2
 | .io j'::as,i+1,k+1,j,nd,h1,h2=>by rw [wZ (as:=as) (i:=i) (k:=k) (j:=j) (List.nodup_cons.mp nd).2 (by simpa using h1) (by simpa using h2)]
 | .im _::as,i+1,k+1,j,nd,h1,h2=>by rw [wZ (as:=as) (i:=i) (k:=k) (j:=j) nd (by simpa using h1) (by simpa using h2)]
def eW:List Arg->Nat->Option Nat
 |[],_=>none
 | .io i::as,j=>if i=j then some 0 else(eW as j).map (·+1)
 | .im _::as,j=>(eW as j).map (·+1)
theorem kU:∀{as:List Arg} {j i:Nat},eW as j=some i->as[i]? =some (.io j)
 |[],_,_,h=>by cases h
 | .io k::as,j,i,h=>by
  rw [eW] at h
  by_cases z:k=j
  ·rw [if_pos z] at h;cases h;rw [z];rfl
  ·rw [if_neg z] at h
   cases q:eW as j with
   |none=>rw [q] at h;cases h
   |some n=>rw [q] at h;cases h;simpa using kU q
 | .im _::as,j,i,h=>by
  rw [eW] at h
  cases q:eW as j with
  |none=>rw [q] at h;cases h
  |some n=>rw [q] at h;cases h;simpa using kU q
theorem jF:∀{as:List Arg} {j:Nat},eW as j=none->j∉slots as
 |[],_,_=>by simp [slots]
 | .io k::as,j,h=>by
  rw [eW] at h
  by_cases z:k=j
  ·rw [if_pos z] at h;cases h
  ·rw [if_neg z] at h
   have h':eW as j=none:=by
    cases q:eW as j with
    |none=>rfl
    |some n=>rw [q] at h;cases h
   exact fun hm=>(List.mem_cons.mp hm).elim (fun e=>z e.symm) (jF h')
 | .im _::as,j,h=>by
  rw [eW] at h
  have h':eW as j=none:=by
   cases q:eW as j with
   |none=>rfl
   |some n=>rw [q] at h;cases h
  exact fun hm=>jF (as:=as) h' hm
theorem vC:∀{as:List Arg} {ds:List D} {ps:PSt},(hU ps as ds).length=ps.length
 |[],_,_=>by simp [hU]
 | .io j::as,[],_=>by simp [hU]
 | .im _::as,[],_=>by simp [hU]
 | .io j::as,d::ds,ps=>by rw [hU,vC (as:=as)];simp
 | .im _::as,d::ds,ps=>by rw [hU,vC (as:=as)]
theorem mX:∀{as:List Arg} {ds:List D} {ps:PSt} {j:Nat},j∉slots as->(hU ps as ds)[j]? =ps[j]?
 |[],_,_,_,_=>by simp [hU]
 | .io _::_,[],_,_,_=>by simp [hU]
 | .im _::_,[],_,_,_=>by simp [hU]
 | .io k::as,d::ds,ps,j,h=>by
  rw [hU,mX (as:=as) (fun z=>h (List.mem_cons_of_mem _ z)),List.getElem?_set_ne (fun z=>h (by rw [<-z];exact List.mem_cons_self))]
 | .im _::as,d::ds,ps,j,h=>by rw [hU];exact mX (as:=as) h
theorem yG:∀{as:List Arg} {ds:List D} {ps:PSt} {i j:Nat} {d:D},(slots as).Nodup->as[i]? =some (.io j)->ds[i]? =some d->j<ps.length->(hU ps as ds)[j]? =some (some d)
 |[],_,_,_,_,_,_,h,_,_=>by simp at h
 |_::_,[],_,_,_,_,_,_,h,_=>by simp at h
 | .io k::as,d1::ds,ps,0,j,d,nd,h1,h2,h3=>by
  simp at h1 h2;subst h1;subst h2
  rw [hU,mX (List.nodup_cons.mp nd).1,List.getElem?_set_self h3]
 | .im _::as,d1::ds,ps,0,j,d,_,h1,_,_=>by simp at h1
 | .io k::as,d1::ds,ps,i+1,j,d,nd,h1,h2,h3=>by
  rw [hU];exact yG (List.nodup_cons.mp nd).2 (by simpa using h1) (by simpa using h2) (by simpa using h3)
 | .im _::as,d1::ds,ps,i+1,j,d,nd,h1,h2,h3=>by
  rw [hU];exact yG (as:=as) nd (by simpa using h1) (by simpa using h2) h3
def oG(as:List Arg)(F:Nat->List Addr):Nat->List Addr:=fun i=>match as[i]? with
 |some (.io j)=>F j
 |_=>[]
theorem yc7(e:as[i]? =some (.io j)):oG as F i=F j:=by unfold oG;rw [e]
theorem zt2(h:b∈oG as F i):∃j,as[i]? =some (.io j)/\b∈F j:=by
 unfold oG at h
 cases q:as[i]? with
 |none=>rw [q] at h;exact absurd h (by simp)
 |some x=>
  cases x with
  |io j=>rw [q] at h;exact⟨j,rfl,h⟩
  |im _=>rw [q] at h;exact absurd h (by simp)
theorem zh3(e:lD as i=false):oG as F i=[]:=by
 unfold oG
 cases q:as[i]? with
 |none=>rfl
 |some x=>cases x with
  |io j=>rw [oA q] at e;cases e
  |im _=>rfl
theorem yz6{φ:Fx}{H:Hp}{σ:St}{ps:PSt}{F:Nat->List Addr}{as:List Arg}{vs:List V}{ds:List D}(R:RS φ H σ ps F)(nd:(slots as).Nodup)(hb:∀j∈slots as,φ.bor j=false)(a:ArgsAt φ.K φ.κ H σ ps as vs ds):
  RS (fxE φ.K φ.κ as.length (lD as)) H (vs.map some) (ds.map some) (oG as F):=by
 obtain⟨lv,ld⟩:=a.len
 have memF:∀i b,b∈oG as F i->∃j,as[i]? =some (Arg.io j)/\b∈F j:=fun i b h=>zt2 h
 refine⟨fun i d h=> ?_,fun i b h=> ?_,fun i k b h1 h2=> ?_,fun i=> ?_,fun i b h k z=>z.elim,fun k b z=>z.elim,by simp [lv,ld]⟩
 ·rw [List.getElem?_map] at h
  cases q:ds[i]? with
  |none=>rw [q] at h;cases h
  | some d1=>
   rw [q] at h;cases h
   obtain⟨v,h1,h2⟩:=a.get q
   have hi:=(List.getElem?_eq_some_iff.mp q).1
   refine⟨v,oG as F i,by rw [List.getElem?_map,h1];rfl,?_,fun _=>rfl,fun z=> ?_⟩
   ·rcases h2 with ⟨j,e1,e2,e3,e4⟩|⟨e1,r⟩
    ·obtain⟨v',fp,k1,k2,k3,_⟩:=R.rep j d e4
     rw [e3] at k1;cases k1
     rw [yc7 e1]
     have:=k3 (hb j (iI e1))
     subst this
     exact k2
    ·rw [zh3 e1];exact r
   ·rcases h2 with ⟨j,e1,e2,_⟩|⟨e1,r⟩
    ·simp [fxE,e2] at z
    ·rw [zh3 e1];intro b hb;exact absurd hb (by simp)
 ·obtain⟨j,e,hj⟩:=memF i b h
  have hi:i<ds.length:=by rw [ld];exact(List.getElem?_eq_some_iff.mp e).1
  exact⟨by simp [fxE,oA e],ds[i],by rw [List.getElem?_map,List.getElem?_eq_getElem hi];rfl⟩
 ·obtain⟨j1,e1,m1⟩:=memF i b h1
  obtain⟨j2,e2,m2⟩:=memF k b h2
  have:=R.dis j1 j2 b m1 m2
  subst this
  exact wZ nd e1 e2
 ·cases z:lD as i with
  |true=>obtain⟨j,e⟩:=zh2 z;rw [yc7 e];exact R.nd j
  |false=>rw [zh3 z];exact List.nodup_nil
def sW(as:List Arg)(F Fc:Nat->List Addr):Nat->List Addr:=fun j=>match eW as j with
 |some i=>Fc i
 |none=>F j
theorem yq7(h:b∈sW as F Fc j):(∃i,eW as j=some i/\b∈Fc i)\/(eW as j=none/\b∈F j):=by
 unfold sW at h
 cases q:eW as j with
 |none=>rw [q] at h;exact .inr ⟨rfl,h⟩
 |some i=>rw [q] at h;exact .inl ⟨i,rfl,h⟩
theorem zb7(e:eW as j=some i):sW as F Fc j=Fc i:=by unfold sW;rw [e]
theorem zb8(e:eW as j=none):sW as F Fc j=F j:=by unfold sW;rw [e]
theorem xl3{φ:Fx}{H H1 H':Hp}{σ:St}{ps:PSt}{F Fc':Nat->List Addr}{as:List Arg}{vs:List V}{ds ds':List D}{fv:List Addr}(R:RS φ H σ ps F)(s1:SameK H H1)(nd:(slots as).Nodup)(hb:∀j∈slots as,φ.bor j=false)(a:ArgsAt φ.K φ.κ H1 σ ps as vs ds)(hl:ds'.length=as.length)
  (s:Stp (fxE φ.K φ.κ as.length (lD as)) (vs.map some) H1 (oG as F) (vs.map some) H' (ds'.map some) Fc') (o:OwnV (oG as F) H1 Fc' fv):
  ∃F',Stp φ σ H F σ H' (hU ps as ds') F'/\OwnV F H F' fv:=by
 have memF:∀i b,b∈oG as F i->∃j,as[i]? =some (Arg.io j)/\b∈F j:=fun i b h=>zt2 h
 have nwA:∀b,((∃i,b∈oG as F i)\/H1 b=none)->(∃j∈slots as,b∈F j)\/H b=none:=fun b h=>by
  rcases h with ⟨i,h⟩|h
  ·obtain⟨j,e,m⟩:=memF i b h
   exact .inl ⟨j,iI e,m⟩
  ·exact .inr (s1.grow b h)
 have isDisj:∀b,((∃i,b∈Fc' i)\/b∈fv)->∀j,j∉slots as->b∉F j:=fun b h j hj hm=>by
  have h':(∃j∈slots as,b∈F j)\/H b=none:=by
   rcases h with ⟨i,h⟩|h
   ·exact nwA b (s.nw i b h)
   ·exact nwA b (o.nw b h)
  rcases h' with ⟨k,hk,hm2⟩|z
  ·exact hj (R.dis j k b hm hm2▸hk)
  ·obtain⟨u,q,_⟩:=R.own hm;rw [z] at q;cases q
 have keepN:∀b u,H b=some u->kd u=true->(∀j∈slots as,b∉F j)->H' b=some u:=fun b u h k n=>s.fr.keep b u (s1.keep b u h k) k fun i hi=>by
  obtain⟨j,e,m⟩:=memF i b hi
  exact n j (iI e) m
 have tfk:∀b u,H b=some u->tf u=true->H' b=some u:=fun b u h t=>keepN b u h (lX t) fun j _ hm=>by
  obtain⟨u',h',_,t'⟩:=R.own hm
  rw [h] at h';cases h';rw [t] at t';cases t'
 have posmem:∀j b,b∈sW as F Fc' j->(∃i,eW as j=some i/\b∈Fc' i)\/(eW as j=none/\b∈F j):=fun j b h=>yq7 h
 refine⟨sW as F Fc',⟨⟨fun b u h k n=>keepN b u h k fun j _=>n j,fun b h=>s1.grow b (s.fr.grow b h)⟩,fun j b h=> ?_,⟨fun j d h=> ?_,fun j b h=> ?_,fun j k b h1 h2=> ?_,fun j=> ?_,fun j b h=> ?_,fun kk b hB z=>R.bt kk b hB (s1.grow b (s.fr.grow b z)),by rw [vC];exact R.len⟩,fun _ _=>rfl⟩,⟨fun b hb'=> ?_,o.nd,fun j b h hv=> ?_⟩⟩
 ·rcases posmem j b h with ⟨i,e,m⟩|⟨e,m⟩
  ·exact(nwA b (s.nw i b m)).elim (fun⟨k,_,hk⟩=> .inl ⟨k,hk⟩) .inr
  ·exact .inl ⟨j,m⟩
 ·cases q:eW as j with
  | some i=>
   have e:=kU q
   have hi:i<ds'.length:=by rw [hl];exact(List.getElem?_eq_some_iff.mp e).1
   have ei:ds'[i]? =some ds'[i]:=List.getElem?_eq_getElem hi
   have hj:j<ps.length:=by
    have:=(List.getElem?_eq_some_iff.mp h).1
    rwa [vC] at this
   rw [yG nd e ei hj] at h
   cases h
   obtain⟨v,fp,k1,k2,k3,_⟩:=s.rs.rep i ds'[i] (by rw [List.getElem?_map,ei];rfl)
   have hbi:(fxE φ.K φ.κ as.length (lD as)).bor i=false:=by simp [fxE,oA e]
   have k3:=k3 hbi
   subst k3
   have hvi:i<vs.length:=by rw [a.len.1];exact(List.getElem?_eq_some_iff.mp e).1
   have hdi:i<ds.length:=by rw [a.len.2];exact(List.getElem?_eq_some_iff.mp e).1
   obtain⟨v',g1,g2⟩:=a.get (List.getElem?_eq_getElem hdi)
   rw [List.getElem?_map,g1] at k1
   cases k1
   rcases g2 with ⟨j',e1,_,e3,_⟩|⟨e1,_⟩
   ·rw [e] at e1;cases e1
    exact⟨v,Fc' i,e3,k2,(fun _=>(zb7 q).symm),(fun z=>by rw [hb j (iI e)] at z;cases z)⟩
   ·rw [oA e] at e1;cases e1
  |none=>
   have hn:=jF q
   rw [mX hn] at h
   obtain⟨v,fp,k1,k2,k3,k4⟩:=R.rep j d h
   refine⟨v,fp,k1,k2.move tfk fun b hb'=> ?_,(fun z=>by rw [zb8 q];exact k3 z),k4⟩
   obtain⟨u,q1,q2,_⟩:=k2.own b hb'
   rw [q1]
   refine keepN b u q1 q2 fun k hk hm=> ?_
   cases z:φ.bor j with
   |true=>exact R.nb k b hm j (k4 z b hb')
   |false=>rw [k3 z] at hb';exact hn (R.dis j k b hb' hm▸hk)
 ·rcases posmem j b h with ⟨i,e,m⟩|⟨e,m⟩
  ·have e':=kU e
   refine⟨hb j (iI e'),?_⟩
   have hi:i<ds'.length:=by rw [hl];exact(List.getElem?_eq_some_iff.mp e').1
   have hdi:i<ds.length:=by rw [a.len.2];exact(List.getElem?_eq_some_iff.mp e').1
   obtain⟨v',g1,g2⟩:=a.get (List.getElem?_eq_getElem hdi)
   rcases g2 with ⟨j',e1,_,_,e4⟩|⟨e1,_⟩
   ·rw [e'] at e1;cases e1
    exact⟨_,yG nd e' (List.getElem?_eq_getElem hi) (List.getElem?_eq_some_iff.mp e4).1⟩
   ·rw [oA e'] at e1;cases e1
  ·obtain⟨b1,d,b2⟩:=R.emp j b m
   exact⟨b1,d,by rw [mX (jF e)];exact b2⟩
 ·rcases posmem j b h1 with ⟨i,e,m⟩|⟨e,m⟩
  ·rcases posmem k b h2 with ⟨i',e',m'⟩|⟨e',m'⟩
   ·have:=s.rs.dis i i' b m m'
    subst this
    have q1:=kU e
    have q2:=kU e'
    rw [q1] at q2
    cases q2;rfl
   ·exact absurd m' (isDisj b (.inl ⟨i,m⟩) k (jF e'))
  ·rcases posmem k b h2 with ⟨i',e',m'⟩|⟨e',m'⟩
   ·exact absurd m (isDisj b (.inl ⟨i',m'⟩) j (jF e))
   ·exact R.dis j k b m m'
 ·cases q:eW as j with
  |some i=>rw [zb7 q];exact s.rs.nd i
  |none=>rw [zb8 q];exact R.nd j
 ·rcases posmem j b h with ⟨i,e,m⟩|⟨e,m⟩
  ·exact R.notB ((nwA b (s.nw i b m)).elim (fun⟨k,_,hk⟩=> .inl ⟨k,hk⟩) .inr)
  ·exact R.nb j b m
 ·exact(nwA b (o.nw b hb')).elim (fun⟨k,_,hk⟩=> .inl ⟨k,hk⟩) .inr
 ·rcases posmem j b h with ⟨i,e,m⟩|⟨e,m⟩
  ·exact o.dis i b m hv
  ·exact isDisj b (.inr hv) j (jF e) m
def tIO(K:tz0)(κ:tz9)(as:List Arg):TA:=fun σ H Q=>∃ps ds,WS K κ H σ ps/\cK as ps=some ds/\∀vs H',SameK H H'->ArgsAt K κ H' σ ps as vs ds->Q vs H'
def fIO(as:List Arg)(g:tz7):tz8:=fun ps=>(cK as ps).bind fun ds=>(g ds).bind fun r=>if r.2.length=as.length then some (r.1,hU ps as r.2) else none
section
variable{X:Cx}{φ:F0}{κ:tz9}{e:Expr}{es:List Expr}{as:List Arg}{f:tz2}{pos p:Pos}
theorem dC:PA X [] (tIO X.K κ []):=mS.imp fun σ H Q ⟨ps,ds,w,e,q⟩=>by cases e;exact q [] H (.refl H) .nil
theorem iW(j:Nat){x:Str}(hr:PA X es (tIO X.K κ as))(hN:X.N[j]? =some x:=by rfl)(hv:Vis X.env.scope x:=by first|exact Or.inl rfl|exact Or.inr (Or.inl rfl)|exact Or.inr (Or.inr rfl))(hd:(x==("__debug__":Str))=false:=by decide)
  (hcd:(x==("__classdict__":Str))=false:=by decide) (hs:starEach (.Name x pos::es) X.env=(false,eval (.Name x pos) X.env)::starEach es X.env:=by rfl):PA X (.Name x pos::es) (tIO X.K κ (.io j::as)):=
 (fM (uB hN hv hd hcd) hr hs).imp fun σ H Q hh_=>by
  obtain⟨ps,ds,w,e,q⟩:=hh_
  obtain⟨d,e1,e2⟩:=bind_some e
  obtain⟨ds',e3,e4⟩:=bind_some e2
  cases e4
  have e0:=join_some e1
  obtain⟨v,fp,h1,h2⟩:=w j d e0
  exact⟨v,h1,ps,ds',w,e3,fun vs H1 s1 a1=>q (v::vs) H1 s1 (.io h1 e0 a1)⟩
theorem bK(ha:QV X κ e f)(hr:PA X es (tIO X.K κ as))(hs:starEach (e::es) X.env=(false,eval e X.env)::starEach es X.env:=by rfl):PA X (e::es) (tIO X.K κ (.im f::as)):=
 (fM ha.p hr hs).imp fun σ H Q hh_=>by
  obtain⟨ps,ds,w,e,q⟩:=hh_
  obtain⟨d,e1,e2⟩:=bind_some e
  obtain⟨ds',e3,e4⟩:=bind_some e2
  cases e4
  refine⟨ps,d,w,e1,fun v H1 fv s1 n1 nd1 r1=>⟨ps,ds',w.same s1,e3,fun vs H2 s2 a2=>q (v::vs) H2 (s1.trans s2) (.im ?_ a2)⟩⟩
  unfold aQ at e1
  obtain⟨d1,k1,k2⟩:=bind_some e1
  obtain⟨k3,k4⟩:=bV k2
  cases k4
  have:=r1.imm k3
  subst this
  exact r1.same s2
theorem kW{x:Str}{st:Stmt}{ps:List Str}{fa:Addr}{fd:FuncData}{k np:Nat}{m:Nat->Bool}{g:tz7}(Dd:Dn X.K X.mg x st ps fa fd)(G:FnOk X.prog X.w X.K X.mg X.base CX0 k fa fd ps (SpE np X.K κ m g))(hr:Room k X.A)(hg:Gl X x)(ha:PA X (e::es) (tIO X.K κ as))
  (hnp:np=as.length) (hm:m=lD as) (nd:(slots as).Nodup) (hb:∀j∈slots as,φ.bor j=false)
  (hdb:(x==("__debug__":Str))=false:=by decide) (he:starEach (e::es) X.env=(false,eval e X.env)::starEach es X.env:=by rfl) (hpl:(backTo pos (starEach es X.env)).any (·.1)=false:=by rfl):
  QE X κ φ (.Call (.Name x p) (e::es) [] pos) (fIO as g):=(yh3 Dd G hr hg ha hdb he hpl).imp fun σ H Q hh_=>by
 obtain⟨ps,F,d,ps',R,e,q⟩:=hh_
 obtain⟨ds,e1,e2⟩:=bind_some e
 obtain⟨⟨r,ds'⟩,e3,e4⟩:=bind_some e2
 obtain⟨hl,e5⟩:=bV e4
 cases e5
 subst hnp hm
 refine⟨ps,ds,R.ws,e1,fun vs H1 s1 a1=> ?_⟩
 show SpE _ X.K κ _ g (vs++[]) H1 Q E0
 rw [List.append_nil]
 refine⟨a1.len.1,ds,r,ds',_,a1.len.2,yz6 (R.same s1) nd hb a1,e3,fun v H' F' fv s o rv=> ?_⟩
 obtain⟨F2,s2,o2⟩:=xl3 R s1 nd hb a1 hl s o
 exact q v H' F2 fv s2 o2 rv
end
inductive AreD:List Expr->List D->Prop
 |nil:AreD [] []
 |int {i:Int} {j:Nat} {pos:Pos} {es:List Expr} {ds:List D}:AreD es ds->AreD (.Constant (.int i) j pos::es) (.int i::ds)
 |str {x:Str} {j:Nat} {pos:Pos} {es:List Expr} {ds:List D}:AreD es ds->AreD (.Constant (.str x) j pos::es) (.str x::ds)
def fKs(ds:List D):tz3:=fun _=>some ds
theorem qM(h:AreD es ds):QPA X κ es (fKs ds):=by
 have key:∃vs,AreC es vs/\∀K κ H,Reps K κ H vs ds []:=by
  induction h with
  |nil=>exact⟨[],.nil,fun _ _ _=> .nil⟩
  |int _ ih=>obtain⟨vs,h1,h2⟩:=ih;exact⟨_,.int h1,fun K κ H=> .cons (f:=[]) (g:=[]) (.int _) (h2 K κ H)⟩
  |str _ ih=>obtain⟨vs,h1,h2⟩:=ih;exact⟨_,.str h1,fun K κ H=> .cons (f:=[]) (g:=[]) (.str _) (h2 K κ H)⟩
 obtain⟨vs,h1,h2⟩:=key
 exact(yp4 h1).imp fun σ H Q ⟨ps,ds',w,e,q⟩=>by cases e;exact q vs H [] (.refl H) (fun _ h=>absurd h (by simp)) List.nodup_nil (h2 _ _ _)
def bQ(l:List Bool):Nat->Bool:=fun i=>(l[i]?).getD false
def yw4(as:List Arg):List Bool:=as.map fun a=>match a with
 | .io _=>true
 | .im _=>false
theorem eA:∀{as:List Arg} {l:List Bool},yw4 as=l->bQ l=lD as:=by
 intro as l h
 subst h
 funext i
 induction as generalizing i with
 |nil=>cases i<;>rfl
 | cons a as ih=>
  cases i with
  |zero=>cases a<;>rfl
  |succ i=>
   have e:lD (a::as) (i+1)=lD as i:=by cases a<;>rfl
   rw [e,<-ih i]
   simp [bQ,yw4]
theorem gX(h:bQ l i=true):i<l.length:=by
 unfold bQ at h
 cases q:l[i]? with
 |none=>rw [q] at h;cases h
 |some b=>exact(List.getElem?_eq_some_iff.mp q).1
section
variable{P:Program}{w:World}{K:tz0}{mg:tzA}{base:Heap}{κ:tz9}
theorem FnOk.noneP:FnOk P w K mg base CX0 k f fd ps (SpP ps.length K κ fun _=>none):=
 ⟨fun vs H Q E h=>h.1,fun A outer s H args us vs Q E _ _ _ _ ⟨_,ds,fp,d,_,e,_⟩=>by cases e⟩
theorem FnOk.noneE:FnOk P w K mg base CX0 k f fd ps (SpE ps.length K κ m fun _=>none):=
 ⟨fun vs H Q E h=>h.1,fun A outer s H args us vs Q E _ _ _ _ ⟨_,ds,r,ds',F,_,_,e,_⟩=>by cases e⟩
end
theorem xl4(h:vO k u=true):bZ (kV k) u:=by
 rcases eX h with ⟨i,t,rfl,rfl⟩|⟨x,t,rfl,rfl⟩
 ·exact⟨t,rfl⟩
 ·exact⟨t,rfl⟩
def yl2:Key->D
 | .inl i=> .int i
 | .inr x=> .str x
theorem yz7{K:tz0}{κ:tz9}{H:Hp}(k:Key):Rep K κ H (kV k) (yl2 k) []:=by
 cases k with
 |inl i=>exact .int i
 |inr x=>exact .str x
theorem zb9:∀ys:List (Str×Tok),bG (ys.map fun p=>V.str p.1) (ys.map fun p=>Value.str p.1 p.2)
 |[]=> .nil
 |y::ys=> .cons ⟨y.2,rfl⟩ (zb9 ys)
theorem zl4{K:tz0}{κ:tz9}{H:Hp}:∀ys:List (Str×Tok),Reps K κ H (ys.map fun p=>V.str p.1) (ys.map fun p=>D.str p.1) []
 |[]=> .nil
 |y::ys=> .cons (f:=[]) (g:=[]) (.str _) (zl4 ys)
theorem yz8{K:tz0}{κ:tz9}{a:Addr}{ys:List (Str×Tok)}{od:Option Addr}{n:Nat}{sl:Array (Option Value)}(h:K.lookup a=some ⟨.type "tuple",od,.seq (ys.map fun p=>Value.str p.1 p.2).toArray n,sl⟩)(hl:ys.length<=1000)(H:Hp):
  Rep K κ H (.ref a) (.tup (ys.map fun p=>D.str p.1)) []:=
 .tup (.inr ⟨_,_,n,h,rfl,rfl,by rw [List.size_toArray,List.length_map];exact zo9 hl,zb9 ys⟩) (zl4 ys)
section
variable{X:Cx}{pins:tzB}{σ:St}{H:Hp}{s:Shared}{a C dx:Addr}{fs:List (Str×V)}{f:Str}{v:V}{A:Around}{E:Value->Shared->Prop}
theorem yq8(hok:HOk P w H h)(e:Rd H a (.ins C dx fs)):∃mA,ObjM h a dx C mA/\(∀f,iQ (fs.lookup f) (mA f)):=by
 obtain⟨d,z,ne,ob,mA,n,r,q⟩:=(show dL P w H h a (.ins C dx fs) from e.ok hok)
 exact⟨mA,⟨ob,n,ne⟩,r⟩
theorem yh8(I:Inv X pins σ H s)(e:Rd H a (.ins C dx fs))(c:Cls X.K C)(n:cY X.K C f)(l:fs.lookup f=some v)
  (h:∀u s',Inv X pins σ H s'->bZ v u->Q u s'):wpAny (model X.prog X.w) A (getAttr (.ref a) f b) Q E s:=by
 obtain⟨mA,O,r⟩:=yq8 I.hok e
 obtain⟨u,hu,ru⟩:=iQ.some_of (v:=v) (o:=mA f) (by rw [<-l];exact r f)
 exact yb6 I.kIn O (c.get f) c.hd n hu (zj6 ru) (h u _ (I.tok _) ru)
theorem yh9(I:Inv X pins σ H s)(e:Rd H a (.ins C dx fs))(c:Cls X.K C)(k:Meth X.K C m g)(l:fs.lookup m=none)
  (h:Q (.ref g,[.ref a]) s):wpAny (model X.prog X.w) A (getMethod (.ref a) m pl) Q E s:=by
 obtain⟨mA,O,r⟩:=yq8 I.hok e
 have hn:mA m=none:=iQ.none_of (by rw [<-l];exact r m)
 exact zr7 I.kIn O (c.get m) k.at_ k.fn hn h
end
def wd4(K:tz0)(ta:TE)(f:Str):TE:=fun σ H Q=>ta σ H fun x H1=>∃a C dx fs v,x= .ref a/\Rd H1 a (.ins C dx fs)/\Cls K C/\cY K C f/\fs.lookup f=some v/\Q v H1
theorem xl5(he:PE X e ta)(hb:attributeBase e f X.env (eval e X.env)=eval e X.env):PE X (.Attribute e f pos) (wd4 X.K ta f):=⟨by
 intro pins s σ H Q I h
 refine yb7 hb (thn (he pins s σ H _ I h) fun u s1 ⟨x,H1,I1,rx,a,C,dx,fs,v,ex,ea,c,n,l,q⟩=> ?_)
 subst ex
 obtain rfl:u=Value.ref a:=rx
 exact yh8 I1 ea c n l fun w' s2 I2 rw'=>⟨v,H1,I2,rw',q⟩⟩
def zy3(C f:Str):D->Option D
 | .obj _ C' ns vs=>if C'=C then(cN ns f).bind fun n=>vs[n]? else none
 |_=>none
def cU(C f:Str)(fo:tz2):tz2:=fun ps=>(fo ps).bind (zy3 C f)
theorem Rep.obj_inv{K:tz0}{κ:tz9}{H:Hp}{v:V}{o:Bool}{C:Str}{ns:List Str}{ds:List D}{fp:List Addr}(r:Rep K κ H v (.obj o C ns ds) fp):∃a dx fs g,v= .ref a/\Rd H a (.ins (κ C) dx fs)/\fs.map (·.1)=ns/\Reps K κ H (fs.map (·.2)) ds g/\g.Sublist fp:=by
 cases r with
 |obj h e hs=>exact⟨_,_,_,_,rfl,.inl h,e,hs,List.sublist_cons_self _ _⟩
 |objF h e hs=>exact⟨_,_,_,_,rfl,.inr ⟨_,h⟩,e,hs,.refl _⟩
section
variable{X:Cx}{κ:tz9}{o e:Expr}{C fn:Str}{fo:tz2}{pos:Pos}
theorem dS(hc:Cls X.K (κ C))(hna:cY X.K (κ C) fn)(ho:QV X κ o fo)(hb:attributeBase o fn X.env (eval o X.env)=eval o X.env:=by rfl):QV X κ (.Attribute o fn pos) (cU C fn fo):=
 (xl5 ho hb).imp fun σ H Q hh_=>by
  obtain⟨ps,d,w,e,q⟩:=hh_
  obtain⟨x,e1,e2⟩:=bind_some e
  refine⟨ps,x,w,e1,fun v H1 fp s1 r1=> ?_⟩
  cases x with
  |obj ow C' ns ds=>
   have e2':(if C'=C then(cN ns fn).bind fun n=>ds[n]? else none)=some d:=e2
   by_cases hC:C'=C
   case neg=>rw [if_neg hC] at e2';cases e2'
   rw [if_pos hC] at e2'
   subst hC
   obtain⟨n,e4,e5⟩:=bind_some e2'
   obtain⟨a,dx,fs,g,rfl,h,hk,hs,sub⟩:=r1.obj_inv
   subst hk
   obtain⟨u,f1,k3,k4,_⟩:=hs.get e5
   exact⟨a,κ C',dx,fs,u,rfl,h,hc,hna,rK e4 k3,q u H1 f1 s1 k4⟩
  |_=>cases e2
end
theorem yc8:∀{fs:List (Str×V)} {f:Str} {n:Nat} (v:V),cN (fs.map (·.1)) f=some n->(fZ f v fs).map (·.1)=fs.map (·.1)/\(fZ f v fs).map (·.2)=(fs.map (·.2)).set n v
 |[],_,_,_,h=>by cases h
 | (g,x)::r,f,n,v,h=>by
  rw [List.map_cons,cN] at h
  by_cases z:g=f
  ·have z':(g,x).1=f:=z
   rw [if_pos z'] at h;cases h
   rw [fZ,if_pos z];exact⟨rfl,rfl⟩
  ·have z':¬(g,x).1=f:=z
   rw [if_neg z'] at h
   obtain⟨m,h1,h2⟩:=Option.map_eq_some_iff.mp h
   subst h2
   obtain⟨k1,k2⟩:=yc8 v h1
   rw [fZ,if_neg z]
   exact⟨by rw [List.map_cons,List.map_cons,k1],by rw [List.map_cons,List.map_cons,List.set_cons_succ,k2]⟩
theorem zt3:∀{fs:List (Str×V)} {f:Str} (v:V),cN (fs.map (·.1)) f=none->(fZ f v fs).map (·.1)=fs.map (·.1)++[f]/\(fZ f v fs).map (·.2)=fs.map (·.2)++[v]
 |[],_,_,_=>⟨rfl,rfl⟩
 | (g,x)::r,f,v,h=>by
  rw [List.map_cons,cN] at h
  by_cases z:g=f
  ·have z':(g,x).1=f:=z
   rw [if_pos z'] at h;cases h
  ·have z':¬(g,x).1=f:=z
   rw [if_neg z'] at h
   obtain⟨k1,k2⟩:=zt3 v (Option.map_eq_none_iff.mp h)
   rw [fZ,if_neg z]
   exact⟨by rw [List.map_cons,List.map_cons,k1];rfl,by rw [List.map_cons,List.map_cons,k2];rfl⟩
def uU(C f:Str)(y:D):D->Option (Unit×D)
 | .obj true C' ns vs=>if (C'=C/\ns.length<900) then(match cN ns f with
   |some n=>some ((),.obj true C' ns (vs.set n y))
   |none=>some ((),.obj true C' (ns++[f]) (vs++[y]))) else none
 |_=>none
theorem zt4(h:uU C f y d=some (r,d')):∃ns vs,d= .obj true C ns vs/\ns.length<900/\((∃n,cN ns f=some n/\d'= .obj true C ns (vs.set n y))\/(cN ns f=none/\d'= .obj true C (ns++[f]) (vs++[y]))):=by
 unfold uU at h
 split at h
 ·rename_i C' ns vs
  by_cases hh:C'=C/\ns.length<900
  ·rw [if_pos hh] at h
   obtain⟨hC,hl⟩:=hh
   subst hC
   cases q:cN ns f with
   |some n=>rw [q] at h;cases h;exact⟨ns,vs,rfl,hl,.inl ⟨n,q,rfl⟩⟩
   |none=>rw [q] at h;cases h;exact⟨ns,vs,rfl,hl,.inr ⟨q,rfl⟩⟩
  ·rw [if_neg hh] at h;cases h
 ·cases h
def mP(j:Nat)(pf:PSt->Option (List Ps1))(C f:Str)(fe:tz2):tz1:=fun ps=>(fe ps).bind fun y=>((ps[j]?).join).bind fun d0=>(pf ps).bind fun p=>(eP (uU C f y) d0 p).bind fun r=>some (.nx,ps.set j (some r.2))
theorem zt5:∀{ns:List Str} {f:Str} {n:Nat},cN ns f=some n->n<ns.length
 |[],_,_,h=>by cases h
 | m::ns,f,n,h=>by
  rw [cN] at h
  by_cases z:m=f
  ·rw [if_pos z] at h;cases h;simp
  ·rw [if_neg z] at h
   obtain⟨k,h1,h2⟩:=Option.map_eq_some_iff.mp h
   subst h2
   have:=zt5 h1
   simp;omega
section
variable{X:Cx}{κ:tz9}{φ:F0}{o e:Expr}{C fn:Str}{j:Nat}{pf:PSt->Option (List Ps1)}{fe:tz2}{pos pos':Pos}
theorem oY(hc:Cls X.K (κ C))(hna:cY X.K (κ C) fn)(hb:φ.bor j=false)(he:PE X e (tP X.K κ fe))(ho:PE X o (nE X.K κ j pf))(hs:swapsWith e (some (.Attribute o fn pos')) pos.line X.env=pure false:=by rfl):
  QS X κ φ (.Assign [.Attribute o fn pos'] e pos) (mP j pf C fn fe):=
 (xr5 ho he hs).imp fun E σ H hh_=>by
  obtain⟨ps,F,fl,ps',R,e,q⟩:=hh_
  obtain⟨y,e1,e2⟩:=bind_some e
  obtain⟨d0,e3,e4⟩:=bind_some e2
  have e0:=join_some e3
  obtain⟨p,e5,e6⟩:=bind_some e4
  obtain⟨⟨r,d0'⟩,em,e9⟩:=bind_some e6
  cases e9
  obtain⟨dd,dn,gp,hh⟩:=lY em
  refine⟨ps,y,R.ws,e1,fun v H1 fy s1 n1 nd1 ry=>⟨ps,p,d0,dd,R.ws.same s1,e0,e5,gp,fun lv H2 v0 s2 ev a2=> ?_⟩⟩
  have s12:=s1.trans s2
  obtain⟨d1,d1',fd,m1,m2,m3,m4,m5⟩:=uJ R s12 hb e0 ev em a2
  obtain⟨ns,vs,rfl,hlen,hd⟩:=zt4 m2
  obtain⟨l,dx,fs,g1,rfl,hl,hn,hr,rfl⟩:=m1.objT_inv
  subst hn
  have ry2:=ry.same s2
  obtain⟨nl,nd3⟩:=List.nodup_cons.mp m3
  have own0:∀a∈l::g1,H a≠none:=fun a ha z=>by obtain⟨o,h,_⟩:=R.own (m4 a ha);rw [z] at h;cases h
  have nl2:l∉fy:=fun z=>own0 l List.mem_cons_self (n1 l z)
  have hl9:fs.length<900:=by rw [List.length_map] at hlen;exact hlen
  refine⟨l,κ C,dx,fs,rfl,hl,hc,hna,by omega,?_⟩
  have go:∀(g2:List Addr),(∀a∈g2,a∈fy\/a∈g1)->g2.Nodup->Rep X.K κ (upd H2 l (.ins (κ C) dx (fZ fn v fs))) (.ref l) d1' (l::g2)->∃F',Stp (φ.fx X.K κ) σ H F σ (upd H2 l (.ins (κ C) dx (fZ fn v fs))) (ps.set j (some d0')) F':=fun g2 mem2 nd2 rp=>by
   have n2:l∉g2:=fun z=>(mem2 l z).elim nl2 nl
   obtain⟨F',st,ow⟩:=m5 (upd H2 l (.ins (κ C) dx (fZ fn v fs))) (l::g2) [] (fun a o h _ hn=>vB h hn) (fun a h=>nY h) rp
    (by rw [List.append_nil,List.nodup_cons];exact⟨n2,nd2⟩)
    (fun a ha=>by
     rw [List.append_nil] at ha
     rcases List.mem_cons.mp ha with z|z
     ·exact .inl (by rw [z];exact List.mem_cons_self)
     ·exact(mem2 a z).elim (fun z=> .inr (n1 a z)) fun z=> .inl (List.mem_cons_of_mem _ z))
   exact⟨F',st⟩
  rcases hd with ⟨n,hx,rfl⟩|⟨hx,rfl⟩
  ·obtain⟨k1,k2⟩:=yc8 v hx
   have hn':=zt5 hx
   obtain⟨f1,cE,g2,p1,p2,p3⟩:=hr.setV (n:=n) (by rw [<-hr.length,List.length_map];rw [List.length_map] at hn';exact hn') ry2
   have mem2:∀a∈g2,a∈fy\/a∈g1:=fun a ha=>(List.mem_append.mp (p3.mem_iff.mp ha)).elim .inl fun z=> .inr (p1.mem_iff.mpr (List.mem_append_right _ z))
   have n2:l∉g2:=fun z=>(mem2 l z).elim nl2 nl
   have nd2:g2.Nodup:=p3.nodup_iff.mpr (List.nodup_append.mpr ⟨nd1,(List.nodup_append.mp (p1.nodup_iff.mp nd3)).2.1,fun a ha b hb e=>by
    subst e
    exact own0 a (List.mem_cons_of_mem _ (p1.mem_iff.mpr (List.mem_append_right _ hb))) (n1 a ha)⟩)
   obtain⟨F',st⟩:=go g2 mem2 nd2 (.obj cJ k1 (by rw [k2];exact p2.updL hl rfl n2))
   exact q _ _ F' st
  ·obtain⟨k1,k2⟩:=zt3 v hx
   have mem2:∀a∈g1++fy,a∈fy\/a∈g1:=fun a ha=>(List.mem_append.mp ha).elim .inr .inl
   have n2:l∉g1++fy:=fun z=>(mem2 l z).elim nl2 nl
   have nd2:(g1++fy).Nodup:=List.nodup_append.mpr ⟨nd3,nd1,fun a ha b hb e=>by
    subst e
    exact own0 a (List.mem_cons_of_mem _ ha) (n1 a hb)⟩
   obtain⟨F',st⟩:=go (g1++fy) mem2 nd2 (.obj cJ k1 (by rw [k2];exact(Reps.append hr (Reps.one ry2)).updL hl rfl n2))
   exact q _ _ F' st
end
structure Mn(K:tz0)(κ:tz9)(C m qual:Str)(st:Stmt)(ps:List Str)(f:Addr)(fd:FuncData):Prop where
 F:Fun K m qual st f fd
 b:jX K fd ps []
 c:Cls K (κ C)
 h:Meth K (κ C) m f
def wd5(C m:Str)(fo:tz2):tz2:=fun ps=>(fo ps).bind fun d=>match d with
 | .obj true C' ns vs=>if (C'=C/\cN ns m=none) then some (.obj true C' ns vs) else none
 |_=>none
theorem tR:∀{fs:List (Str×V)} {m:Str},cN (fs.map (·.1)) m=none->fs.lookup m=none
 |[],_,_=>rfl
 | (g,x)::r,m,h=>by
  rw [List.map_cons,cN] at h
  by_cases z:g=m
  ·have z':(g,x).1=m:=z
   rw [if_pos z'] at h;cases h
  ·have z':¬(g,x).1=m:=z
   rw [if_neg z'] at h
   have ih:=tR (Option.map_eq_none_iff.mp h)
   rw [List.lookup_cons]
   have:(m==g)=false:=by
    rw [beq_eq_false_iff_ne];exact fun e=>z e.symm
   rw [this];exact ih
def nH:Nat->Bool:=fun i=>decide (i=0)
def sX(fd:List Addr):Nat->List Addr:=fun i=>if i=0 then fd else []
theorem kC(h:a∈sX fd i):i=0/\a∈fd:=by
 unfold sX at h
 by_cases z:i=0
 ·rw [if_pos z] at h;exact⟨z,h⟩
 ·rw [if_neg z] at h;exact absurd h (by simp)
theorem zc0{K:tz0}{κ:tz9}{H:Hp}{v:V}{vs:List V}{d:D}{ds:List D}{fd:List Addr}(r:Rep K κ H v d fd)(nd:fd.Nodup)(rs:Reps K κ H vs ds []):
  RS (fxE K κ (ds.length+1) nH) H ((v::vs).map some) ((d::ds).map some) (sX fd):=by
 refine⟨fun i x hx=> ?_,fun i a ha=> ?_,fun i j a h1 h2=> ?_,fun i=> ?_,fun i a _ k z=>z.elim,fun k a z=>z.elim,by simp [rs.length]⟩
 ·cases i with
  |zero=>
   simp at hx;subst hx
   exact⟨v,fd,rfl,r,fun _=>rfl,fun z=>by simp [fxE,nH] at z⟩
  | succ i=>
   rw [List.map_cons,List.getElem?_cons_succ,List.getElem?_map] at hx
   obtain⟨y,hy,e⟩:=Option.map_eq_some_iff.mp hx
   cases e
   obtain⟨u,f1,k1,k2,k3⟩:=rs.get hy
   have ef:f1=[]:=by
    cases f1 with
    |nil=>rfl
    |cons b l=>exact absurd (k3 b List.mem_cons_self) (by simp)
   subst ef
   exact⟨u,[],by rw [List.map_cons,List.getElem?_cons_succ,List.getElem?_map,k1];rfl,k2,(fun _=>by simp [sX]),fun _ a ha=>absurd ha (by simp)⟩
 ·obtain⟨e,h⟩:=kC ha
  subst e
  exact⟨by simp [fxE,nH],d,rfl⟩
 ·rw [(kC h1).1,(kC h2).1]
 ·unfold sX;split
  ·exact nd
  ·exact List.nodup_nil
def zq0:List Arg->Bool
 |[]=>true
 | .im _::as=>zq0 as
 | .io _::_=>false
theorem ArgsAt.reps{K:tz0}{κ:tz9}{H:Hp}{σ:St}{ps:PSt}:∀{as:List Arg} {vs:List V} {ds:List D},ArgsAt K κ H σ ps as vs ds->zq0 as=true->Reps K κ H vs ds []
 |_,_,_,.nil,_=> .nil
 |_,_,_,.io _ _ _,h=>by cases h
 |_,_,_,.im r a,h=> .cons (f:=[]) (g:=[]) r (ArgsAt.reps a h)
def iK(C m:Str)(g:tz7)(ys:List D)(d:D):Option (D×D):=match d with
 | .obj true C' ns vs=>if (C'=C/\cN ns m=none) then(g (.obj true C' ns vs::ys)).bind fun r=>match r.2 with
   |d'::ds=>if ds.length=ys.length then some (r.1,d') else none
   |[]=>none
  else none
 |_=>none
theorem zc1(h:iK C m g ys d=some (r,d')):∃ns vs ds,d= .obj true C ns vs/\cN ns m=none/\g (d::ys)=some (r,d'::ds)/\ds.length=ys.length:=by
 unfold iK at h
 split at h
 ·rename_i C' ns vs
  by_cases hc:C'=C/\cN ns m=none
  ·rw [if_pos hc] at h
   obtain⟨hC,hn⟩:=hc
   subst hC
   obtain⟨⟨r1,ds⟩,e1,e2⟩:=bind_some h
   cases ds with
   |nil=>cases e2
   |cons d1 ds=>
    obtain⟨hl,e3⟩:=bV e2
    cases e3
    exact⟨ns,vs,ds,rfl,hn,e1,hl⟩
  ·rw [if_neg hc] at h;cases h
 ·cases h
section
variable{X:Cx}{κ:tz9}{φ:F0}{o e:Expr}{es:List Expr}{C m qual:Str}{st:Stmt}{ps:List Str}{f:Addr}{fd:FuncData}{k np j:Nat}{mk:Nat->Bool}{g:tz7}{pf:PSt->Option (List Ps1)}{as:List Arg}{apos pos p:Pos}{pl:Sem Bool}
theorem yz9{σ:St}{H H1:Hp}{Q:VK}{ps:PSt}{F:Nat->List Addr}{d0 d0' r:D}{pp:List Ps1}{v0 v:V}{ys:List D}{us:List V}(R:RS (φ.fx X.K κ) H σ ps F)(s1:SameK H H1)(hb:φ.bor j=false)(e0:ps[j]? =some (some d0))(ev:σ[j]? =some (some v0))
  (em:eP (iK C m g ys) d0 pp=some (r,d0')) (at_:At H1 v0 pp v) (ry:Reps X.K κ H1 us ys []) (hnp:np=ys.length+1) (hm:mk=nH)
  (q:∀v H' F' fv,Stp (φ.fx X.K κ) σ H F σ H' (ps.set j (some d0')) F'->OwnV F H F' fv->Rep X.K κ H' v r fv->Q v H'):SpE np X.K κ mk g (v::us) H1 Q E0:=by
 subst hnp hm
 obtain⟨d1,d1',fd,m1,m2,m3,m4,m5⟩:=uJ R s1 hb e0 ev em at_
 obtain⟨ns,vs,ds,rfl,hn,eg,hl⟩:=zc1 m2
 refine⟨by rw [List.length_cons,ry.length],_,r,d1'::ds,sX fd,by simp,zc0 m1 m3 ry,eg,fun u H' F' fv s o rv=> ?_⟩
 obtain⟨v2,fp2,k1,k2,k3,_⟩:=s.rs.rep 0 d1' rfl
 have ek:v2=v:=by
  have:(List.map some (v::us))[0]? =some (some v2):=k1
  simp at this;exact this.symm
 subst ek
 have k3':=k3 (by simp [fxE,nH])
 subst k3'
 have old:∀a,((∃i,a∈sX fd i)\/H1 a=none)->a∈fd\/H a=none:=fun a h=>h.elim (fun⟨i,hi⟩=> .inl (kC hi).2) fun z=> .inr (s1.grow a z)
 obtain⟨F2,st2,ow2⟩:=m5 H' (F' 0) fv (fun a o h k hn=>s.fr.keep a o h k fun i hi=>hn (kC hi).2) (fun a h=>s.fr.grow a h) k2
  (List.nodup_append.mpr ⟨s.rs.nd 0,o.nd,fun a ha b hb e=>by subst e;exact o.dis 0 a ha hb⟩)
  (fun a ha=>(List.mem_append.mp ha).elim (fun z=>old a (s.nw 0 a z)) fun z=>old a (o.nw a z))
 exact q u H' F2 fv st2 ow2 rv
theorem xa0{σ:St}{H H1:Hp}{ps:PSt}{F:Nat->List Addr}{d0 d0' r:D}{pp:List Ps1}{v0 v:V}{ys:List D}(R:RS (φ.fx X.K κ) H σ ps F)(s1:SameK H H1)(e0:ps[j]? =some (some d0))(ev:σ[j]? =some (some v0))
  (em:eP (iK C m g ys) d0 pp=some (r,d0')) (at_:At H1 v0 pp v):∃a dx fs,v= .ref a/\H1 a=some (.ins (κ C) dx fs)/\fs.lookup m=none:=by
 obtain⟨dd,dn,gp,hh⟩:=lY em
 obtain⟨ns,vs,ds,rfl,hn,_⟩:=zc1 hh
 obtain⟨fd,rd⟩:=zh1 R.ws s1 e0 ev gp at_
 obtain⟨_,_,_,_,rfl,hl,hk,hs,rfl⟩:=rd.objT_inv
 subst hk;exact⟨_,_,_,rfl,hl,tR hn⟩
theorem uK(M:Mn X.K κ C m qual st ps f fd)(G:FnOk X.prog X.w X.K X.mg X.base CX0 k f fd ps (SpE np X.K κ mk g))(hr:Room k X.A)(hb:φ.bor j=false)(ho:PE X o (nE X.K κ j pf))(ha:PA X (e::es) (tIO X.K κ as))(has:zq0 as=true)(hnp:np=as.length+1)(hm:mk=nH)
  (hst:starEach (e::es) X.env=(false,eval e X.env)::starEach es X.env:=by rfl) (hpl:(backTo pos (starEach es X.env)).any (·.1)=false:=by rfl)
  (ht:eval (.Call (.Attribute o m apos) (e::es) [] pos) X.env=(do
   let ov<-eval o X.env
   standAt apos.atName
   let (f,first)<-holding [ov] (getMethod ov m pl)
   callWith pos f first (backTo pos (starEach (e::es) X.env)) (backToKw pos (keywordEach [] X.env))):=by rfl):
  QE X κ φ (.Call (.Attribute o m apos) (e::es) [] pos) (dI j pf (cK as) (iK C m g)):=(xj2 ho M.c M.h G hr M.b .nil zb4 ha hst hpl ht).imp fun σ H Q hh_=>by
 obtain⟨ps,F,d,ps',R,e,q⟩:=hh_
 obtain⟨d0,pp,ys,d0',e0,ep,eg,em,rfl⟩:=wX e
 obtain⟨dd,dn,gp,hh⟩:=lY em
 refine⟨ps,pp,d0,dd,R.ws,e0,ep,gp,fun v H1 v0 s1 ev a1=> ?_⟩
 obtain⟨a,dx,fs,rfl,hl,hn⟩:=xa0 R s1 e0 ev em a1
 refine⟨a,dx,fs,rfl,hl,hn,ps,ys,R.ws.same s1,eg,fun us H2 s2 a2=> ?_⟩
 show SpE np X.K κ mk g (_::(us++[])) H2 Q E0
 rw [List.append_nil]
 exact yz9 R (s1.trans s2) hb e0 ev em (a1.same s2) (a2.reps has) (by rw [hnp,a2.len.2]) hm q
end
structure Kn(K:tz0)(mg:tzA)(κ:tz9)(C qual:Str)(st:Stmt)(ps:List Str)(f:Addr)(fd:FuncData):Prop where
 F:Fun K "__init__" qual st f fd
 b:jX K fd ps []
 M:Mk K (κ C) f
 m:mg C=some (.ref (κ C))
def eT(C:Str)(ga:tz3)(g:tz7):tz2:=fun ps=>(ga ps).bind fun ys=>(g (.obj true C [] []::ys)).bind fun r=>match r with
 |(.non,d'::_)=>some d'
 |_=>none
theorem yi0(h:eT C ga g ps=some d):∃ys ds,ga ps=some ys/\g (.obj true C [] []::ys)=some (.non,d::ds):=by
 obtain⟨ys,e1,e2⟩:=bind_some h
 obtain⟨⟨r,ds⟩,e3,e4⟩:=bind_some e2
 cases r with
 |non=>cases ds with
  |nil=>cases e4
  |cons d1 ds=>cases e4;exact⟨ys,ds,e1,e3⟩
 |_=>cases e4
section
variable{X:Cx}{κ:tz9}{e:Expr}{es:List Expr}{C qual:Str}{st:Stmt}{ps:List Str}{f:Addr}{fd:FuncData}{k np:Nat}{mk:Nat->Bool}{g:tz7}{as:List Arg}{pos p:Pos}
theorem xl6{H H1:Hp}{Q:VK}{d:D}{ys ds:List D}{us:List V}{x dx:Addr}(s1:SameK H H1)(hx:H1 x=none)(hdx:H1 dx=none)(hne:dx≠x)(ry:Reps X.K κ H1 us ys [])(hnp:np=ys.length+1)(hm:mk=nH)(eg:g (.obj true C [] []::ys)=some (.non,d::ds))(q:jT X.K κ H d Q):
  SpE np X.K κ mk g (.ref x::us) (upd (upd H1 dx (.own x)) x (.ins (κ C) dx [])) (fun v H2=>v= .non/\Q (.ref x) H2) E0:=by
 subst hnp hm
 have ne:∀a o,H1 a=some o->a≠x/\a≠dx:=fun a o h=>⟨fun z=>(by rw [z,hx] at h;cases h),fun z=>(by rw [z,hdx] at h;cases h)⟩
 have up:∀a o,H1 a=some o->upd (upd H1 dx (.own x)) x (.ins (κ C) dx []) a=some o:=fun a o h=>by rw [bF (ne a o h).1,bF (ne a o h).2];exact h
 have gr:∀a,upd (upd H1 dx (.own x)) x (.ins (κ C) dx []) a=none->H1 a=none:=fun a h=>by
  by_cases z:a=x
  ·rw [z];exact hx
  ·rw [bF z] at h
   by_cases z2:a=dx
   ·rw [z2];exact hdx
   ·rwa [bF z2] at h
 have s2:SameK H1 (upd (upd H1 dx (.own x)) x (.ins (κ C) dx [])):=⟨fun a o h _=>up a o h,gr⟩
 have r0:Rep X.K κ (upd (upd H1 dx (.own x)) x (.ins (κ C) dx [])) (.ref x) (.obj true C [] []) [x]:= .obj (fs:=[]) cJ rfl .nil
 have ry2:Reps X.K κ (upd (upd H1 dx (.own x)) x (.ins (κ C) dx [])) us ys []:=ry.move (fun a o h _=>up a o h) fun a ha=>absurd ha (by simp)
 refine⟨by rw [List.length_cons,ry.length],_,.non,d::ds,sX [x],by simp,zc0 r0 (by simp) ry2,eg,fun u H' F' fv s o rv=>⟨by cases rv;rfl,?_⟩⟩
 obtain⟨v2,fp2,k1,k2,k3,_⟩:=s.rs.rep 0 d rfl
 have ek:v2= .ref x:=by
  have:(List.map some (V.ref x::us))[0]? =some (some v2):=k1
  simp at this;exact this.symm
 subst ek
 have k3':=k3 (by simp [fxE,nH])
 subst k3'
 refine q (.ref x) H' (F' 0) ⟨fun a o h hk=> ?_,fun a h=>s1.grow a (gr a (s.fr.grow a h))⟩ (fun a ha=> ?_) (s.rs.nd 0) k2
 ·have h1:=s1.keep a o h hk
  refine s.fr.keep a o (up a o h1) hk fun i hi=> ?_
  have:=(kC hi).2
  simp at this
  exact(ne a o h1).1 this
 ·rcases s.nw 0 a ha with ⟨i,hi⟩|z
  ·have:=(kC hi).2
   simp at this
   subst this
   exact s1.grow a hx
  ·exact s1.grow a (gr a z)
theorem mH(Kd:Kn X.K X.mg κ C qual st ps f fd)(G:FnOk X.prog X.w X.K X.mg X.base CX0 k f fd ps (SpE np X.K κ mk g))(hr:Room (k+1) X.A)(hg:Gl X C)(ha:PA X (e::es) (tIO X.K κ as))(has:zq0 as=true)(hnp:np=as.length+1)(hm:mk=nH)
  (hdb:(C==("__debug__":Str))=false:=by decide) (he:starEach (e::es) X.env=(false,eval e X.env)::starEach es X.env:=by rfl) (hpl:(backTo pos (starEach es X.env)).any (·.1)=false:=by rfl):
  QP X κ (.Call (.Name C p) (e::es) [] pos) (eT C (cK as) g):=(xj3 Kd.M G hr hg Kd.m Kd.b .nil zb4 ha hdb he hpl).imp fun σ H Q hh_=>by
 obtain⟨ps,d,w,e,q⟩:=hh_
 obtain⟨ys,ds,e1,e2⟩:=yi0 e
 refine⟨ps,ys,w,e1,fun us H1 s1 a1 x dx hx hdx hne=> ?_⟩
 show SpE np X.K κ mk g (_::(us++[])) _ _ E0
 rw [List.append_nil]
 exact xl6 s1 hx hdx hne (a1.reps has) (by rw [hnp,a1.len.2]) hm e2 q
end
section
variable{X:Cx}{κ:tz9}
theorem yq9:MtR X "str.startswith" (fun x xs H Q=>∃z y,x= .str z/\xs=[.str y]/\Q (.bl (Txt.startswith z y)) H):=⟨by
 intro pins s σ H x xs v us Q I rx r h
 obtain⟨z,y,rfl,rfl,q⟩:=h
 obtain⟨t,rfl⟩:=rx
 obtain⟨u,rfl,t',rfl⟩:=lK r
 exact SC.startswith ⟨.bl _,H,I.tok _,rfl,q⟩⟩
def oP:D->tz6
 | .str z,[.str y]=>some (.bl (Txt.startswith z y))
 |_,_=>none
theorem zt6:MtR X "str.startswith" (PMt X.K κ oP):=⟨by
 rintro pins s σ H x vs v us Q I rx r ⟨dx,ds,fx,fp,d,r1,rs,e,q⟩
 unfold oP at e
 split at e
 ·cases e
  obtain⟨w,rfl,r2⟩:=rs.one_inv
  exact yq9 pins s σ H x _ v us Q I rx r ⟨_,_,r1.is_str,by rw [r2.is_str],q.now (.bl _)⟩
 ·cases e⟩
end
theorem eB(n:Nat):bQ (true::List.replicate n false)=nH:=by
 funext i
 unfold bQ nH
 cases i with
 |zero=>rfl
 |succ i=>
  rw [List.getElem?_cons_succ,List.getElem?_replicate]
  split<;>simp
def kap:List (Str×Addr)->tz9
 |[],_=>mainGlobals
 |(x,a)::r,y=>if x=y then a else kap r y
section
variable{X:Cx}{pins:tzB}{σ:St}{H:Hp}{s:Shared}{a C dx:Addr}{fs:List (Str×V)}
theorem Inv.freeze(I:Inv X pins σ H s)(h:H a=some (.ins C dx fs)):Inv X pins σ (upd H a (.frz (PySem.W.instObj C dx) (.ins C dx fs))) s:=by
 have ne:∀b,H b=none->b≠a:=fun b hb z=>by rw [z,h] at hb;cases hb
 have nt:∀b o,H b=some o->(∀C' dx' fs',o≠ .ins C' dx' fs')->b≠a:=fun b o hb ho z=>by
  rw [z,h] at hb
  cases hb
  exact ho _ _ _ rfl
 refine⟨I.ok,I.os,I.bare,⟨I.base.keep,I.base.slot,fun b o h1 h2 h3=> ?_,I.base.there,fun b xs h1=> ?_,fun b o u h1=> ?_,fun b ps h1=> ?_⟩,I.loc,I.cell,?_,fun x c e=> ?_,fun p hp=> ?_,fun b o e=> ?_,I.len⟩
 ·have:=I.base.free b o h1 h2 h3
  rw [bF (ne b this)];exact this
 ·have:=I.base.tups b xs h1
  rw [bF (nt b _ this fun _ _ _ z=>by cases z)];exact this
 ·have:=I.base.frzs b o u h1
  rw [bF (nt b _ this fun _ _ _ z=>by cases z)];exact this
 ·obtain⟨more,this⟩:=I.base.tbls b ps h1
  exact⟨more,by rw [bF (nt b _ this fun _ _ _ z=>by cases z)];exact this⟩
 ·rw [bF (ne _ I.free)];exact I.free
 ·have:=I.freeC x c e
  rw [bF (ne _ this)];exact this
 ·obtain⟨p1,p2,p3⟩:=I.pin p hp
  exact⟨p1,by rw [bF (ne _ p2)];exact p2,p3⟩
 ·have st:∀{b o},dL X.prog X.w H s.heap b o->dL X.prog X.w (upd H a (.frz (PySem.W.instObj C dx) (.ins C dx fs))) s.heap b o:=fun x=>
   x.stay (fun _ _ _ q=>q) (fun b' hb=>by rw [bF (nt b' _ hb fun _ _ _ z=>by cases z)];exact hb) fun b' xs hb=>by rw [bF (nt b' _ hb fun _ _ _ z=>by cases z)];exact hb
  by_cases z:b=a
  ·subst z
   rw [cJ] at e
   cases e
   have x:=I.hok b _ h
   obtain⟨_,_,_,ob,_⟩:=(show dL X.prog X.w H s.heap b (.ins C dx fs) from x)
   exact⟨ob,st x⟩
  ·rw [bF z] at e
   exact st (I.hok b o e)
end
theorem PE.frz(h:PE X e t):PE X e (fun σ H Q=>t σ H fun x H'=>∃a C dx fs,x= .ref a/\H' a=some (.ins C dx fs)/\Q x (upd H' a (.frz (PySem.W.instObj C dx) (.ins C dx fs)))):=⟨by
 intro pins s σ H Q I q
 exact thn (h pins s σ H _ I q) fun v s1 ⟨x,H1,I1,rx,a,C,dx,fs,ex,ea,q1⟩=>⟨x,_,I1.freeze ea,rx,q1⟩⟩
def lE(f:tz2):tz2:=fun ps=>(f ps).bind fun d=>match d with
 | .obj true C ns vs=>if D.imms vs=true then some (.obj false C ns vs) else none
 |_=>none
theorem zc2(h:QP X κ e f):QP X κ e (lE f):=
 (PE.frz h).imp fun σ H Q hh_=>by
  obtain⟨ps,d,w,e,q⟩:=hh_
  obtain⟨d0,e1,e2⟩:=bind_some e
  refine⟨ps,d0,w,e1,fun v H1 fv s1 n1 nd1 r1=> ?_⟩
  cases d0 with
  | obj o C ns vs=>cases o with
   | true=>
    have e2':(if D.imms vs=true then some (D.obj false C ns vs) else none)=some d:=e2
    obtain⟨hi,e3⟩:=bV e2'
    cases e3
    obtain⟨l,dx,fs,g,rfl,hl,hn,hs,rfl⟩:=r1.objT_inv
    have eg:=hs.imm hi
    subst eg
    have hln:=n1 l List.mem_cons_self
    have up:∀b o,H b=some o->b≠l:=fun b o hb z=>by rw [z,hln] at hb;cases hb
    refine⟨l,κ C,dx,fs,rfl,hl,q (.ref l) _ [] ⟨fun b o hb hk=> ?_,fun b hb=> ?_⟩ (fun _ h=>absurd h (by simp)) List.nodup_nil (.objF cJ hn (hs.move (fun b o hb ht=> ?_) fun _ h=>absurd h (by simp)))⟩
    ·rw [bF (up b o hb)];exact s1.keep b o hb hk
    ·by_cases z:b=l
     ·rw [z,cJ] at hb;cases hb
     ·rw [bF z] at hb;exact s1.grow b hb
    ·by_cases z:b=l
     ·rw [z,hl] at hb;cases hb;cases ht
     ·rw [bF z];exact hb
   |false=>cases e2
  |_=>cases e2
section
variable{X:Cx}{κ:tz9}
theorem xa1:MtR X "str.rfind" (fun x xs H Q=>∃z y,x= .str z/\xs=[.str y]/\Q (.int (Txt.rfind z y)) H):=⟨by
 intro pins s σ H x xs v us Q I rx r h
 obtain⟨z,y,rfl,rfl,q⟩:=h
 obtain⟨t,rfl⟩:=rx
 obtain⟨u,rfl,t',rfl⟩:=lK r
 exact SC.rfind ⟨.int _,H,I.tok _,⟨_,rfl⟩,q⟩⟩
def ze9:D->tz6
 | .str z,[.str y]=>some (.int (Txt.rfind z y))
 |_,_=>none
theorem xl7:MtR X "str.rfind" (PMt X.K κ ze9):=⟨by
 rintro pins s σ H x vs v us Q I rx r ⟨dx,ds,fx,fp,d,r1,rs,e,q⟩
 unfold ze9 at e
 split at e
 ·cases e
  obtain⟨w,rfl,r2⟩:=rs.one_inv
  exact xa1 pins s σ H x _ v us Q I rx r ⟨_,_,r1.is_str,by rw [r2.is_str],q.now (.int _)⟩
 ·cases e⟩
end
def xh7(f:PSt->Option (Bool×PSt)):PSt->Option (Bool×PSt):=fun ps=>(f ps).bind fun r=>some (!r.1,r.2)
def fTE(f:tz8):PSt->Option (Bool×PSt):=fun ps=>(f ps).bind fun r=>(zi7 r.1).bind fun b=>some (b,r.2)
def fE2(g:D->D->Option D)(fa:tz8)(fb:tz2):tz8:=fun ps=>(fa ps).bind fun r=>(fb r.2).bind fun y=>(g r.1 y).bind fun d=>some (d,r.2)
section
variable{X:Cx}{κ:tz9}{φ:F0}{a b:Expr}{pos:Pos}
theorem xl8(h:QE X κ φ a f)(he:∀whole,isTrue a X.env whole=(do let v<-whole;standAt a.pos;holding [v] (truthy v)):=by intro _;rfl):QTE X κ φ a (fTE f):=(zr6 h he).imp fun σ H Q hh_=>by
 obtain⟨ps,F,c,ps',R,e,q⟩:=hh_
 obtain⟨⟨d,p1⟩,e1,e2⟩:=bind_some e
 obtain⟨c1,e3,e4⟩:=bind_some e2
 cases e4
 exact⟨ps,F,d,p1,R,e1,fun v H' F' fv s o r=>⟨_,yc1 r e3,q H' F' s⟩⟩
theorem xu1(ho:OpR X (compareOp op) (POp X.K κ g))(ha:QE X κ φ a fa)(hb:QV X κ b fb)(hm:behindInMarks op b=false):QE X κ φ (.Compare a [op] [b] pos) (fE2 g fa fb):=
 (yb4 ho ha hb hm).imp fun σ H Q hh_=>by
  obtain⟨ps,F,d,ps',R,e,q⟩:=hh_
  obtain⟨⟨dx,p1⟩,e1,e2⟩:=bind_some e
  obtain⟨y,e3,e4⟩:=bind_some e2
  obtain⟨d1,e5,e6⟩:=bind_some e4
  cases e6
  refine⟨ps,F,dx,p1,R,e1,fun v H1 F1 fv s1 o1 r1=>⟨p1,y,s1.rs.ws,e3,fun u H2 fu s2 r2=>⟨dx,y,_,fv,fu,r1.same s2,r2,e5,fun w H3 fw s3 n3 nd3 r3=> ?_⟩⟩⟩
  exact q w H3 F1 fw (s1.trans (.same s1.rs (s2.trans s3))) (OwnV.after s1 (OwnV.new s1.rs (fun a ha=>s2.grow a (n3 a ha)) nd3)) r3
end
section
variable{X:Cx}{κ:tz9}{φ:F0}{a b o e:Expr}{es cE:List Expr}{pos apos p:Pos}{j:Nat}{pf:PSt->Option (List Ps1)}
def xy4(X:Cx)(e:Expr)(t:TE):Prop:=
 ∀(pins:tzB) (s:Shared) (σ:St) (H:Hp) (Q:VK),0<s.toks->Inv X pins σ H s->t σ H Q->wpAny (model X.prog X.w) X.A (eval e X.env) (EP X pins σ Q) X.xe s
structure PEk(X:Cx)(e:Expr)(t:TE):Prop where
 go:xy4 X e t
instance {X:Cx} {e:Expr} {t:TE}:CoeFun (PEk X e t) fun _=>xy4 X e t:=⟨PEk.go⟩
end
def xf1:D->Option (List D)
 | .tup ds=>some ds
 |_=>none
theorem yr0(h:xf1 d=some ys):d= .tup ys:=by
 unfold xf1 at h
 split at h
 ·cases h;rfl
 ·cases h
def lG(is:List Nat)(f:tz1):List D->tz1
 |[],ps=>some (.nx,ps)
 | d::ds,ps=>(xf1 d).bind fun ys=>if ys.length=is.length then(f (nG ps is ys)).bind fun q=>match q with
   |(.nx,p)=>lG is f ds p
   |(.ct,p)=>lG is f ds p
   |(.bk,p)=>some (.nx,p)
   |(.ret d,p)=>some (.ret d,p)
  else none
def zq1(is:List Nat)(fi:tz3)(f:tz1):tz1:=fun ps=>(fi ps).bind fun ds=>lG is f ds ps
def yl3:D->Option (List D)
 | .lst true xs=>if D.imms xs=true then some xs else none
 |_=>none
theorem yi1(h:yl3 d=some xs):d= .lst true xs/\D.imms xs=true:=by
 unfold yl3 at h
 split at h
 ·obtain⟨h1,h2⟩:=bV h
  cases h2
  exact⟨rfl,h1⟩
 ·cases h
def DkT{α:Type}:Sem α->Prop
 | .pure _=>True
 | .raise _=>True
 | .unsupported _=>True
 | .rule _ k=>∀x,DkT (k x)
 | .at _ k=>∀x,DkT (k x)
 | .load _ _ k=>∀x,DkT (k x)
 | .update _ _ f k=>(∀o:Obj,(f o).dict=o.dict)/\∀x,DkT (k x)
 | .alloc _ k=>∀x,DkT (k x)
 | .stack k=>∀x,DkT (k x)
 |_=>False
theorem DkT.bind{α β:Type}{f:α->Sem β}(hf:∀a,DkT (f a)):∀{m:Sem α},DkT m->DkT (m>>=f):=by
 intro m
 show DkT m->DkT (m.bind f)
 induction m with
 |pure a=>exact fun _=>hf a
 |raise=>exact fun _=>trivial
 |unsupported=>exact fun _=>trivial
 |rule _ k ih=>exact fun h x=>ih x (h x)
 |«at» _ k ih=>exact fun h x=>ih x (h x)
 |load _ _ k ih=>exact fun h x=>ih x (h x)
 |update _ _ f k ih=>exact fun h=>⟨h.1,fun x=>ih x (h.2 x)⟩
 |alloc _ k ih=>exact fun h x=>ih x (h x)
 |stack k ih=>exact fun h x=>ih x (h x)
 |_=>exact fun h=>h.elim
def KDs(h h':Heap):Prop:=∀(b:Nat) (o:Obj),h.objs[b]? =some o->∃o':Obj,h'.objs[b]? =some o'/\o'.dict=o.dict
theorem KDs.refl(h:Heap):KDs h h:=fun b o e=>⟨o,e,rfl⟩
theorem KDs.trans(x:KDs a b)(y:KDs b c):KDs a c:=fun i o e=>by
 obtain⟨o1,e1,q1⟩:=x i o e
 obtain⟨o2,e2,q2⟩:=y i o1 e1
 exact⟨o2,e2,q2.trans q1⟩
def KD(e:Addr)(dd:Option Addr)(h:Heap):Prop:=∃o,h.get? e=some o/\o.dict=dd
theorem zt7{h:Heap}{e:Addr}{o:Obj}(q:h.get? e=some o):h.objs[e]? =some o:=by
 unfold Heap.get? at q
 split at q
 ·cases q
 ·exact q
theorem KD.step{e:Addr}{dd:Option Addr}{h h':Heap}(k:KD e dd h)(s:KDs h h')(t:∃o,h'.get? e=some o):KD e dd h':=by
 obtain⟨o,q1,q2⟩:=k
 obtain⟨o',q3⟩:=t
 obtain⟨o2,q4,q5⟩:=s e o (zt7 q1)
 rw [zt7 q3] at q4
 cases q4
 exact⟨o',q3,q5.trans q2⟩
theorem dL.get(x:dL P w H h a o):∃u,h.get? a=some u:=by
 cases o with
 |lst xs=>obtain⟨_,_,_,_,e⟩:=x;exact⟨_,e⟩
 |tup xs=>obtain⟨_,_,_,_,e,_⟩:=x;exact⟨_,e⟩
 |dK kvs=>obtain⟨_,_,_,_,o,_,_,e,_⟩:=x;exact⟨_,e⟩
 |dT kvs=>obtain⟨_,_,_,_,o,_,_,e,_⟩:=x;exact⟨_,e⟩
 |set S n=>obtain⟨o,_,_,_,e,_⟩:=x;exact⟨_,e⟩
 |ins C dx fs=>obtain⟨_,_,_,e,_⟩:=x;exact⟨_,e⟩
 |own y=>exact x
 |xd fs=>obtain⟨_,⟨_,_,_,e,_⟩,_⟩:=x;exact⟨_,e⟩
 |rng lo hi=>obtain⟨_,_,_,e⟩:=x;exact⟨_,e⟩
 |frz ob u=>obtain⟨e,_⟩:=x;exact⟨_,e⟩
 |tbl ps=>exact⟨_,(show h.get? a=some _ from x)⟩
 |met f y=>exact⟨_,(show h.get? a=some _ from x)⟩
 |ext φ=>obtain⟨_,e,_⟩:=x;exact e
theorem HOk.none_of(x:HOk P w H h){a:Addr}(e:h.get? a=none):H a=none:=by
 cases q:H a with
 |none=>rfl
 |some o=>obtain⟨u,z⟩:=(x a o q).get;rw [e] at z;cases z
theorem HOk.but(x:HOk P w H h)(k:∀b o u,H b=some o->h.get? b=some u->h'.get? b=some u):HOk P w H h':=fun a o e=>
 (x a o e).stay (fun b u hb q=>by
  rcases hb with rfl|hb
  ·exact k _ _ _ e q
  ·exact k _ _ _ hb q) (fun _ q=>q) fun _ _ q=>q
theorem yr1(e:(PySem.W.hideAll h as).get? b=none):b∈as\/h.get? b=none:=by
 cases q:h.get? b with
 |none=>exact .inr rfl
 |some o=>
  by_cases m:b∈as
  ·exact .inl m
  ·rw [PySem.W.hideAll_get as q m] at e;cases e
structure Fly(base:Heap)(C:Addr)(l:List Env)(H:Hp)(h0:Heap)(e T:Addr)(a0:Value)(h:Heap):Prop where
 ne:h0.get? e=none
 nT:h0.get? T=none
 He:H e=none
 HT:H T=none
 st:base.StaysIn h
 be:base.get? e=none
 bT:base.get? T=none
 fr:h.FunFrames base l
 tr:∃oe vs oT ts,h.get? e=some oe/\(oe.cls= .ref C/\vs[0]? =some a0)/\oe.data= .fields vs/\vs[1]? =some (.ref T)/\T≠e/\h.get? T=some oT/\oT.data= .fields ts/\ts[3]? =some .none
abbrev xf2(h:Heap)(l:List Env)(e T:Addr):Heap:=PySem.W.hideAll h (e::T::frs l)
section
variable{base h0 h:Heap}{C e T:Addr}{l:List Env}{H:Hp}{a0:Value}
theorem Fly.base_in(x:Fly base C l H h0 e T a0 h):base.StaysIn (xf2 h l e T):=fun b o q=>by
 refine PySem.W.hideAll_get _ (x.st b o q) fun m=> ?_
 rcases List.mem_cons.mp m with z|m
 ·rw [z,x.be] at q;cases q
 ·rcases List.mem_cons.mp m with z|m
  ·rw [z,x.bT] at q;cases q
  ·rw [(x.fr.mem m).1] at q;cases q
theorem Fly.next(x:Fly base C l H h0 e T a0 h)(ok:HOk P w H h)(th:∀b o,h0.get? b=some o->∃o',h.get? b=some o'){h':Heap}{l':List Env}(ups:h.UpToSlots h')(f:Heap.FlyingW (xf2 h l e T) l' e (.ref C) a0 h'):∃T',Fly base C l' H h0 e T' a0 h':=by
 obtain⟨k1,k2,k3,oe,vs,T',oT,ts,h1,h2,h3,h4,h5,h6,h7,h8,h9⟩:=f
 have hT:T'=T\/h.get? T'=none:=by
  rcases yr1 h5 with m|m
  ·rcases List.mem_cons.mp m with z|m
   ·exact absurd z h6
   ·rcases List.mem_cons.mp m with z|m
    ·exact .inl z
    ·obtain⟨_,o,q1,q2⟩:=x.fr.mem m
     obtain⟨sl,q3⟩:=ups T' o q1 q2
     rw [h7] at q3;cases q3
     exact absurd h8 (q2 _)
  ·exact .inr m
 refine⟨T',x.ne,?_,x.He,?_,fun b o q=>k1 b o (x.base_in b o q),x.be,?_,PySem.W.funFrames_base x.base_in k3,oe,vs,oT,ts,h1,h2,h3,h4,h6,h7,h8,h9⟩
 ·rcases hT with z|z
  ·rw [z];exact x.nT
  ·cases q:h0.get? T' with
   |none=>rfl
   |some o=>obtain⟨o',q'⟩:=th _ _ q;rw [z] at q';cases q'
 ·rcases hT with z|z
  ·rw [z];exact x.HT
  ·exact ok.none_of z
 ·cases q:base.get? T' with
  |none=>rfl
  |some o=>have:=x.base_in T' o q;rw [h5] at this;cases this
theorem Fly.keep(x:Fly base C l H h0 e T a0 h){h':Heap}(st:(xf2 h l e T).StaysIn h'){b:Addr}{o:Obj}(q:h.get? b=some o)(n1:b∉frs l)(n2:b≠e)(n3:b≠T):h'.get? b=some o:=
 st b o (PySem.W.hideAll_get _ q fun m=>by
  rcases List.mem_cons.mp m with z|m
  ·exact n2 z
  ·rcases List.mem_cons.mp m with z|m
   ·exact n3 z
   ·exact n1 m)
end
abbrev yw5(C:Addr)(dx:Option Addr)(t:Addr):Obj:={cls:= .ref C,dict:=dx,data:= .fields #[.ref t,.none,.none,.none,.bool false,.none]}
theorem PS.nox{X:Cx}{st:Stmt}{t:TS}(h:PS X.nox st t):PS X st t:=⟨fun pins s σ H D I hw=>
 wpAny_mono (h pins s σ H D (I.wish _) hw) (fun _ _ q=>q.unwish) fun _ _ z=>False.elim z⟩
theorem PA.nox(h:PA X.nox es t):PA X es t:=⟨fun pos pins s σ H Q I hw=>
 wpAny_mono (h pos pins s σ H Q (I.wish _) hw) (fun _ _ q=>by obtain⟨vs,H',I',r,q⟩:=q;exact⟨vs,H',I'.unwish,r,q⟩) fun _ _ z=>False.elim z⟩
abbrev bmV:List Value:=[.type "ValueError",.type "Exception",.type "BaseException",.type "object"]
def wd6(d:D):Bool:=match d with
 | .int a=>decide (a.natAbs.log2<1920)
 |_=>false
def xh8:List (tz2)->tz5
 |[],_=>true
 | f::fs,ps=>(match f ps with
   |some d=>wd6 d
   |none=>false)&&xh8 fs ps
def PJ(X:Cx)(κ:tz9)(es:List Expr)(fs:List (tz2)):Prop:=∀(pins:tzB) (s:Shared) (σ:St) (H:Hp) (ps:PSt) (out:Str) (Q:Value->Shared->Prop),Inv X pins σ H s->WS X.K κ H σ ps->xh8 fs ps=true->out.length+2000*es.length<=sizeLine->
 (∀v s' H',Inv X pins σ H' s'->SameK H H'->Q v s')->wpAny (model X.prog X.w) X.A (joinParts out (evalEach es X.env)) Q X.xe s
section
variable{X:Cx}{κ:tz9}{es:List Expr}{fs:List (tz2)}
theorem PJ.nox(h:PJ X.nox κ es fs):PJ X κ es fs:=fun pins s σ H ps out Q I w e hl q=>
 wpAny_mono (h pins s σ H ps out Q (I.wish _) w e hl fun v s' H' I' sm=>q v s' H' I'.unwish sm) (fun _ _ x=>x) fun _ _ z=>False.elim z
end
end L2
namespace L2
section
open PySem PySem.W PySem.Calls PyProof.Rows Builtin Builtin.ObjectAttr Builtin.Getset_descriptor
variable{prog:Program}{w:World}{A:Around}{E:Value->Shared->Prop}{s:Shared}{K:tz0}{x D:Addr}{name:Str}
end
open PySem PySem.Spec PyProof.Rows
section
variable{X:Cx}{pins:tzB}{σ:St}{H:Hp}{s:Shared}
theorem Inv.swap{h':Heap}{t':Nat}{σ':St}{m':tzA}(I:Inv X pins σ H s)(hs:Heap.SameBut X.env.locals s.heap h')(hn:h'.Ns X.env.locals m')(hl:σ'.length=X.N.length)
  (hv:∀(i:Nat) (x:Str) (v:V),X.N[i]? =some x->σ'[i]? =some (some v)->Vis X.env.scope x->∃u,bZ v u/\xw3 X.env h' m' x u):Inv X pins σ' H {s with heap:=h',toks:=t'}:=by
 have ne:∀b o,X.s₀.heap.get? b=some o->b≠X.env.locals:=fun b o e=>Nat.ne_of_lt (Nat.lt_of_lt_of_le (Heap.lt_size e) I.ok.above)
 have cell:∀{c:Addr} {v:Option Value},c≠X.env.locals->s.heap.IsCell c v->h'.IsCell c v:=fun {c v} n ⟨o,q1,q2⟩=>⟨o,(hs.2 c n).trans q1,q2⟩
 refine⟨I.ok,I.os,I.bare,⟨fun b o e n hb hx=>(hs.2 b (ne b o e)).trans (I.base.keep b o e n hb hx),fun b o e n hb hx=> ?_,I.base.free,fun b o e hx=> ?_,I.base.tups,I.base.frzs,I.base.tbls⟩,⟨m',hn,hv⟩,fun y c e=> ?_,I.free,I.freeC,fun p hp=> ?_,I.hok.but fun b o u e q=> ?_,hl⟩
 ·exact(I.base.slot b o e n hb hx).imp fun sl z=>(hs.2 b (ne b o e)).trans z
 ·exact(I.base.there b o e hx).imp fun o' z=>(hs.2 b (ne b o e)).trans z
 ·exact(I.cell y c e).imp fun v z=>cell (I.cne y c e) z
 ·obtain⟨q1,q2,q3,q4⟩:=I.pin p hp
  exact⟨(hs.2 p.1 q3).trans q1,q2,q3,q4⟩
 ·refine(hs.2 b fun z=> ?_).trans q
  rw [z,I.free] at e;cases e
theorem yc9{M:Model}{A:Around}{E:Value->Shared->Prop}{i:Nat}{x:Str}{pos:Pos}{Q:Unit->Shared->Prop}(I:Inv X pins σ H s)(hN:X.N.Nodup)(hi:X.N[i]? =some x)(hk:X.env.kindOf x=some .local)
  (h:∀s',Inv X pins (σ.set i none) H s'->Q () s'):wpAny M A (do bindName X.env x .none;unbindBehindTheSuite X.env x pos) Q E s:=by
 obtain⟨m,hn,hl⟩:=id I.loc
 refine wpAny_nameGoes_keeps hk hn (by rw [I.ok.kind];rfl) fun h' v hn' hs=>h _ (I.swap hs hn' (by rw [List.length_set];exact I.len) fun j y u e1 e2 e3=> ?_)
 have hji:j≠i:=fun z=>by
  subst z
  have:(σ.set j none)[j]? =some (some u):=e2
  rw [List.getElem?_set] at this
  simp at this
 rw [List.getElem?_set_ne (Ne.symm hji)] at e2
 obtain⟨u',r,l⟩:=hl j y u e1 e2 e3
 have hyx:y≠x:=fun z=>by
  subst z
  exact hji ((List.getElem?_inj (List.getElem?_eq_some_iff.mp e1).1 hN).mp (e1.trans hi.symm))
 refine⟨u',r,?_⟩
 rcases l with ⟨hk',hm⟩|⟨hk',c,hc,o,q1,q2⟩
 ·exact .inl ⟨hk',by show(if y=x then v else m y)=_;rw [if_neg hyx];exact hm⟩
 ·exact .inr ⟨hk',c,hc,o,(hs.2 c (I.cne y c hc)).trans q1,q2⟩
end
def yl4(C:Addr)(h:Heap):Prop:=∃bm N nm qn bs hdct sn sub ab col dd k0 k1 k2 k3 k5 nid,h.get? C=some (excClassObj nm qn C N bs bm hdct sn sub ab col dd k0 k1 k2 k3 k5 nid)/\bm.contains (.type "BaseException")=true
theorem yl4.keeps{C:Addr}{h h':Heap}(x:yl4 C h)(k:∀b o,h.get? b=some o->h'.get? b=some o):yl4 C h':=by
 obtain⟨bm,N,nm,qn,bs,hdct,sn,sub,ab,col,dd,k0,k1,k2,k3,k5,nid,e,hb⟩:=x
 exact⟨bm,N,nm,qn,bs,hdct,sn,sub,ab,col,dd,k0,k1,k2,k3,k5,nid,k _ _ e,hb⟩
structure KExc(K:tz0)(C:Addr):Prop where
 ga:PySem.W.findIn K (.ref C) "__getattribute__"=some (some (.builtin "BaseException.__getattribute__"))
 gt:PySem.W.findIn K (.ref C) "__getattr__"=some none
 a:PySem.W.findIn K (.ref C) "__class__"=some (some (.builtin "object.__class__"))
 n:PySem.W.specialIn K (.builtin "object.__class__") "__get__"=some (some (.builtin "getset_descriptor.__get__"))
 t:PySem.W.takesIn K (.builtin "object.__class__")=some true
 m:PySem.W.mroIn K C (.type "object")=some true
 b:PySem.W.mroIn K C (.type "BaseException")=some true
 c:(PySem.W.clsIn K C).isSome=true
def Cx.pinned(X:Cx)(ea:Addr)(oe:Obj):Cx:={X with pn:=X.pn++[(ea,oe)]}
section
variable{P:Program}{w:World}{A:Around}{E:Value->Shared->Prop}{h:Heap}{g:Array GenState}{d:Drawn}{t:Nat}{os:OsState}{nm q:Str}{C N:Addr}{bs bm bmB:List Value}{hdct ab:Bool}{sn:List Str}{sub:List Value}
 {col:Option Bool} {dd:Option Addr} {k0 k1 k2 k3 k5:Option Value} {B newId initId:String}
end
section
variable{P:Program}{w:World}{A:Around}{E:Value->Shared->Prop}{s:Shared}{env:Env}{nm q:Str}{C N:Addr}{bs bm bmB:List Value}{hdct ab:Bool}{sn:List Str}{sub:List Value}
 {col:Option Bool} {dd:Option Addr} {k0 k1 k2 k3 k5:Option Value} {B newId initId:String}
end
def keepN(h:List D->D->Option Int)(ys:List D):D->Option (Int×D):=fun d=>(h ys d).bind fun n=>some (n,d)
end L2
namespace L2
section
open PySem PySem.W PySem.Calls PyProof.Rows Builtin Builtin.ObjectAttr Builtin.Getset_descriptor
variable{prog:Program}{w:World}{A:Around}{E:Value->Shared->Prop}{K:tz0}{x C:Addr}{name:Str}
end
open PySem PySem.Spec PyProof.Rows
def wh3(C e:Addr):HO:= .ext fun h=>∃t,h.get? e=some (yw5 C none t)
def wd7(C e D:Addr):HO:= .ext fun h=>∃t,h.get? e=some (yw5 C (some D) t)
section
variable{P:Program}{w:World}{fs ex:List Addr}{H H1:Hp}{h h1:Heap}{x:Addr}{o:HO}{φ:Heap->Prop}
theorem HOk.add(ok:HOk P w H h)(hn:H x=none)(new:dL P w (upd H x o) h x o):HOk P w (upd H x o) h:=fun b u e=>by
 by_cases hb:b=x
 ·subst hb;rw [cJ] at e;cases e;exact new
 ·rw [bF hb] at e
  exact(ok b u e).stay (fun c v _ q=>q) (fun c q=>by rw [bF (eY q hn)];exact q) fun c xs q=>by rw [bF (eY q hn)];exact q
theorem Un.add(u:Un fs ex H H1 h h1)(n0:h.get? x=none)(n1:H x=none):Un fs ex H (upd H1 x o) h h1:=
 ⟨u.keep,u.slot,fun b ob q n hx=>by rw [bF fun z=>by rw [z,n0] at q;cases q];exact u.free b ob q n hx,u.there,fun b xs q=>by rw [bF (eY q n1)];exact u.tups b xs q,fun b o xs q=>by rw [bF (eY q n1)];exact u.frzs b o xs q,fun b ps q=>by rw [bF (eY q n1)];exact u.tbls b ps q⟩
end
def xy5(C:Addr):Sp:=fun vs H Q _=>∃e n,vs=[.ref e,.int n]/\H e=some (wh3 C e)/\n.natAbs.log2<1920/\∀D,H D=none->D≠e->Q .non (upd (upd H e (wd7 C e D)) D (.xd [("at",.int n)]))
structure NumCls(K:tz0)(C fI:Addr)(base:Heap):Prop where
 obj:∃bm N nm q bs sn sub ab col dd k0 k1 k2 k3 k5 mN,base.get? C=some (excClassObj nm q C N bs bm true sn sub ab col dd k0 k1 k2 k3 k5 "ValueError.__new__")/\base.Ns N mN/\mN "__init__"=some (.ref fI)/\OwnTail base bmV bm
 fn:∃oI,base.get? fI=some oI/\oI.cls= .type "function"
 sa:PySem.W.findIn K (.ref C) "__setattr__"=some (some (.builtin "object.__setattr__"))
 at_:PySem.W.findIn K (.ref C) "at"=some none
structure BaseInit(K:tz0)(LE:Addr):Prop where
 ga:PySem.W.specialIn K (.ref LE) "__getattribute__"=some (some (.builtin "type.__getattribute__"))
 rd:PySem.W.readsIn K LE (.type "type")=true
 fc:PySem.W.findCls K (.ref LE) (.type "type") "__init__"=some (.val (.builtin "ValueError.__init__"))
structure NumI(P:Program)(w:World)(K:tz0)(mg:tzA)(base:Heap)(x:Str)(C:Addr):Prop where
 bound:mg x=some (.ref C)
 cls:∃fI fd,NumCls K C fI base/\FnOk P w K mg base CX0 1 fI fd ["self","at"] (xy5 C)/\jX K fd ["self","at"] []
structure KNum(K:tz0)(C:Addr):Prop where
 x:KExc K C
 at_:PySem.W.findIn K (.ref C) "at"=some none
 hd:∃cd,PySem.W.clsIn K C=some cd/\cd.hasDict=true
theorem PI.nox{X:Cx}{tg e:Expr}{t:TI}(h:PI X.nox tg e t):PI X tg e t:=⟨fun pins s σ H R I hw=>
 wpAny_mono (h pins s σ H R (I.wish _) hw) (fun _ _ q=>wpAny_mono q (fun _ _ q=>by obtain⟨it,fp,tn,J,H',e,I',a,b,c,d⟩:=q;exact⟨it,fp,tn,J,H',e,I'.unwish,a,b,c,d⟩) fun _ _ z=>False.elim z) fun _ _ z=>False.elim z⟩
def nI:tz2:=fun _=>some (.dic true [] [])
theorem zt8{X:Cx}{κ:tz9}{pos:Pos}:QP X κ (.Dict [] [] pos) nI:=yy5.imp fun σ H Q hh_=>by
 obtain⟨ps,d,w,e,q⟩:=hh_
 cases e
 exact fun p hp=>q.at hp (fv:=[p]) (fun a ha=>by rw [List.mem_singleton.mp ha];exact hp) (by simp) (.dic (kvs:=[]) cJ rfl .nil)
section
variable{K:tz0}{κ:tz9}{H:Hp}
theorem oN:∀{kvs:List (Key×V)} {ks:List Key} {ds:List D} {g:List Addr} {k:Key},kvs.map (·.1)=ks->Reps K κ H (kvs.map (·.2)) ds g->(jS kvs k).isSome=(iR ks ds k).isSome
 |[],_,_,_,_,e,r=>by subst e;cases r;rfl
 |(k0,v0)::kvs,_,_,_,k,e,.cons h hs=>by
  subst e
  rw [List.map_cons,iR]
  by_cases z:k0=k
  ·rw [if_pos z,rE z];rfl
  ·rw [if_neg z,rF z];exact oN rfl hs
theorem Rep.dicT_inv(r:Rep K κ H v (.dic true ks ds) fp):∃a kvs g,v= .ref a/\H a=some (.dK kvs)/\kvs.map (·.1)=ks/\Reps K κ H (kvs.map (·.2)) ds g/\fp=a::g:=by
 cases r with
 |dic h e hs=>exact⟨_,_,_,rfl,h,e,hs,rfl⟩
theorem Rep.dicF_inv(r:Rep K κ H v (.dic false ks ds) fp):∃a o kvs,v= .ref a/\H a=some (.frz o (.dK kvs))/\kvs.map (·.1)=ks/\Reps K κ H (kvs.map (·.2)) ds []:=by
 cases r with
 |dicF h e hs=>exact⟨_,_,_,rfl,h,e,hs⟩
end
def jR:D->D->Option D
 |y,.dic _ ks ds=>y.key.bind fun k=>some (.bl (!(iR ks ds k).isSome))
 |_,_=>none
def qF:List Key->List D->Key->D->List D
 |k::ks,d::ds,j,y=>(if k=j then y else d)::qF ks ds j y
 |_,_,_,_=>[]
def jZ:D->D->D->Option (Unit×D)
 |i,y,.dic true ks ds=>i.key.bind fun k=>if D.imms ds=true/\y.imm=true/\ks.length<sizeLine then some ((),if (iR ks ds k).isSome=true then .dic true ks (qF ks ds k y) else .dic true (ks++[k]) (ds++[y])) else none
 |_,_,_=>none
theorem yi2(h:jZ i y d=some (r,d')):∃k ks ds,d= .dic true ks ds/\i.key=some k/\D.imms ds=true/\y.imm=true/\ks.length<sizeLine/\d'=if (iR ks ds k).isSome=true then .dic true ks (qF ks ds k y) else .dic true (ks++[k]) (ds++[y]):=by
 unfold jZ at h
 split at h
 ·obtain⟨k,e1,e2⟩:=bind_some h
  obtain⟨hc,e3⟩:=bV e2
  cases e3
  exact⟨k,_,_,rfl,e1,hc.1,hc.2.1,hc.2.2,rfl⟩
 ·cases h
theorem xA{K:tz0}{κ:tz9}{H:Hp}{v:V}{y:D}{k:Key}(r:Rep K κ H v y []):∀{kvs:List (Key×V)} {ds:List D},Paired (fun v d=>Rep K κ H v d []) (kvs.map (·.2)) ds->Paired (fun v d=>Rep K κ H v d []) ((kvs.map fun kv=>if kv.1=k then(kv.1,v) else kv).map (·.2)) (qF (kvs.map (·.1)) ds k y)
 |[],_,.nil=> .nil
 |(k0,v0)::kvs,_,.cons h t=>by
  rw [List.map_cons,List.map_cons,List.map_cons,qF]
  by_cases z:k0=k
  ·rw [if_pos z,if_pos z];exact .cons r (xA r t)
  ·rw [if_neg z,if_neg z];exact .cons h (xA r t)
theorem wI{k:Key}{v:V}:∀kvs:List (Key×V),(kvs.map fun kv=>if kv.1=k then(kv.1,v) else kv).map (·.1)=kvs.map (·.1)
 |[]=>rfl
 |(k0,v0)::kvs=>by
  rw [List.map_cons,List.map_cons,List.map_cons,wI kvs]
  by_cases z:k0=k
  ·rw [if_pos z]
  ·rw [if_neg z]
theorem xl9{K:tz0}{κ:tz9}{H:Hp}{l:Addr}{v:V}{y:D}{kvs:List (Key×V)}{ds:List D}{k:Key}(hl:H l=some (.dK kvs))(hs:Reps K κ H (kvs.map (·.2)) ds [])(ry:Rep K κ H v y []):
  Rep K κ (upd H l (.dK (iE kvs k v))) (.ref l) (if (iR (kvs.map (·.1)) ds k).isSome=true then .dic true (kvs.map (·.1)) (qF (kvs.map (·.1)) ds k y) else .dic true (kvs.map (·.1)++[k]) (ds++[y])) [l]:=by
 have ha:=zJ k kvs
 rw [oN (k:=k) rfl hs] at ha
 have hs':Reps K κ (upd H l (.dK (iE kvs k v))) (kvs.map (·.2)) ds []:=hs.updL hl rfl (by simp)
 have ry':Rep K κ (upd H l (.dK (iE kvs k v))) v y []:=ry.updL hl rfl (by simp)
 by_cases hc:(iR (kvs.map (·.1)) ds k).isSome=true
 ·rw [if_pos hc]
  rw [hc] at ha
  have e:iE kvs k v=kvs.map fun kv=>if kv.1=k then(kv.1,v) else kv:=by unfold iE;rw [if_pos ha]
  exact .dic (fp:=[]) (kvs:=iE kvs k v) cJ (by rw [e];exact wI kvs) (.ofp (by rw [e];rw [e] at hs' ry';exact xA ry' hs'.nilp))
 ·rw [if_neg hc]
  rw [Bool.not_eq_true] at hc
  rw [hc] at ha
  have e:iE kvs k v=kvs++[(k,v)]:=by unfold iE;rw [if_neg (by rw [ha];exact Bool.false_ne_true)]
  have hh:=Reps.append hs' (Reps.one ry')
  exact .dic (fp:=[]) (kvs:=iE kvs k v) cJ (by rw [e,List.map_append];rfl) (by rw [e,List.map_append];rw [e] at hh;exact hh)
section
variable{X:Cx}{κ:tz9}{φ:F0}{a b o e i:Expr}{f fa fb fi fe:tz2}{pf:PSt->Option (List Ps1)}{j:Nat}{pos apos:Pos}{tg:Expr}
theorem yr2(hu:X.A.units+1<cLine)(ha:QV X κ a fa)(hb:QV X κ b fb)(hm:behindInMarks .NotIn b=false:=by rfl):QT X κ (.Compare a [.NotIn] [b] pos) (fB (f2 jR fa fb)):=
 (xq1 (yo7 hu ha hb) hm).imp fun σ H Q hh_=>by
  obtain⟨ps,c,w,e,q⟩:=hh_
  obtain⟨x,y,e1,e2,e3⟩:=uE (yc0 e)
  refine⟨ps,x,w,e1,fun v H1 fp s1 r1=>⟨ps,y,w.same s1,e2,fun u H2 fq s2 r2=> ?_⟩⟩
  unfold jR at e3
  split at e3
  ·obtain⟨k,e4,e5⟩:=bind_some e3
   cases e5
   obtain⟨l,kvs,g,rfl,h,hk,hs,_⟩:=r2.dic_inv
   exact⟨l,jS kvs k,rfl,.inl ⟨kvs,k,h,yF r1 e4,rfl⟩,_,by rw [oN hk hs],q H2 (s1.trans s2)⟩
  ·cases e3
def lA(j:Nat)(pf:PSt->Option (List Ps1))(fi fe:tz2):tz1:=fun ps=>(fe ps).bind fun y=>((ps[j]?).join).bind fun d0=>(pf ps).bind fun p=>(fi ps).bind fun i=>(eP (jZ i y) d0 p).bind fun r=>some (.nx,ps.set j (some r.2))
theorem yd0(hu:X.A.units+1<cLine)(hb:φ.bor j=false)(he:PE X e (tP X.K κ fe))(ho:PE X o (nE X.K κ j pf))(hi:PE X i (tV X.K κ fi))(hs:swapsWith e (some (.Subscript o i apos)) pos.line X.env=pure false:=by rfl):QS X κ φ (.Assign [.Subscript o i apos] e pos) (lA j pf fi fe):=
 (xk3 hu ho hi he hs).imp fun E σ H hh_=>by
  obtain⟨ps,F,fl,ps',R,e,q⟩:=hh_
  obtain⟨y,e1,e2⟩:=bind_some e
  obtain⟨d0,e3,e4⟩:=bind_some e2
  have e0:=join_some e3
  obtain⟨p,e5,e6⟩:=bind_some e4
  obtain⟨iv,e7,e8⟩:=bind_some e6
  obtain⟨⟨r,d0'⟩,em,e9⟩:=bind_some e8
  cases e9
  obtain⟨dd,dn,gp,hh⟩:=lY em
  refine⟨ps,y,R.ws,e1,fun v H1 fy s1 n1 nd1 ry=>⟨ps,p,d0,dd,R.ws.same s1,e0,e5,gp,fun lv H2 v0 s2 ev a2=>⟨ps,iv,(R.ws.same s1).same s2,e7,fun u H3 fu s3 r3=> ?_⟩⟩⟩
  have s13:=(s1.trans s2).trans s3
  obtain⟨d1,d1',fd,m1,m2,m3,m4,m5⟩:=uJ R s13 hb e0 ev em (a2.same s3)
  obtain⟨k,ks,ds,rfl,ek,hi,hy,hl,rfl⟩:=yi2 m2
  obtain⟨l,kvs,g,rfl,hd,hk,hs,rfl⟩:=m1.dicT_inv
  subst hk
  have eg:=hs.imm hi
  subst eg
  have ey:=ry.imm hy
  subst ey
  refine⟨l,_,rfl,.inl ⟨kvs,k,hd,yF r3 ek,by simpa using hl,rfl⟩,?_⟩
  obtain⟨F',st,ow⟩:=m5 (upd H3 l (.dK (iE kvs k v))) [l] [] (fun a o h _ hn=>vB h hn) (fun a h=>nY h)
   (xl9 hd hs ((ry.same s2).same s3)) (by simp) (fun a ha=> .inl (by simpa using ha))
  exact q _ _ F' st
end
def Itf(a:Addr)(o:Obj)(kvs:List (Key×V)):It:=⟨fun i H=>H a=some (.frz o (.dK kvs))/\i<kvs.length,fun i H x H'=>H'=H/\(kvs.map fun kv=>kV kv.1)[i]? =some x,fun i H=>H a=some (.frz o (.dK kvs))/\kvs.length<=i⟩
theorem zO{X:Cx}{pins:tzB}{σ:St}{H:Hp}{s:Shared}{a:Addr}{o:Obj}{kvs:List (Key×V)}(I:Inv X pins σ H s)(h:H a=some (.frz o (.dK kvs))):
  (a==sysModules)=false/\kvs.length<=sizeLine/\∃vs es ep,KV kvs vs/\o.data= .dict es ep/\s.heap.DictAt (eC X.prog X.w) a vs ep:=by
 obtain⟨g,z,sm,vs,hv,hd⟩:=(show dL X.prog X.w H s.heap a (.frz o (.dK kvs)) from I.hok a _ h)
 obtain⟨ep,hat⟩:=hd.dictAt
 obtain⟨o',es,g',h1,h2,h3⟩:=id hat
 rw [g] at g'
 cases g'
 exact⟨sm,z,vs,es,ep,hv,h2,hat⟩
theorem xm0{P:Program}{w:World}{K:tz0}{tg:Expr}{a it:Addr}{o:Obj}{es:Array DictEntry}{ep:Nat}{kvs:List (Key×V)}(hd:o.data= .dict es ep):Turn P w K tg (Itf a o kvs) [it] it (fun i h=>h.IsKeyIter it a i kvs.length ep) where
 mem:=by simp
 obj:=fun i h st b hb=>by
  have e:b=it:=by simpa using hb
  subst e
  obtain⟨o,e,c,d⟩:=st
  exact⟨o,e,fun v z=>by rw [d] at z;cases z⟩
 keep:=fun i h h' st k=>st.at fun o e=>k it (by simp) o e
 item:=by
  intro X hP hw hK hc i pins s σ H E I hf st hg
  subst hP hw hK
  obtain⟨sm,z,vs,es',ep',hv,hd',dd⟩:=zO I hg.1
  rw [hd] at hd'
  cases hd'
  have hi:i<vs.length:=by rw [<-Paired.length hv];exact hg.2
  obtain⟨⟨k,x⟩,hx'⟩:∃p,vs[i]? =some p:=⟨vs[i],by simp [hi]⟩
  obtain⟨⟨k',v'⟩,hx2,he,_⟩:=nX hv hx'
  have he':k'=k:=he
  subst he'
  obtain⟨f0,f1,f2,f3,f4,f5⟩:=hf it (by simp)
  rw [Paired.length hv] at st
  refine wpAny_pyNext_dict_item st dd hx' fun key h' hkey st' sb=> ?_
  have I1:Inv X pins σ H {s with heap:=h'}:=I.turned (t':=s.toks) (fun b o hb e=>(sb.2 b hb).trans e) f0 f1 f3 f4 f5
  obtain⟨o2,e,c,d⟩:=id st'
  rw [<-Paired.length hv] at st'
  exact⟨key,rfl,zo7 (s:={s with heap:=h'}) e c d (by decide) ⟨kV k',H,I1,xl4 hkey,⟨rfl,by rw [List.getElem?_map,hx2];rfl⟩,st',fun b hb=>(hf b hb).1⟩⟩
 done:=by
  intro X hP hw hK hc i pins s σ H E I hf st hg
  subst hP hw hK
  obtain⟨sm,z,vs,es',ep',hv,hd',dd⟩:=zO I hg.1
  rw [hd] at hd'
  cases hd'
  have hi:vs.length<=i:=by rw [<-Paired.length hv];exact hg.2
  obtain⟨f0,f1,f2,f3,f4,f5⟩:=hf it (by simp)
  rw [Paired.length hv] at st
  exact wpAny_pyNext_dict_end (I.ok.hd hc) st dd (List.getElem?_eq_none hi) fun h' eb=>⟨rfl,I.turned (t':=s.toks) (fun b o hb e=>eb b o hb e) f0 f1 f3 f4 f5⟩
 self:=fun _ _ _ _ _ st h=>wpAny_pyIter_keyiter st h
def cI:D->Option (List D)
 | .dic false ks _=>some (ks.map yl2)
 |_=>none
def uV(f:tz2):tz3:=fun ps=>(f ps).bind cI
theorem xm1{K:tz0}{κ:tz9}{H:Hp}{a:Addr}{o:Obj}{kvs:List (Key×V)}(h:H a=some (.frz o (.dK kvs))):Walk K κ (Itf a o kvs) [] H ((kvs.map (·.1)).map yl2) where
 go:=fun H' k i d e=>by
  rw [List.map_map,List.getElem?_map] at e
  obtain⟨kv,hkv,e⟩:=Option.map_eq_some_iff.mp e
  refine⟨⟨k a _ h (.inl rfl),(List.getElem?_eq_some_iff.mp hkv).1⟩,fun y H2 ⟨hy1,hy2⟩=>⟨hy1,?_⟩⟩
  rw [List.getElem?_map,hkv] at hy2
  cases hy2
  rw [<-e]
  exact yz7 kv.1
 stop:=fun H' k=>⟨k a _ h (.inl rfl),by rw [List.length_map,List.length_map];exact Nat.le_refl _⟩
theorem zh4{X:Cx}{κ:tz9}{tg e:Expr}{f:tz2}(h:QP X κ e f):QIP X κ tg e (uV f):=⟨by
 rintro pins s σ H R I ⟨ps,l,w,e,q⟩
 obtain⟨d,e1,e2⟩:=bind_some e
 unfold cI at e2
 split at e2
 ·cases e2
  refine thn (h pins s σ H (fun x H1=>SameK H H1/\∃fp,Rep X.K κ H1 x _ fp) I ⟨ps,_,w,e1,fun v H' fv s1 _ _ r=>⟨s1,fv,r⟩⟩) fun v s1 ⟨x,H1,I1,r1,sm,fp,rp⟩=> ?_
  obtain⟨a,o,kvs,rfl,ha,hk,_⟩:=rp.dicF_inv
  subst hk
  cases r1
  obtain⟨hsm,z,vs,es,ep,hv,hd,dd⟩:=zO I1 ha
  refine wpAny_pyIter_dict hsm dd ?_
  refine⟨s1.heap.objs.size,[s1.heap.objs.size],_,_,H1,rfl,I1.kept (t':=s1.toks) fun b o e=>Heap.get?_push_of_some _ e,xm0 (kvs:=kvs) (a:=a) hd,⟨_,Heap.get?_push_size _ rfl,rfl,by rw [Paired.length hv];rfl⟩,fun b hb=> ?_,q _ H1 [] sm (fun _ h=>absurd h (by simp)) (xm1 ha)⟩
  have e:b=s1.heap.objs.size:=by simpa using hb
  subst e
  exact I1.fpOk (Nat.le_refl _) (I1.hok.fresh (Nat.le_refl _))
 ·cases e2⟩
theorem xa2(I:Inv X pins σ H s)(h:H a=some (.dK kvs)):∃ob,Inv X pins σ (upd H a (.frz ob (.dK kvs))) s:=by
 have ne:∀b,H b=none->b≠a:=fun b hb z=>by rw [z,h] at hb;cases hb
 have nt:∀b o,H b=some o->(∀ys,o≠ .dK ys)->b≠a:=fun b o hb ho z=>by
  rw [z,h] at hb
  cases hb
  exact ho _ rfl
 obtain⟨z0,sm,vs,hv,hd⟩:=(show dL X.prog X.w H s.heap a (.dK kvs) from I.hok a _ h)
 obtain⟨ep,ob,es,e0,_⟩:=hd.dictAt
 refine⟨ob,I.ok,I.os,I.bare,⟨I.base.keep,I.base.slot,fun b o h1 h2 h3=> ?_,I.base.there,fun b xs h1=> ?_,fun b o u h1=> ?_,fun b ps h1=> ?_⟩,I.loc,I.cell,?_,fun x c e=> ?_,fun p hp=> ?_,fun b o e=> ?_,I.len⟩
 ·have:=I.base.free b o h1 h2 h3
  rw [bF (ne b this)];exact this
 ·have:=I.base.tups b xs h1
  rw [bF (nt b _ this fun _ z=>by cases z)];exact this
 ·have:=I.base.frzs b o u h1
  rw [bF (nt b _ this fun _ z=>by cases z)];exact this
 ·obtain⟨more,this⟩:=I.base.tbls b ps h1
  exact⟨more,by rw [bF (nt b _ this fun _ z=>by cases z)];exact this⟩
 ·rw [bF (ne _ I.free)];exact I.free
 ·have:=I.freeC x c e
  rw [bF (ne _ this)];exact this
 ·obtain⟨p1,p2,p3⟩:=I.pin p hp
  exact⟨p1,by rw [bF (ne _ p2)];exact p2,p3⟩
 ·have st:∀{b o},dL X.prog X.w H s.heap b o->dL X.prog X.w (upd H a (.frz ob (.dK kvs))) s.heap b o:=fun x=>
   x.stay (fun _ _ _ q=>q) (fun b' hb=>by rw [bF (nt b' _ hb fun _ z=>by cases z)];exact hb) fun b' xs hb=>by rw [bF (nt b' _ hb fun _ z=>by cases z)];exact hb
  by_cases z:b=a
  ·subst z
   rw [cJ] at e
   cases e
   exact⟨e0,st (I.hok b _ h)⟩
  ·rw [bF z] at e
   exact st (I.hok b o e)
def yl5:D->Option D
 | .obj true C ns [x,.dic true ks ds]=>if x.imm=true/\D.imms ds=true then some (.obj false C ns [x,.dic false ks ds]) else none
 |_=>none
def lP(f:tz2):tz2:=fun ps=>(f ps).bind yl5
theorem yH{X:Cx}{κ:tz9}{e:Expr}{f:tz2}(h:QP X κ e f):QP X κ e (lP f):=⟨by
 intro pins s σ H Q I hh_
 obtain⟨ps,d,w,e,q⟩:=hh_
 obtain⟨d0,e1,e2⟩:=bind_some e
 unfold yl5 at e2
 split at e2
 ·rename_i C ns x ks ds
  obtain⟨⟨hx,hi⟩,e3⟩:=bV e2
  cases e3
  refine thn (h pins s σ H (fun y H1=>SameK H H1/\∃fv,(∀a∈fv,H a=none)/\fv.Nodup/\Rep X.K κ H1 y _ fv) I ⟨ps,_,w,e1,fun v H' fv s1 n1 nd1 r=>⟨s1,fv,n1,nd1,r⟩⟩) fun v s1 ⟨y,H1,I1,r1,sm,fv,n1,nd1,rp⟩=> ?_
  obtain⟨l,dx,fs,g,rfl,hl,hn,hs,rfl⟩:=rp.objT_inv
  obtain⟨v1,us,f1,g1,ev,k1,k2,rfl⟩:=hs.split
  obtain⟨v2,rfl,k3⟩:=k2.one_inv
  obtain⟨b,kvs,g2,rfl,hb,hk,k4,rfl⟩:=k3.dicT_inv
  have z1:=k1.imm hx
  subst z1
  have z2:=k4.imm hi
  subst z2
  rw [List.nil_append] at nd1 n1
  have hln:=n1 l List.mem_cons_self
  have hbn:=n1 b (List.mem_cons_of_mem _ List.mem_cons_self)
  have nbl:b≠l:=fun z=>(List.nodup_cons.mp nd1).1 (z▸List.mem_cons_self)
  obtain⟨ob,I2⟩:=xa2 I1 hb
  have hl2:upd H1 b (.frz ob (.dK kvs)) l=some (.ins (κ C) dx fs):=by rw [bF (Ne.symm nbl)];exact hl
  refine⟨.ref l,_,I2.freeze hl2,r1,q (.ref l) _ [] ⟨fun c o hc hk'=> ?_,fun c hc=> ?_⟩ (fun _ h=>absurd h (by simp)) List.nodup_nil (.objF cJ hn ?_)⟩
  ·rw [bF (fun z=>by rw [z,hln] at hc;cases hc),bF (fun z=>by rw [z,hbn] at hc;cases hc)]
   exact sm.keep c o hc hk'
  ·exact sm.grow c (nY (nY hc))
  ·have mv:∀c o,H1 c=some o->tf o=true->upd (upd H1 b (.frz ob (.dK kvs))) l (.frz (PySem.W.instObj (κ C) dx) (.ins (κ C) dx fs)) c=some o:=fun c o hc ht=>by
    rw [bF (fun z=>by rw [z,hl] at hc;cases hc;cases ht),bF (fun z=>by rw [z,hb] at hc;cases hc;cases ht)];exact hc
   rw [ev]
   exact .cons (f:=[]) (g:=[]) (k1.move mv fun _ h=>absurd h (by simp)) (.one (.dicF (o:=ob) (by rw [bF nbl];exact cJ) hk (k4.move mv fun _ h=>absurd h (by simp))))
 ·cases e2⟩
theorem yd1:∀{vs:List Value} {ns:List Int},vs.length=ns.length->(∀(i:Nat) v n,vs[i]? =some v->ns[i]? =some n->∃t,v= .int n t)->IntsAre vs ns
 |[],[],_,_=> .nil
 |v::vs,n::ns,hl,h=>by
  obtain⟨t,rfl⟩:=h 0 v n rfl rfl
  exact .cons _ _ (yd1 (by simpa using hl) fun i v m h1 h2=>h (i+1) v m (by simpa using h1) (by simpa using h2))
 |[],_::_,hl,_=>by simp at hl
 |_::_,[],hl,_=>by simp at hl
theorem zl5:∀{vs:List Value} {ns:List Int},IntsAre vs ns->bG (ns.map V.int) vs
 |_,_,.nil=> .nil
 |_,_,.cons _ t h=> .cons ⟨t,rfl⟩ (zl5 h)
section
variable{prog:Program}{w:World}{A:Around}{E:Value->Shared->Prop}{s:Shared}
theorem zP{a:Addr}{vs:List (Key×Value)}{ep:Nat}{ns:List Int}{Q:Value->Shared->Prop}(hh:A.handled=none)(sm:(a==sysModules)=false)(dd:s.heap.DictAt (eC prog w) a vs ep)(hk:vs.map (·.1)=ns.map Sum.inl)(h64:vs.length<64)
  (hQ:∀(h1 h':Heap) (tk:Nat) (its:Array Value) (c:Nat),(∀b o,s.heap.get? b=some o->h1.get? b=some o)->(∀b o,h1.get? b=some o->h'.get? b=some o)->h'.get? h1.objs.size=some {cls:= .type "list",data:= .seq its c}->IntsAre its.toList (PySem.W.sortI ns)->Q (.ref h1.objs.size) {s with heap:=h',toks:=tk}):
  wpAny (model prog w) A (call (.builtin "sorted") [.ref a]) Q E s:=by
 have ln:ns.length=vs.length:=by have:=congrArg List.length hk;simpa using this.symm
 refine PySem.Calls.call_function_entry kind_sorted plain_sorted entry_sorted (args_sorted1 _) ?_
 unfold Builtin.«sorted»
 refine wpAny_bind (m:=checkCount "sorted" 1 1 _) (wpAny_pure ?_)
 refine wpAny_bind (PySem.W.kdu_collect (A:=A.in1) (PySem.W.kdl_dict (knd:=eC prog w) (kvs:=vs) (ep:=ep) sm) hh dd (by rw [sizeLine_eq];omega) fun h' tk acc hkk hacc=> ?_)
 have hl:acc.toList.length=vs.length:=by rw [Array.length_toList];exact hacc.1
 have hI:IntsAre acc.toList ns:=yd1 (by omega) fun i v n h1 h2=>by
  obtain⟨k,x,e1,e2⟩:=hacc.2 i v (by rw [<-Array.getElem?_toList];exact h1)
  have e3:(vs.map (·.1))[i]? =(ns.map (Sum.inl (β:=Str)))[i]? :=by rw [hk]
  rw [List.getElem?_map,List.getElem?_map,e1,h2] at e3
  have e4:k=Sum.inl n:=by simpa using e3
  subst e4
  exact Value.isInt_shape (k:=n) (v:=v) e2
 refine wpAny_bind (wpAny_newList ?_ (by rw [hl,sizeLine_eq];omega))
 have hoL:(h'.push (seqObj "list" acc.toList.toArray 0)).get? h'.objs.size=some (seqObj "list" acc.toList.toArray 0):=Heap.get?_push_size _ rfl
 refine wpAny_bind (wpAny_holding (wpAny_call_entry slot_list_sort ⟨_,hoL,rfl⟩ entry_list_sort (list_sort_tree hoL hI (by omega) fun out ns' a1 a2 a3=>⟨_,rfl,?_⟩) (args_list_sort _)))
 obtain⟨e,he⟩:=sortedHeap_at (vs:=acc.toList) (out:=out) hoL
 refine wpAny_pure ⟨_,rfl,hQ h' _ tk out e hkk (fun b o hb=> ?_) he (by rw [<-PySem.W.eq_sortI a2 a3];exact a1)⟩
 rw [sortedHeap_old (Nat.ne_of_lt (Heap.lt_size hb)) (by rw [size_push'];exact Nat.lt_succ_of_lt (Heap.lt_size hb))]
 exact Heap.get?_push_of_some _ hb
end
theorem zl6{K:tz0}{κ:tz9}{H:Hp}:∀ns:List Int,Paired (fun v d=>Rep K κ H v d []) (ns.map V.int) (ns.map D.int)
 |[]=> .nil
 |n::ns=> .cons (.int n) (zl6 ns)
def vW:List Key->Option (List Int)
 |[]=>some []
 | .inl i::ks=>(vW ks).map (i::·)
 | .inr _::_=>none
theorem zc3:∀{ks:List Key} {ns:List Int},vW ks=some ns->ks=ns.map Sum.inl
 |[],_,e=>by cases e;rfl
 | .inl i::ks,_,e=>by
  obtain⟨ns,e1,rfl⟩:=Option.map_eq_some_iff.mp e
  rw [List.map_cons,zc3 e1]
 | .inr _::_,_,e=>by cases e
def pH:tz6
 |[.dic _ ks _]=>(vW ks).bind fun ns=>if ns.length<64 then some (.lst true ((PySem.W.sortI ns).map .int)) else none
 |_=>none
theorem zt9{X:Cx}{κ:tz9}(hc:X.calm=true):CallR X (.builtin "sorted") (PCl X.K κ pH):=⟨by
 rintro pins s σ H vs us Q I r ⟨ds,fp,d,rs,e,q⟩
 unfold pH at e
 split at e
 ·obtain⟨ns,e1,e2⟩:=bind_some e
  obtain⟨h64,e3⟩:=bV e2
  cases e3
  obtain⟨v,rfl,r1⟩:=rs.one_inv
  obtain⟨a,kvs,g,rfl,ha,hk,_⟩:=r1.dic_inv
  obtain⟨u,rfl,ru⟩:=lK r
  cases ru
  subst hk
  have hns:=zc3 e1
  obtain⟨z,sm,vs,hv,hd⟩:=uX I.hok ha
  obtain⟨ep,dd⟩:=hd.dictAt
  have ln:ns.length=kvs.length:=by have:=congrArg List.length hns;simpa using this.symm
  have lv:=Paired.length hv
  refine zP (I.ok.hd hc) sm dd (hv.keys.symm.trans hns) (by omega) fun h1 h' tk its c k1 k2 ho hI=> ?_
  have I1:Inv X pins σ H {s with heap:=h1}:=I.kept (t':=s.toks) k1
  have hl:((PySem.W.sortI ns).map V.int).length<=sizeLine:=by
   rw [List.length_map,(PySem.W.sortI_perm ns).length_eq];exact Nat.le_of_lt (sI (by omega))
  have hp:H h1.objs.size=none:=I1.hok.fresh (Nat.le_refl _)
  refine⟨.ref _,_,I1.laid (t':=tk) (o:= .lst ((PySem.W.sortI ns).map V.int)) k2 (Nat.le_refl _) ⟨hl,its.toList,c,zl5 hI,by simpa using ho⟩,rfl,uH hp (zl6 _) q⟩
 ·cases e⟩
def Ite(K:tz0)(a:Addr):It:=
 ⟨fun i H=>∃xs x,SqL K H a xs/\xs[i]? =some x,fun i H x H'=>∃p v,H p=none/\x= .ref p/\H'=upd H p (.tup [.int i,v])/\∀xs,SqL K H a xs->xs[i]? =some v,fun i H=>∃xs,SqL K H a xs/\xs.length<=i⟩
theorem ya4{X:Cx}{pins:tzB}{σ:St}{H:Hp}{s:Shared}{h':Heap}{t':Nat}{e it:Addr}(I:Inv X pins σ H s)(k:∀b o,b≠e->b≠it->s.heap.get? b=some o->h'.get? b=some o)(he:nC X pins H e)(hi:nC X pins H it):Inv X pins σ H {s with heap:=h',toks:=t'}:=by
 have nn:∀b,(b∉[e,it])->b≠e/\b≠it:=fun b h=>⟨fun z=>h (by simp [z]),fun z=>h (by simp [z])⟩
 have nit:∀b u,H b=some u->b≠e/\b≠it:=fun b u q=>⟨fun z=>by(rw [z,he.1] at q;cases q),fun z=>by(rw [z,hi.1] at q;cases q)⟩
 refine I.step (g':=s.gens) (d':=s.drawn) (ch:=[e,it]) (fun b hb=> ?_) (fun b o _ _ hc q _=>k b o (nn b hc).1 (nn b hc).2 q) (fun b o _ _ hc q _=>⟨o.slots,k b o (nn b hc).1 (nn b hc).2 q⟩) (fun _ _ _ _ n=>n)
  (fun b o hc q=>⟨o,k b o (nn b hc).1 (nn b hc).2 q⟩) (fun _ _ e=>e) (fun _ _ _ e=>e) (fun b ps e=>⟨#[],by rw [e];simp⟩) (fun m hm=> ?_) (fun b u q=> ?_) I.bare
 ·rcases List.mem_cons.mp hb with z|z
  ·rw [z];exact⟨he.2.2.2.1,he.2.1,he.2.2.2.2.1,he.2.2.2.2.2⟩
  ·rw [List.mem_singleton.mp z];exact⟨hi.2.2.2.1,hi.2.1,hi.2.2.2.2.1,hi.2.2.2.2.2⟩
 ·obtain⟨o,es,ep,ho,r⟩:=hm
  exact⟨o,es,ep,k _ o (Ne.symm he.2.1) (Ne.symm hi.2.1) ho,r⟩
 ·refine(I.hok b u q).stay (fun c v hc q'=> ?_) (fun _ q=>q) fun _ _ q=>q
  rcases hc with z|z
  ·rw [z] at q'|-;exact k b v (nit b u q).1 (nit b u q).2 q'
  ·exact k c v (nit c _ z).1 (nit c _ z).2 q'
theorem xm2{P:Program}{w:World}{K:tz0}{elts:List Expr}{x1:Nat}{pos:Pos}(a e it:Addr)(hne:e≠it):Turn P w K (.Tuple elts x1 pos) (Ite K a) [e,it] e (fun i h=>(∃old,IsEnum h e it (i:Nat) old)/\h.IsListIter it a i) where
 mem:=by simp
 obj:=fun i h st b hb=>by
  obtain⟨⟨old,st1⟩,st2⟩:=st
  rcases List.mem_cons.mp hb with rfl|hb
  ·exact⟨_,st1,fun v z=>by
    have z':Data.fields _=Data.cell v:=z
    cases z'⟩
  ·have z:b=it:=by simpa using hb
   subst z
   obtain⟨o,q,c,d⟩:=st2
   exact⟨o,q,fun v z=>by rw [d] at z;cases z⟩
 keep:=fun i h h' st k=>⟨by obtain⟨⟨old,st1⟩,_⟩:=st;exact⟨old,k e (by simp) _ st1⟩,st.2.at fun o q=>k it (by simp) o q⟩
 item:=by
  intro X hP hw hK hc i pins s σ H E I hf st hg
  subst hP hw hK
  obtain⟨xs,x,hq,hx⟩:=hg
  obtain⟨its,rv,p,hz⟩:=I.list hq
  obtain⟨u,hu,ru⟩:=rv.get hx
  obtain⟨⟨old,st1⟩,st2⟩:=st
  refine wpAny_pyNext_enum_item st1 st2 p.isList (x:=u) (by simpa using hu) hne fun h' heo hit ht hsz hk=> ?_
  refine⟨_,rfl,wpAny_letOwnedTupleGo_enum heo fun h2 he2 hs2=> ?_⟩
  have hs2':Heap.SameBut e h' h2:=hs2
  have hes:e<s.heap.objs.size:=Heap.lt_size st1
  have ni:Heap.get? h2 s.heap.objs.size=some {cls:= .type "tuple",data:= .seq #[.int i s.toks,u]}:=(hs2'.2 _ (Nat.ne_of_gt hes)).trans ht
  have hp:H s.heap.objs.size=none:=I.hok.fresh (Nat.le_refl _)
  have kk:∀b o,b≠e->b≠it->s.heap.get? b=some o->h2.get? b=some o:=fun b o h3 h4 h5=>(hs2'.2 b h3).trans (hk b o h3 h4 h5)
  have hes2:it<s.heap.objs.size:=by obtain⟨o,q,_⟩:=st2;exact Heap.lt_size q
  have I0:Inv X pins σ (upd H s.heap.objs.size (.tup [.int i,x])) {s with heap:=s.heap.push {cls:= .type "tuple",data:= .seq #[.int i s.toks,u]}}:=
   I.laid (t':=s.toks) (fun b o q=>Heap.get?_push_of_some _ q) (Nat.le_refl _) ⟨Nat.le_of_lt (sI (by simp)),[.int i s.toks,u],.cons ⟨_,rfl⟩ (.cons ru .nil),⟨_,Heap.get?_push_size _ rfl,rfl,0,rfl⟩⟩
  have fo:∀b∈[e,it],nC X pins (upd H s.heap.objs.size (.tup [.int i,x])) b:=fun b hb=>by
   refine⟨?_,(hf b hb).2⟩
   rw [bF]
   ·exact(hf b hb).1
   ·rcases List.mem_cons.mp hb with z|z
    ·rw [z];exact Nat.ne_of_lt hes
    ·rw [List.mem_singleton.mp z];exact Nat.ne_of_lt hes2
  have I1:Inv X pins σ (upd H s.heap.objs.size (.tup [.int i,x])) {s with heap:=h2,toks:=s.toks+1}:=ya4 (s:={s with heap:=s.heap.push {cls:= .type "tuple",data:= .seq #[.int i s.toks,u]}}) (t':=s.toks+1) I0 (fun b o h3 h4 h5=>by
   rcases Heap.get?_push_cases h5 with ⟨rfl,rfl⟩|h5
   ·exact ni
   ·exact kk b o h3 h4 h5) (fo e (by simp)) (fo it (by simp))
  refine⟨.ref s.heap.objs.size,_,I1,rfl,⟨_,x,hp,rfl,rfl,fun ys hy=>by rw [I.list_inj hy hq];exact hx⟩,⟨⟨u,?_⟩,?_⟩,fun b hb=> ?_⟩
  ·have:((i+1:Nat):Int)=(i:Int)+1:=by push_cast;rfl
   rw [this];exact he2
  ·exact hit.at fun o q=>(hs2'.2 it (Ne.symm hne)).trans q
  ·exact(fo b hb).1
 done:=by
  intro X hP hw hK hc i pins s σ H E I hf st hg
  subst hP hw hK
  obtain⟨xs,hq,hx⟩:=hg
  obtain⟨its,rv,p,hz⟩:=I.list hq
  obtain⟨⟨old,st1⟩,st2⟩:=st
  obtain⟨f0,f1,f2,f3,f4,f5⟩:=hf it (by simp)
  have hl:=rv.length
  exact wpAny_pyNext_enum_end (I.ok.hd hc) st1 st2 p.isList (by simp;omega) fun h' eb=>⟨rfl,I.turned (t':=s.toks) (fun b o hb e=>eb b o hb e) f0 f1 f3 f4 f5⟩
 self:=fun _ _ _ _ _ st h=>by
  obtain⟨⟨old,st1⟩,_⟩:=st
  exact wpAny_pyIter_enum st1 h
structure WalkE(K:tz0)(κ:tz9)(J:It)(Z:List Addr)(H1:Hp)(ds:List D):Prop where
 go:∀H',qD Z H1 H'->∀(i:Nat) d,ds[i]? =some d->J.go i H'/\∀x H2,J.yld i H' x H2->SameK H' H2/\Rep K κ H2 x d []
 stop:∀H',qD Z H1 H'->J.stop ds.length H'
def lB:Nat->List D->List D
 |_,[]=>[]
 |n,d::ds=> .tup [.int n,d]::lB (n+1) ds
theorem zl7:∀{ds:List D} {n i:Nat} {d:D},(lB n ds)[i]? =some d->∃y,ds[i]? =some y/\d= .tup [.int ((n+i:Nat):Int),y]
 |[],_,_,_,h=>by simp [lB] at h
 |y::ds,n,0,d,h=>by
  rw [lB] at h
  exact⟨y,rfl,by simpa using h.symm⟩
 |y::ds,n,i+1,d,h=>by
  rw [lB,List.getElem?_cons_succ] at h
  obtain⟨z,h1,h2⟩:=zl7 h
  exact⟨z,by simpa using h1,by rw [h2,show n+1+i=n+(i+1) by omega]⟩
theorem zl8:∀(ds:List D) (n:Nat),(lB n ds).length=ds.length
 |[],_=>rfl
 |d::ds,n=>by rw [lB,List.length_cons,List.length_cons,zl8 ds]
theorem xm3{K:tz0}{κ:tz9}{H1:Hp}{a:Addr}{vs:List V}{ds:List D}{Z:List Addr}(h:Rd H1 a (.lst vs))(hz:H1 a=some (.lst vs)->a∈Z)(r:Paired (fun v d=>Rep K κ H1 v d []) vs ds):WalkE K κ (Ite K a) Z H1 (lB 0 ds) where
 go:=fun H' k i d e=>by
  obtain⟨y,e0,rfl⟩:=zl7 e
  obtain⟨x,e1,r1⟩:=nX r e0
  have sq:SqL K H' a vs:=k.sq h hz
  refine⟨⟨vs,x,sq,e1⟩,fun z H2 hy=> ?_⟩
  obtain⟨p,v,hp,rfl,rfl,hv⟩:=hy
  have e2:=hv vs sq
  rw [e1] at e2;cases e2
  have sm:SameK H' (upd H' p (.tup [.int i,x])):= .new hp _
  refine⟨sm,.tup (.inl (.inl cJ)) (.cons (f:=[]) (g:=[]) ?_ (.one ((k.rep r1).same sm)))⟩
  rw [Nat.zero_add];exact .int _
 stop:=fun H' k=>⟨vs,k.sq h hz,by rw [zl8,Paired.length r];exact Nat.le_refl _⟩
def zq2(f:tz2):tz3:=fun ps=>(f ps).bind fun d=>(yl3 d).map (lB 0)
section
variable{X:Cx}{κ:tz9}{φ:F0}{pos:Pos}{body:List Stmt}{f:tz1}
theorem yr3{φ:Fx}(R:RS φ H σ ps F)(hz:∀a∈Z,H a≠none/\∀i,a∉F i)(W:WalkE φ.K φ.κ J Z H ds)(hb:∀i∈is,φ.bor i=false/\φ.M i=false)
  (e:lG is f ds ps=some (fl,ps')) (q:vU φ E σ H F fl ps'):xy3 (fun v σ H Q=>xf0 φ.K is.length (uT is) v σ H Q\/xe4 φ.K is.length (uT is) v σ H Q) (tS φ f) E σ J H:=by
 refine⟨fun k m σ1 H1=>k<=ds.length/\m=ds.length-k/\∃ps1 F1,Stp φ σ H F σ1 H1 ps1 F1/\lG is f (ds.drop k) ps1=some (fl,ps'),⟨_,Nat.zero_le _,rfl,ps,F,.refl R,by rw [List.drop_zero];exact e⟩,?_⟩
 rintro k m σ1 H1 ⟨hk,rfl,ps1,F1,s1,e1⟩
 have kp:qD Z H H1:=s1.fr.kept R fun a ha=>(hz a ha).2
 by_cases hlt:k<ds.length
 ·right
  have ed:ds[k]? =some ds[k]:=List.getElem?_eq_getElem hlt
  obtain⟨hgo,hy⟩:=W.go H1 kp k _ ed
  rw [List.drop_eq_getElem_cons hlt,lG] at e1
  obtain⟨ys,e0,e1⟩:=bind_some e1
  obtain⟨hl,e1⟩:=bV e1
  obtain⟨⟨fl2,ps2⟩,e2,e3⟩:=bind_some e1
  refine⟨hgo,fun σ' H'=>∃F',Stp φ σ H F σ' H' ps2 F'/\lG is f (ds.drop (k+1)) ps2=some (fl,ps'),fun σ' H' ⟨F',s,e⟩=>⟨ds.length-(k+1),by omega,hlt,rfl,ps2,F',s,e⟩,fun x H' y=> ?_⟩
  obtain⟨sm,rx⟩:=hy x H' y
  rw [yr0 e0] at rx
  obtain⟨a,vs,rfl,h,hs⟩:=rx.tup_inv
  have ln:=hs.length
  have s0:=Stp.same s1.rs sm
  obtain⟨F2,s2⟩:=Stp.setN s1.rs s0 ⟨fun a ha=>absurd ha (by simp),List.nodup_nil,fun k a ha hg=>absurd hg (by simp)⟩ hs hb
  have s12:=s1.trans s2
  refine .inr ⟨a,vs,rfl,h,by omega,sL (by omega) ⟨_,F2,fl2,ps2,s2.rs,e2,?_⟩⟩
  cases fl2 with
  |nx=>exact fun σ' H' F' s=>⟨F',s12.trans s,e3⟩
  |ct=>exact fun σ' H' F' s=>⟨F',s12.trans s,e3⟩
  |bk=>cases e3;exact fun σ' H' F' s=>q σ' H' F' (s12.trans s)
  |ret d=>cases e3;exact fun v σ' H' F' fv s o r=>q v σ' H' F' fv (s12.trans s) (o.after s12) r
 ·left
  have ek:k=ds.length:=by omega
  subst ek
  rw [List.drop_length,lG] at e1
  cases e1
  exact⟨W.stop H1 kp,q _ _ F1 s1⟩
theorem xm4(is:List Nat){es:List Expr}{k:Nat}{l:Expr}{fl:tz2}{px p p2:Pos}(hp:PassesOwn (model X.prog X.w) X.A X.env X.xe)(hc:X.calm=true)(hg:Gl X "enumerate")(hm:X.mg "enumerate"=none)(hl:QP X κ l fl)(hgs:PGs X es (uT is))(hb:∀i∈is,φ.bor i=false/\φ.M i=false)
  (hbd:QSs X κ φ body f) (hn:(assignEach es X.env).length=is.length:=by rfl) (hst:(assignEach es X.env).findIdx? (·.1)=none:=by rfl) (hs1:starEach [l] X.env=(false,eval l X.env)::starEach [] X.env:=by rfl) (hs:∀x,foldedSetIterable (.Call (.Name "enumerate" p) [l] [] p2) X.env x=pure x:=by intro _;rfl):
  QS X κ φ (.For (.Tuple es k px) (.Call (.Name "enumerate" p) [l] [] p2) body [] pos) (zq1 is (zq2 fl) f):=by
 have hi:PI X (.Tuple es k px) (.Call (.Name "enumerate" p) [l] [] p2) (fun σ H R=>∃ps xs,WS X.K κ H σ ps/\fl ps=some (.lst true xs)/\D.imms xs=true/\∀J H1 Z,SameK H H1->(∀a∈Z,H a=none/\H1 a≠none)->WalkE X.K κ J Z H1 (lB 0 xs)->R J H1):=by
  constructor
  intro pins s σ H R I hh_
  obtain⟨ps,xs,w,e1,him,q⟩:=hh_
  refine wpAny_Call_Name_kw (wS I hg hm (u:= .type "enumerate") rfl ?_)
  refine PyProof.Rows.callWith_type1 ?_ hs1 rfl
  rw [hs1]
  refine Calls.spliced_cons (thn (hl pins s σ H (fun v H1=>SameK H H1/\∃fv,(∀a∈fv,H a=none)/\Rep X.K κ H1 v (.lst true xs) fv) I ⟨ps,_,w,e1,fun v H1 fv s1 n1 _ r1=>⟨s1,fv,n1,r1⟩⟩) fun u s1 hu=>Calls.spliced_nil ?_)
  obtain⟨v,H1,I1,r1,sm,fv,n1,rp⟩:=hu
  obtain⟨a,ws,g,rfl,ha,hws,rfl⟩:=rp.lstT_inv
  have eg:=hws.imm him
  subst eg
  cases r1
  obtain⟨its,rv,pl,hz⟩:=I1.list (.inl (.inl ha))
  refine call_enumerate_list pl.isList fun h' hE hI hsz hk=>wpAny_pyIter_enum hE ?_
  have I2:Inv X pins σ H1 {s1 with heap:=h'}:=I1.kept (t':=s1.toks) hk
  refine⟨s1.heap.objs.size+1,[s1.heap.objs.size+1,s1.heap.objs.size],_,_,H1,rfl,I2,xm2 a (s1.heap.objs.size+1) s1.heap.objs.size (Nat.succ_ne_self _),⟨⟨_,hE⟩,hI⟩,fun b hb=> ?_,q _ H1 [a] sm (fun b hb=> ?_) (xm3 (.inl ha) (fun _=>by simp) hws.nilp)⟩
  ·have hb2:s1.heap.objs.size<=b:=by
    rcases List.mem_cons.mp hb with z|z
    ·rw [z];exact Nat.le_succ _
    ·rw [List.mem_singleton.mp z];exact Nat.le_refl _
   exact I1.fpOk hb2 (I1.hok.fresh hb2)
  ·rw [List.mem_singleton.mp hb]
   exact⟨n1 a List.mem_cons_self,by rw [ha];simp⟩
 exact(zr5 hp hc hi (yq6 (n:=is.length) hc hgs hn hst) hbd hs).imp fun E σ H hh_=>by
  obtain⟨ps,F,fl',ps',R,e,q⟩:=hh_
  obtain⟨ds,e1,e2⟩:=bind_some e
  obtain⟨d,e4,e3⟩:=bind_some e1
  obtain⟨xs,e5,rfl⟩:=Option.map_eq_some_iff.mp e3
  obtain⟨rfl,him⟩:=yi1 e5
  refine⟨ps,_,R.ws,e4,him,fun J H1 Z s1 hz W=> ?_⟩
  have s:=Stp.same R s1
  exact yr3 s.rs (fun a ha=>⟨(hz a ha).2,fun j hj=>by obtain⟨o,h,_⟩:=R.own hj;rw [(hz a ha).1] at h;cases h⟩) W hb e2 (q.back s)
end
inductive LtS(A:Around)(s:Shared):List Value->List Value->Bool->Prop
 |nn:LtS A s [] [] false
 |nc {y:Value} {ys:List Value}:LtS A s [] (y::ys) true
 |cn {x:Value} {xs:List Value}:LtS A s (x::xs) [] false
 |eq {x y:Value} {xs ys:List Value} {c:Bool}:SeqAt.EqAt A s x y true->LtS A s xs ys c->LtS A s (x::xs) (y::ys) c
 |ne {x y:Value} {xs ys:List Value} {c:Bool}:SeqAt.EqAt A s x y false->(∀(prog:Program) (w:World) (E Q:Value->Shared->Prop),Q (.bool c) s->wpAny (model prog w) A (richCompare .Lt x y) Q E s)->LtS A s (x::xs) (y::ys) c
section
open PySem.SeqAt
open PySem.AutoSeq1 (wpAny_loadPart')
open PySem.MeetsSeq PySem.MeetsSeq2 PySem.MeetsSeq3
theorem yi3(l b:Addr)(items items2:Array Value)(n n2:Nat)(dd dd2:Option Addr)(sl sl2:Array (Option Value))(c:Bool):
  Meets (Builtin.«tuple.__lt__» ⟨[.ref l,.ref b],[]⟩)
   (fun A R s=>s.heap.get? l=some {cls:= .type "tuple",dict:=dd,data:= .seq items n,slots:=sl}/\s.heap.get? b=some {cls:= .type "tuple",dict:=dd2,data:= .seq items2 n2,slots:=sl2}/\
    LtS A.in1 s items.toList items2.toList c/\R (.ok (.ret (.bool c))) s):=
 .of_wp fun prog w A R s h=>by
  obtain⟨hp,g,d,tk,os⟩:=s;obtain⟨hl,hb,hL,h⟩:=h
  have f2:=AutoSeq1.sub_tuple_tuple
  wp_walk using wpAny_loadPart' hl,wpAny_loadPart' hb,wpAny_forIn_list _ (fun cE b s'=>b.1=none/\s'=⟨hp,g,d,tk,os⟩/\∃(vs ws:List Value),cE=vs.zip ws/\
   LtS A.in1 ⟨hp,g,d,tk,os⟩ vs ws c/\vs.length+items2.size=ws.length+items.size/\R (.ok (.ret (.bool c))) ⟨hp,g,d,tk,os⟩) _
  case turn=>
   rintro⟨y,x⟩ cE b s' ⟨hb',rfl,vs,ws,hz,hS,hlen,hR⟩
   cases hS with
   |nn=>rw [List.zip_nil_left] at hz;cases hz
   |nc=>rw [List.zip_nil_left] at hz;cases hz
   |cn=>rw [List.zip_nil_right] at hz;cases hz
   |eq he hS'=>
    rw [List.zip_cons_cons] at hz
    injection hz with hyx hrest
    injection hyx with hy hx
    subst hy hx
    simp only [List.length_cons] at hlen
    refine wpAny_bind (he prog w _ _ ?_)
    wp_walk
    exact⟨rfl,rfl,_,_,hrest,hS',by omega,hR⟩
   |ne he hlt=>
    rw [List.zip_cons_cons] at hz
    injection hz with hyx hrest
    injection hyx with hy hx
    subst hy hx
    refine wpAny_bind (he prog w _ _ ?_)
    have hri:=hlt prog w
    wp_walk using hri
    exact⟨_,rfl,by simpa using hR⟩
  case fin=>
   rintro⟨b1,b2⟩ s' ⟨hb',rfl,vs,ws,hz,hS,hlen,hR⟩
   simp only at hb'
   subst hb'
   have hv:c=decide (items.size<items2.size):=by
    cases hS with
    |nn=>simp only [List.length_nil] at hlen;exact(decide_eq_false (by omega)).symm
    |nc=>simp only [List.length_nil,List.length_cons] at hlen;exact(decide_eq_true (by omega)).symm
    |cn=>simp only [List.length_nil,List.length_cons] at hlen;exact(decide_eq_false (by omega)).symm
    |eq _ _=>rw [List.zip_cons_cons] at hz;cases hz
    |ne _ _=>rw [List.zip_cons_cons] at hz;cases hz
   rw [hv] at hR
   wp_walk
   exact⟨_,rfl,by simpa [Builtin.Tuple.tupleCompareSizes] using hR⟩
  case h=>
   exact⟨rfl,rfl,items.toList,items2.toList,rfl,hL,by simp;omega,h⟩
end
section
variable{prog:Program}{w:World}{A:Around}{E:Value->Shared->Prop}{s:Shared}
theorem xm5{l b:Addr}{items items2:Array Value}{c:Bool}{Q:Value->Shared->Prop}(hl:IsTup s.heap l items)(hb:IsTup s.heap b items2)(hS:LtS A.in1 s items.toList items2.toList c)
  (hu:A.units<cLine) (h:Q (.bool c) s):wpAny (model prog w) A (compareOp .Lt (.ref l) (.ref b)) Q E s:=by
 obtain⟨⟨cls,dd,data,sl⟩,ho,hc,n,hd⟩:=id hl
 obtain⟨⟨cls2,dd2,data2,sl2⟩,ho2,hc2,n2,hd2⟩:=id hb
 simp only at hc hd hc2 hd2
 subst hc hd hc2 hd2
 exact richCompare_meets_room (op:= .Lt) ⟨_,ho,rfl⟩ ⟨_,ho2,rfl⟩ PySem.F.slot_tuple_lt PySem.F.entry_tuple_lt (PySem.F.args_tuple_lt_2 _ _) (yi3 l b items items2 n n2 dd dd2 sl sl2 c)
  ⟨ho,ho2,hS,show Value.bool c≠Value.notImplemented/\Q (.bool c) s from⟨(fun x=>nomatch x),h⟩⟩ hu
end
def zy4:List (List Int)->List (List Int)->Bool
 |[],[]=>false
 |[],_::_=>true
 |_::_,[]=>false
 |x::xs,y::ys=>if x=y then zy4 xs ys else HT.lexLt x y
inductive TI2(s:Shared):List Value->List (List Int)->Prop
 |nil:TI2 s [] []
 |cons {a:Addr} {its:Array Value} {ns:List Int} {vs:List Value} {nss:List (List Int)}:IsTup s.heap a its->IntsAre its.toList ns->TI2 s vs nss->TI2 s (.ref a::vs) (ns::nss)
theorem zc4{h:Heap}:∀{vs:List Value} {ns:List Int},IntsAre vs ns->∃as,ReadsAll h vs (ns.map .int) as
 |_,_,.nil=>⟨_,.nil⟩
 |_,_,.cons i t hs=>by
  obtain⟨as,r⟩:=zc4 (h:=h) hs
  exact⟨_,.cons (.int i t) r⟩
theorem zl9{s:Shared}{a:Addr}{its:Array Value}{ns:List Int}(h:IsTup s.heap a its)(hi:IntsAre its.toList ns):∃as,Reads s.heap (.ref a) (.tuple (ns.map .int)) as:=by
 obtain⟨o,e,c,n,d⟩:=h
 obtain⟨as,r⟩:=zc4 (h:=s.heap) hi
 exact⟨_,.tuple e c d r⟩
theorem zE:∀ns ms:List Int,PyData.eqvAll (ns.map .int) (ms.map .int)=decide (ns=ms)
 |[],[]=>by simp [PyData.eqvAll]
 |[],_::_=>by simp [PyData.eqvAll]
 |_::_,[]=>by simp [PyData.eqvAll]
 |n::ns,m::ms=>by
  rw [List.map_cons,List.map_cons,PyData.eqvAll,zE ns ms,PyData.eqv]
  by_cases h:n=m<;>by_cases h2:ns=ms<;>simp [h,h2]
theorem xu2{A:Around}{s:Shared}(hu:A.units+8<cLine):∀{vs ws:List Value} {nss mss:List (List Int)},TI2 s vs nss->TI2 s ws mss->LtS A s vs ws (zy4 nss mss)
 |_,_,_,_,.nil,.nil=> .nn
 |_,_,_,_,.nil,.cons _ _ _=> .nc
 |_,_,_,_,.cons _ _ _,.nil=> .cn
 | _,_,_,_,.cons (ns:=ns) h1 i1 t1,.cons (ns:=ms) h2 i2 t2=>by
  obtain⟨as,r1⟩:=zl9 h1 i1
  obtain⟨bs,r2⟩:=zl9 h2 i2
  have e:=SeqAt.eqAt_reads _ _ A s _ _ as bs r1 r2 (by simp only [PyData.canLay0,canLayAll_ints]) (by simp only [PyData.canLay0,canLayAll_ints]) (by simp only [PyData.depth,depthAll_ints];omega)
  rw [PyData.eqv,zE] at e
  rw [zy4]
  by_cases z:ns=ms
  ·rw [decide_eq_true z] at e
   rw [if_pos z]
   exact .eq e (xu2 hu t1 t2)
  ·rw [decide_eq_false z] at e
   rw [if_neg z]
   exact .ne e fun prog w E Q q=>HT.lt_tupInts h1 h2 i1 i2 (by omega) q
def D.intss:List D->Option (List (List Int))
 |[]=>some []
 | .tup xs::ds=>(D.ints xs).bind fun ns=>(D.intss ds).map (ns::·)
 |_=>none
theorem zu0{X:Cx}{κ:tz9}{pins:tzB}{σ:St}{H:Hp}{s:Shared}(I:Inv X pins σ H s):∀{ds:List D} {vs:List V} {us:List Value} {nss:List (List Int)},Reps X.K κ H vs ds []->bG vs us->D.intss ds=some nss->TI2 s us nss
 |[],_,_,_,r,v,e=>by
  cases r;cases v;cases e
  exact .nil
 | d::ds,_,_,nss,r,v,e=>by
  obtain⟨v1,vs1,f,g,rfl,r1,r2,ef⟩:=r.split
  obtain⟨rfl,rfl⟩:=List.append_eq_nil_iff.mp ef.symm
  cases v with
  | cons ru rus=>
   cases d with
   |tup xs=>
    obtain⟨ns,e1,e2⟩:=bind_some (show(D.ints xs).bind _=some nss from e)
    obtain⟨mss,e3,rfl⟩:=Option.map_eq_some_iff.mp e2
    obtain⟨a,ws,rfl,h1,s1⟩:=r1.tup_inv
    rw [mF s1 e1] at h1
    cases ru
    obtain⟨its,rv,p,_⟩:=I.tuple h1
    exact .cons p (by simpa using uY rv) (zu0 I r2 rus e3)
   |_=>cases e
def zy5:D->D->Option D
 | .tup xs,.tup ys=>(D.intss xs).bind fun ns=>(D.intss ys).map fun ms=> .bl (zy4 ns ms)
 |_,_=>none
theorem wa6{X:Cx}{κ:tz9}(hu:X.A.units+64<cLine):OpR X (compareOp .Lt) (POp X.K κ zy5):=⟨by
 rintro pins s σ H x y v u Q I rx ry ⟨dx,dy,d,fx,fy,r1,r2,e,q⟩
 unfold zy5 at e
 split at e
 ·obtain⟨ns,e1,e⟩:=bind_some e
  obtain⟨ms,e2,e⟩:=Option.map_eq_some_iff.mp e
  subst e
  obtain⟨a,vs,rfl,h1,s1⟩:=r1.tup_inv
  obtain⟨b,us,rfl,h2,s2⟩:=r2.tup_inv
  cases rx
  cases ry
  obtain⟨its,rv,p1,_⟩:=I.tuple h1
  obtain⟨its2,rv2,p2,_⟩:=I.tuple h2
  refine xm5 p1 p2 (xu2 (by show X.A.units+1+8<cLine;omega) (zu0 I s1 rv e1) (zu0 I s2 rv2 e2)) (by omega) ⟨.bl _,H,I,rfl,q.now (.bl _)⟩
 ·cases e⟩
def tY:List Int->Option Int
 |[]=>none
 |n::ns=>match tY ns with
  |none=>some n
  |some m=>some (if m<=n then n else m)
theorem yd2:∀{ns:List Int} {k:Int},tY ns=some k->k∈ns/\∀n∈ns,n<=k
 |[],k,h=>by cases h
 | n::ns,k,h=>by
  rw [tY] at h
  cases e:tY ns with
  | none=>
   rw [e] at h
   cases h
   cases ns with
   |nil=>simp
   |cons m ms=>
    rw [tY] at e
    cases e2:tY ms<;>rw [e2] at e<;>cases e
  | some m=>
   rw [e] at h
   obtain⟨h1,h2⟩:=yd2 e
   have h3:(if m<=n then n else m)=k:=by simpa using h
   by_cases c:m<=n
   ·rw [if_pos c] at h3
    subst h3
    exact⟨by simp,fun x hx=>(List.mem_cons.mp hx).elim (fun z=>by omega) fun z=>by have:=h2 x z;omega⟩
   ·rw [if_neg c] at h3
    subst h3
    exact⟨by simp [h1],fun x hx=>(List.mem_cons.mp hx).elim (fun z=>by omega) fun z=>h2 x z⟩
def zq3:tz6
 |[.lst _ xs]=>(D.ints xs).bind fun ns=>(tY ns).map .int
 |_=>none
theorem xu3{X:Cx}{κ:tz9}(hc:X.calm=true):CallR X (.builtin "max") (PCl X.K κ zq3):=⟨by
 rintro pins s σ H vs us Q I r ⟨ds,fp,d,rs,e,q⟩
 unfold zq3 at e
 split at e
 ·obtain⟨ns,e1,e2⟩:=bind_some e
  obtain⟨k,e3,rfl⟩:=Option.map_eq_some_iff.mp e2
  obtain⟨v,rfl,r1⟩:=rs.one_inv
  obtain⟨a,ws,g,rfl,h,hs,_⟩:=r1.lst_inv
  rw [mF hs e1] at h
  obtain⟨h1,h2⟩:=yd2 e3
  refine yp1 hc pins s σ H _ us Q I r ⟨a,ns,rfl,.inl h,List.length_pos_of_mem h1,fun m hm hx=> ?_⟩
  have em:m=k:=by have:=h2 m hm;have:=hx k h1;omega
  rw [em]
  exact q.now (.int _)
 ·cases e⟩
def xy6(C:Addr)(m:Str)(sp:Sp)(dvs:List V)(E:XK)(ta:TE)(t:TA):TE:=fun σ H Q=>ta σ H fun x H1=>∃a dx fs,x= .ref a/\Rd H1 a (.ins C dx fs)/\fs.lookup m=none/\
 t σ H1 fun vs H2=>sp (x::(vs++dvs)) H2 Q E
section
variable{X:Cx}{κ:tz9}{o e:Expr}{es:List Expr}{m qual:Str}{st:Stmt}{ps:List Str}{f:Addr}{fd:FuncData}{k np:Nat}{apos pos p:Pos}{pl:Sem Bool}
theorem xa3{C:Addr}{CX:CXT}{sp:Sp}{E:XK}{ds:List Value}{dvs:List V}{ta:TE}{t:TA}(he:PE X o ta)(c:Cls X.K C)(hm:Meth X.K C m f)(F:FnOk X.prog X.w X.K X.mg X.base CX k f fd ps sp)(hr:Room k X.A)(hb:jX X.K fd ps ds)(hd:bG dvs ds)(hx:pG CX X E)(ha:PA X (e::es) t)
  (hst:starEach (e::es) X.env=(false,eval e X.env)::starEach es X.env:=by rfl) (hpl:(backTo pos (starEach es X.env)).any (·.1)=false:=by rfl)
  (ht:eval (.Call (.Attribute o m apos) (e::es) [] pos) X.env=(do
   let ov<-eval o X.env
   standAt apos.atName
   let (f,first)<-holding [ov] (getMethod ov m pl)
   callWith pos f first (backTo pos (starEach (e::es) X.env)) (backToKw pos (keywordEach [] X.env))):=by rfl):
  PE X (.Call (.Attribute o m apos) (e::es) [] pos) (xy6 C m sp dvs E ta t):=⟨by
 intro pins s σ H Q I h
 refine PySem.W.methodCall_KW (pl:=pl) (thn (he pins s σ H _ I h) fun u s1 ⟨x,H1,I1,rx,a,dx,fs,ex,ea,l,q⟩=> ?_) ht
 subst ex
 obtain rfl:u=Value.ref a:=rx
 refine yh9 I1 ea c hm l ?_
 refine PySem.W.callWith_K (first:=[.ref a]) (h₀:=X.base) I.ok.mod.kin hm.kp (thn (ha pos pins s1 σ H1 _ I1 q) fun us s2 ⟨vs,H2,I2,r,q2⟩=>⟨I2.kIn,?_⟩) hst hpl
 exact zb0 (us:= .ref a::us) (vs:= .ref a::vs) F hr hb hd hx I2 (.cons rfl r) q2⟩
def yQ(C m:Str):D->Option D
 | .obj false C' ns vs=>if (C'=C/\cN ns m=none) then some (.obj false C' ns vs) else none
 |_=>none
def pI(C m:Str)(fo:tz2):tz2:=fun ps=>(fo ps).bind (yQ C m)
theorem yi4(h:yQ C m x=some d):∃ns vs,x=d/\d= .obj false C ns vs/\cN ns m=none:=by
 unfold yQ at h
 split at h
 ·obtain⟨⟨hC,hn⟩,e3⟩:=bV h
  subst hC;cases e3
  exact⟨_,_,rfl,rfl,hn⟩
 ·cases h
theorem zu1{C:Str}{h:tz6}{fo:tz2}{g:tz3}(M:Mn X.K κ C m qual st ps f fd)(G:FnOk X.prog X.w X.K X.mg X.base CX0 k f fd ps (SpP np X.K κ h))(hr:Room k X.A)(ho:QV X κ o fo)(hnp:(e::es).length+1=np)(ha:QVA X κ (e::es) g)(hlen:∀ps ds,g ps=some ds->ds.length=(e::es).length)
  (hst:starEach (e::es) X.env=(false,eval e X.env)::starEach es X.env:=by rfl) (hpl:(backTo pos (starEach es X.env)).any (·.1)=false:=by rfl)
  (ht:eval (.Call (.Attribute o m apos) (e::es) [] pos) X.env=(do
   let ov<-eval o X.env
   standAt apos.atName
   let (f,first)<-holding [ov] (getMethod ov m pl)
   callWith pos f first (backTo pos (starEach (e::es) X.env)) (backToKw pos (keywordEach [] X.env))):=by rfl):
  QP X κ (.Call (.Attribute o m apos) (e::es) [] pos) (aJ h (aB (pI C m fo) g)):=(xa3 ho M.c M.h G hr M.b .nil zb4 ha hst hpl ht).imp fun σ H Q hh_=>by
 obtain⟨ps,d,w,e,q⟩:=hh_
 obtain⟨ds,e1,e2⟩:=bind_some e
 obtain⟨x,k1,k2⟩:=bind_some e1
 obtain⟨ds',k3,k4⟩:=bind_some k2
 cases k4
 obtain⟨y,k0,k1⟩:=bind_some k1
 obtain⟨ns,vs,rfl,rfl,k6⟩:=yi4 k1
 refine⟨ps,_,w,k0,fun v H1 fp s1 r1=> ?_⟩
 have r1':=r1
 obtain⟨_,_,_,_,rfl,hl,hn,hs,_⟩:=r1.obj_inv
 subst hn
 refine⟨_,_,_,rfl,hl,tR k6,ps,ds',w.same s1,k3,fun us H2 fq s2 r2=> ?_⟩
 show SpP np X.K κ h (_::(us++[])) H2 Q E0
 rw [List.append_nil]
 exact⟨by rw [List.length_cons,r2.length,hlen ps ds' k3,hnp],_,_,d,.cons (r1'.same s2) r2,e2,q.after (s1.trans s2)⟩
end
def yl6:D->D->D->Option D
 | .dic _ ks ds,y,z=>y.key.bind fun k=>some ((iR ks ds k).getD z)
 |_,_,_=>none
def yR(fa fb fc:tz2):tz2:=fun ps=>(fa ps).bind fun x=>(fb ps).bind fun y=>(fc ps).bind fun z=>yl6 x y z
theorem xm6{K:tz0}{κ:tz9}{H:Hp}{kvs:List (Key×V)}{ks:List Key}{ds:List D}{g fz:List Addr}{k:Key}{z:D}{u:V}(e:kvs.map (·.1)=ks)(r:Reps K κ H (kvs.map (·.2)) ds g)(rz:Rep K κ H u z fz):∃f,Rep K κ H ((jS kvs k).getD u) ((iR ks ds k).getD z) f:=by
 have h:=oN (k:=k) e r
 cases hg:iR ks ds k with
 |none=>
  rw [hg] at h
  cases hv:jS kvs k with
  |none=>exact⟨fz,rz⟩
  |some v=>rw [hv] at h;cases h
 |some d=>
  obtain⟨v,f,q1,q2,q3⟩:=zN e r hg
  rw [q1]
  exact⟨f,q2⟩
section
variable{X:Cx}{κ:tz9}{a b c:Expr}{fa fb fc:tz2}{apos cpos:Pos}
theorem xm7(hu:X.A.units+1<cLine)(ha:QV X κ a fa)(hb:QV X κ b fb)(hc:QV X κ c fc)(m:M2 X a "get" apos b c cpos:=by exact⟨rfl,rfl,rfl,rfl⟩):QV X κ (.Call (.Attribute a "get" apos) [b,c] [] cpos) (yR fa fb fc):=
 (yy6 hu ha hb hc m).imp fun σ H Q hh_=>by
  obtain⟨ps,d,w,e,q⟩:=hh_
  obtain⟨x,e1,e⟩:=bind_some e
  obtain⟨y,e2,e⟩:=bind_some e
  obtain⟨z,e3,e⟩:=bind_some e
  unfold yl6 at e
  split at e
  ·obtain⟨k,e4,e5⟩:=bind_some e
   cases e5
   refine⟨ps,_,w,e1,fun v H1 fp s1 r1=> ?_⟩
   obtain⟨l,kvs,g,rfl,h,hk,hs,_⟩:=r1.dic_inv
   refine⟨l,rfl,.inl ⟨kvs,h⟩,ps,y,w.same s1,e2,fun u H2 fq s2 r2=>⟨ps,z,(w.same s1).same s2,e3,fun t H3 ft s3 r3=> ?_⟩⟩
   have r1':=(r1.same s2).same s3
   obtain⟨l',kvs',g',hl,h',hk',hs',_⟩:=r1'.dic_inv
   cases hl
   obtain⟨f,hf⟩:=xm6 (k:=k) hk' hs' r3
   exact⟨jS kvs' k,.inl ⟨kvs',k,h',yF (r2.same s3) e4,rfl⟩,q _ H3 f ((s1.trans s2).trans s3) hf⟩
  ·cases e
end
section
variable{prog:Program}{w:World}{A:Around}{E:Value->Shared->Prop}
def xh9(h0 h:Heap):Prop:=∀b o,h0.get? b=some o->h.get? b=some o
theorem TI2.keep{s s':Shared}(k:xh9 s.heap s'.heap):∀{vs:List Value} {n:List (List Int)},TI2 s vs n->TI2 s' vs n
 |_,_,.nil=> .nil
 |_,_,.cons (a:=a) h1 h2 h3=> .cons (let ⟨o,e,r⟩:=h1;⟨o,k a o e,r⟩) h2 (TI2.keep k h3)
def xf3(s:Shared)(v:Value)(n:List (List Int)):Prop:=∃a its,v= .ref a/\IsTup s.heap a its/\TI2 s its.toList n
theorem xf3.keep{s s':Shared}{v:Value}{n:List (List Int)}(k:xh9 s.heap s'.heap)(h:xf3 s v n):xf3 s' v n:=by
 obtain⟨a,its,rfl,h1,h2⟩:=h
 exact⟨a,its,rfl,let ⟨o,e,r⟩:=h1;⟨o,k a o e,r⟩,h2.keep k⟩
end
end L2
namespace L3
open PySem PySem.Spec PyProof.Rows L2
def top(i:Nat):Stmt:=PySem.Challenge.pw_linepress_k20_one_piece_more.main.body.getD i (.Pass ⟨0,0,0,0⟩)
end L3
namespace My
open PySem PySem.Spec PyProof.Rows L2 L3
variable{P:Program}{w:World}{K:tz0}{mg:tzA}{base:Heap}{κ:tz9}
theorem cL{N ps:List Str}{sc:Scope}(a:sc.kind= .function:=by rfl)(b:sc.isCoroutine=false:=by rfl)(c:sc.isGenerator=false:=by rfl)(d:N.Nodup:=by decide+kernel)(e:N.take ps.length=ps:=by rfl)(f:∀x∈ps,sc.names.lookup x=some .local\/sc.names.lookup x=some .cell:=by decide+kernel)(g:∀y∈sc.names,y.2≠ .free:=by decide+kernel):FnScope N ps sc:=⟨a,b,c,d,e,f,g⟩
inductive Leaf where
 |word (x:Str)|gap (x:Str)|stop (c:Int)|fin
inductive Tk where
 |leaf (l:Leaf)|opn|cls|hng (n:Int)|bck|eit|orr|don
inductive Pc where
 |leaf (l:Leaf)|group (r:List Pc)|hang (n:Int) (r:List Pc)|either (rs:List (List Pc))
mutual
def dE:Pc->List Tk
 | .leaf l=>[.leaf l]
 | .group r=> .opn::(toksR r++[.cls])
 | .hang n r=> .hng n::(toksR r++[.bck])
 | .either rs=> .eit::(toksRows rs++[.don])
def toksR:List Pc->List Tk
 |[]=>[]
 |p::r=>dE p++toksR r
def toksRows:List (List Pc)->List Tk
 |[]=>[]
 |r::rs=>toksR r++toksMore rs
def toksMore:List (List Pc)->List Tk
 |[]=>[]
 |r::rs=> .orr::(toksR r++toksMore rs)
end
theorem mY:∀r s:List Pc,toksR (r++s)=toksR r++toksR s
 |[],s=>rfl
 |p::r,s=>by
  show dE p++toksR (r++s)=(dE p++toksR r)++toksR s
  rw [mY r s,List.append_assoc]
theorem yr4(p:Pc):toksR [p]=dE p:=by
 show dE p++[]=dE p
 rw [List.append_nil]
def xi0:List (List Pc)->List Tk
 |[]=>[]
 |r::rs=>toksR r++ .orr::xi0 rs
structure Fm where
 op:Option Tk
 full:List (List Pc)
 parts:List Pc
def opT:Option Tk->List Tk
 |none=>[]
 |some t=>[t]
def flat:List Fm->List Tk
 |[]=>[]
 |f::fs=>flat fs++(opT f.op++(xi0 f.full++toksR f.parts))
def put(f:Fm)(p:Pc):Fm:={f with parts:=f.parts++[p]}
def step:List Fm->Tk->Option (List Fm)
 |f::fs,.leaf l=>some (put f (.leaf l)::fs)
 |fs,.opn=>some (⟨some .opn,[],[]⟩::fs)
 |fs,.hng n=>some (⟨some (.hng n),[],[]⟩::fs)
 |fs,.eit=>some (⟨some .eit,[],[]⟩::fs)
 |⟨some .eit,full,parts⟩::fs,.orr=>some (⟨some .eit,full++[parts],[]⟩::fs)
 |⟨some .opn,_,parts⟩::g::fs,.cls=>some (put g (.group parts)::fs)
 |⟨some (.hng n),_,parts⟩::g::fs,.bck=>some (put g (.hang n parts)::fs)
 |⟨some .eit,full,parts⟩::g::fs,.don=>if full=[] then none else some (put g (.either (full++[parts]))::fs)
 |_,_=>none
def Fm.ok(f:Fm):Prop:=f.op≠some .eit->f.full=[]
def run(fs:List Fm):List Tk->Option (List Fm)
 |[]=>some fs
 |t::ts=>(step fs t).bind fun fs'=>run fs' ts
mutual
def eD:Pc->Nat
 | .leaf _=>0
 | .group r=>depR r+1
 | .hang _ r=>depR r+1
 | .either rs=>depRs rs+1
def depR:List Pc->Nat
 |[]=>0
 |p::r=>max (eD p) (depR r)
def depRs:List (List Pc)->Nat
 |[]=>0
 |r::rs=>max (depR r) (depRs rs)
end
theorem sM:∀(r:List Pc) (p:Pc),depR (r++[p])=max (depR r) (eD p)
 |[],p=>by
  exact Nat.max_comm (eD p) 0
 |q::r,p=>by
  show max (eD q) (depR (r++[p]))=max (max (eD q) (depR r)) (eD p)
  rw [sM r p,Nat.max_assoc]
theorem vD:∀(rs:List (List Pc)) (r:List Pc),depRs (rs++[r])=max (depRs rs) (depR r)
 |[],r=>by
  exact Nat.max_comm (depR r) 0
 |q::rs,r=>by
  show max (depR q) (depRs (rs++[r]))=max (max (depR q) (depRs rs)) (depR r)
  rw [vD rs r,Nat.max_assoc]
def yS(c:Nat):Bool:=decide (33<=c)&&decide (c<=126)
def zf0(z:Str):Prop:=1<=z.length/\z.length<=12/\z.cps.toList.all yS=true
def eE:Leaf->Prop
 | .word x=>zf0 x
 | .gap x=>x=""\/x=" "
 | .stop c=>0<=c/\c<=40
 | .fin=>True
end My
namespace My
open PySem PySem.Spec PyProof.Rows L2 L3
variable{P:Program}{w:World}{K:tz0}{mg:tzA}{base:Heap}{κ:tz9}
def pJ(ns:List Int)(k:Int):Int:=ns.getD (k % (ns.length:Int)).toNat 0
def zf1(ns:List Int)(k:Int):Int:=k/(if (ns.length:Int)>1 then(ns.length:Int) else 1)
def xy7(ns:List Int)(k salt:Int):Int:=PySem.Builtin.bitAnd (pJ ns k) 2147483647+1009*k*k+7919*salt*salt+12
def yT(ns:List Int)(k salt:Int):Int:=xy7 ns k salt*48271 % 2147483647
def xi1(ns:List Int)(k salt:Int):Int:=yT ns k salt*yT ns k salt % 2147483629
def vX(ns:List Int)(k salt:Int):Int:=PySem.Builtin.bitAnd (pJ ns k/2^(31*(salt+128*zf1 ns k)).toNat+xi1 ns k salt) 2147483647
theorem ya5(ns:List Int)(k salt:Int):0<=vX ns k salt/\vX ns k salt<2147483648:=by
 have e:vX ns k salt=(pJ ns k/2^(31*(salt+128*zf1 ns k)).toNat+xi1 ns k salt) % 2147483648:=PySem.W.kbt_mask _ 31
 rw [e]
 exact⟨Int.emod_nonneg _ (by decide),Int.emod_lt_of_pos _ (by decide)⟩
def zy6(K:tz0):Sp:=fun vs H Q _=>∃(a:Addr) (ns:List Int) (k:Int),vs=[.ref a,.int k]/\SqL K H a (ns.map V.int)/\Q (.int (pJ ns k)) H
def yf6(K:tz0):Sp:=fun vs H Q _=>∃(a:Addr) (ns:List Int) (k salt:Int),vs=[.ref a,.int k,.int salt]/\SqL K H a (ns.map V.int)/\ns.length<=63/\(0<=k/\k<1000000)/\(0<=salt/\salt<1000000)/\Q (.int (vX ns k salt)) H
abbrev kM:Stmt:=top 27
abbrev rY:List Str:=["_law_script","_law_k"]
theorem xB:FnScope ["_law_script","_law_k"] rY (aX kM):=cL
theorem zu2{n:Nat}{f:Addr}{fd:FuncData}(D:Dn K mg "_law_cell_at" kM ["_law_script","_law_k"] f fd)(ac:mg "len"=none):
  FnOk P w K mg base CX0 (n+1) f fd ["_law_script","_law_k"] (zy6 K):=by
 refine D.F.ok xB (fun vs H Q E h=> ?_) (fun cdv A outer s H vs Q E hr h=> ?_)
 ·obtain⟨a,ns,k,rfl,_⟩:=h
  rfl
 obtain⟨a,ns,k,rfl,hS,q⟩:=h
 refine⟨_,(lW (xg0 (yb5 yg0 (rD iV rfl ac boot_len (fM (pv 0) mS)) gW (bR _)) (yB (wT gW)) ya9)
  (yB (wT (zo8 zg5 (pv 0) (fR za8 (pv 1) (rD iV rfl ac boot_len (fM (pv 0) mS))) (fun _ _=>rfl))))),?_⟩
 have hl:(ns.map V.int).length=ns.length:=List.length_map _
 refine⟨_,rfl,a,_,rfl,.inl hS,rfl,_,rfl,?_⟩
 refine wd8 (fun c=> ?_) (fun c=> ?_)
 ·have e:(((ns.map V.int).length:Nat):Int)=0:=by simpa using c
  have e':ns=[]:=by
   rw [hl] at e
   exact List.eq_nil_of_length_eq_zero (by omega)
  subst e'
  exact q
 ·have e:¬(((ns.map V.int).length:Nat):Int)=0:=by simpa using c
  rw [hl] at e
  have hp:(0:Int)<((ns.map V.int).length:Nat):=by rw [hl];omega
  refine⟨_,rfl,_,rfl,_,rfl,a,_,rfl,.inl hS,_,_,rfl,rfl,hp,a,_,_,_,rfl,rfl,hS,?_,q⟩
  rw [hl]
  have h0:=Int.emod_nonneg k e
  have h1:=Int.emod_lt_of_pos k (show(0:Int)<ns.length by omega)
  have ek:k % (ns.length:Int)=(((k % (ns.length:Int)).toNat:Nat):Int):=by omega
  rw [ek]
  refine zg4 ?_
  rw [List.getElem?_map,List.getElem?_eq_getElem (by omega)]
  unfold pJ
  rw [List.getD_eq_getElem?_getD,List.getElem?_eq_getElem (by omega)]
  rfl
abbrev jI:Stmt:=top 28
abbrev gS:List Str:=["_law_script","_law_k","_law_salt"]
theorem jG:FnScope ["_law_script","_law_k","_law_salt","_law_cell","_law_lap","_law_near"] gS (aX jI):=cL
theorem yi5{n:Nat}{f f1:Addr}{fd fd1:FuncData}(D:Dn K mg "_law_mixed" jI ["_law_script","_law_k","_law_salt"] f fd)(cf:Dn K mg "_law_cell_at" kM ["_law_script","_law_k"] f1 fd1)
  (dw:FnOk P w K mg base CX0 n f1 fd1 ["_law_script","_law_k"] (zy6 K)) (ac:mg "len"=none) (jv:mg "max"=none):
  FnOk P w K mg base CX0 (n+1) f fd ["_law_script","_law_k","_law_salt"] (yf6 K):=by
 refine D.F.ok jG (fun vs H Q E h=> ?_) (fun cdv A outer s H vs Q E hr h=> ?_)
 ·obtain⟨a,ns,k,salt,rfl,_⟩:=h
  rfl
 obtain⟨a,ns,k,salt,rfl,hS,h63,⟨hk0,hk1⟩,⟨hs0,hs1⟩,q⟩:=h
 refine⟨_,(lW (uC (i:=3) jG.nd rfl (.inl rfl) (yh3 cf dw hr rfl (fM (pv 0) (fM (pv 1) mS))))
  (lW (uC (i:=4) jG.nd rfl (.inl rfl) (fR yb0 (pv 1) (rD (zj4 rfl) rfl jv boot_max (fM gW (fM (rD iV rfl ac boot_len (fM (pv 0) mS)) mS)))))
  (lW (uC (i:=5) jG.nd rfl (.inl rfl) (fR uD (fR uD (fR uD (fR yn1 (pv 3) gW) (fR mR (fR mR gW (pv 1)) (pv 1))) (fR mR (fR mR gW (pv 2)) (pv 2))) gW))
  (lW (uC (i:=5) jG.nd rfl (.inl rfl) (fR za8 (fR mR (pv 5) gW) gW))
  (lW (uC (i:=5) jG.nd rfl (.inl rfl) (fR za8 (fR mR (pv 5) (pv 5)) gW))
  (yB (wT (fR yn1 (fR uD (fR xr0 (pv 3) (fR mR gW (fR uD (pv 2) (fR mR gW (pv 4))))) (pv 5)) gW)))))))),?_⟩
 have hl:(ns.map V.int).length=ns.length:=List.length_map _
 have hlap:0<=zf1 ns k:=by unfold zf1;exact Int.ediv_nonneg hk0 (by split<;>omega)
 have hn1:0<=yT ns k salt/\yT ns k salt<2147483647:=⟨Int.emod_nonneg _ (by decide),Int.emod_lt_of_pos _ (by decide)⟩
 refine⟨_,rfl,_,rfl,a,ns,k,rfl,hS,?_⟩
 refine⟨_,rfl,_,rfl,a,_,rfl,.inl hS,_,_,rfl,_,_,rfl,rfl,?_,?_⟩
 ·rw [hl];constructor
  ·split<;>omega
  ·split<;>omega
 rw [hl]
 refine⟨_,rfl,_,_,rfl,rfl,_,rfl,_,_,rfl,rfl,.inl ⟨by decide,by decide⟩,_,rfl,_,_,rfl,rfl,.inr ⟨by omega,by omega⟩,_,_,rfl,rfl,_,rfl,_,_,rfl,rfl,.inl ⟨by decide,by decide⟩,_,rfl,_,_,rfl,rfl,.inr ⟨by omega,by omega⟩,_,_,rfl,rfl,_,_,rfl,rfl,?_⟩
 refine⟨_,rfl,_,_,rfl,rfl,.inr ⟨by decide,by decide⟩,_,_,rfl,rfl,(by show(0:Int)<2147483647;decide),?_⟩
 refine⟨_,rfl,_,rfl,_,_,rfl,rfl,.inl ⟨by show-(2^64)<yT ns k salt;omega,by show yT ns k salt<2^64;omega⟩,_,_,rfl,rfl,(by show(0:Int)<2147483629;decide),?_⟩
 refine⟨_,rfl,_,rfl,_,rfl,_,_,rfl,rfl,.inl ⟨by decide,by decide⟩,_,_,rfl,rfl,_,_,rfl,rfl,.inl ⟨by decide,by decide⟩,_,_,rfl,rfl,?_,_,rfl,_,_,rfl,rfl,_,_,rfl,rfl,q⟩
 show 0<=31*(salt+128*zf1 ns k)
 omega
end My
namespace L3
open PySem PySem.Spec PyProof.Rows L2 My
variable{P:Program}{w:World}{K:tz0}{mg:tzA}{base:Heap}{κ:tz9}
def rZ(bf:(tz7)):tz1:=
 (cA (aH (lE (eT "Place" (cK [.im (fC (.bl true)),.im (fC (.int 0))]) bf))))
abbrev jJ:Stmt:=top 3
abbrev hV:List Str:=[]
theorem rM:FnScope [] hV (aX jJ):=cL
theorem zQ(bj:Dn K mg "first_place" jJ hV f fd)
  (c8:Kn K mg κ "Place" "Place.__init__" st_Place_init ps_Place_init f7 d7) (b5:FnOk P w K mg base CX0 n f7 d7 ps_Place_init (SpE 3 K κ (bQ [true,false,false]) bf)):
  FnOk P w K mg base CX0 ((n+1)+1) f fd hV (SpP 0 K κ (gP 0 0 (rZ bf))):=
 cO bj.F rM fun cdv A outer s H E B hr=>
 (aN (bM (QP.e (zc2 (mH c8 b5 hr rfl (bK (QP.v jW) (bK (QP.v aF) dC)) rfl rfl (eB 2))))))
def sY:tz1:=
 (cA (aH (f2 dIn (f2 dIx (aA 0) (fC (.int 0))) (fC (.tup [(.str "group"),(.str "hang"),(.str "either")])))))
abbrev kA:Stmt:=top 4
abbrev iL:List Str:=["piece"]
theorem sN:FnScope ["piece"] iL (aX kA):=cL
theorem zc5(b4:Dn K mg "holds_rows" kA iL f fd)
  (j9:mg "HOLDERS"=some (.ref ic)) (ka:∀H,Rep K κ H (.ref ic) (.tup [(.str "group"),(.str "hang"),(.str "either")]) []):
  FnOk P w K mg base CX0 (n+1) f fd iL (SpP 1 K κ (gP 1 0 (sY))):=
 cO b4.F sN fun cdv A outer s H E B hr=>
 (aN (bM (QP.e (uF we0 (bB (aC 0) (QP.v aF)) (QP.v (xk6 (v:= .ref ic) (d:=(.tup [(.str "group"),(.str "hang"),(.str "either")])) rfl j9 rfl ka)) (by with_unfolding_all rfl)))))
def qI:tz1:=
 (cA (aH (fOr (f2 dEq (f2 dIx (aA 0) (fC (.int 0))) (fC (.str "either"))) (xP (f2 dEq (f2 dIx (aA 0) (fC (.int 0))) (fC (.str "group"))) (aQ (cU "Place" "broken" (aA 1)))))))
abbrev iT:Stmt:=top 5
abbrev gN:List Str:=["piece","place"]
theorem qH:FnScope ["piece","place"] gN (aX iT):=cL
theorem yY(a9:Dn K mg "takes_choice" iT gN f fd)
  (am:Cls K (κ "Place"))
  (av:cY K (κ "Place") "broken"):
  FnOk P w K mg base CX0 (n+1) f fd gN (SpP 2 K κ (gP 2 0 (qI))):=
 cO a9.F qH fun cdv A outer s H E B hr=>
 (aN (bM (QP.e (wa2 (uF (fW (Room.units hr)) (bB (aC 0) (QP.v aF)) (QP.v bY) (bR _)) (yp6 (xt5 (uF (fW (Room.units hr)) (bB (aC 0) (QP.v aF)) (QP.v bY) (bR _)) (yp6 (QV.p (dS (C:="Place") am av (aC 1))))))))))
def kN(bf:(tz7)):tz1:=
 (aU (aT 2 (aH (aQ (f2 dIx (aA 0) (fC (.int 0))))))
 (aU (fIf (aW (fB (f2 dEq (aA 2) (fC (.str "hang")))))
  (cA (aH (cT (aB (bN (aB (aQ (f2 dIx (aA 0) (fC (.int 2)))) (aB (lE (eT "Place" (cK [.im (cU "Place" "broken" (aA 1)),.im (f2 bP (cU "Place" "margin" (aA 1)) (f2 dIx (aA 0) (fC (.int 1))))]) bf)) aE))) aE))))
  bO)
 (aU (fIf (aW (fB (f2 dEq (aA 2) (fC (.str "either")))))
  (cA (aH (gR [none,some 1] (eL (f2 dIx (aA 0) (fC (.int 1)))) gI (bN (aB (aQ (aA 0)) (aB (aQ (aA 1)) aE))))))
  bO)
 (aU (aT 3 (aH (bN (aB (aQ (f2 dIx (aA 0) (fC (.int 1)))) (aB (lE (eT "Place" (cK [.im (fC (.bl false)),.im (cU "Place" "margin" (aA 1))]) bf)) aE)))))
 (aU (fIf (aW (fT (cU "Place" "broken" (aA 1))))
  (cA (aH (cT (aB (aQ (aA 3)) (aB (bN (aB (aQ (f2 dIx (aA 0) (fC (.int 1)))) (aB (aQ (aA 1)) aE))) aE)))))
  bO)
 (cA (aH (cT (aB (aQ (aA 3)) aE)))))))))
abbrev pK:Stmt:=top 6
abbrev pL:List Str:=["piece","place"]
theorem sO:FnScope ["piece","place","kind","on_one_line"] pL (aX pK):=cL
theorem yr5(gu:Dn K mg "ways" pK pL f fd)
  (c8:Kn K mg κ "Place" "Place.__init__" st_Place_init ps_Place_init f7 d7) (b5:FnOk P w K mg base CX0 n f7 d7 ps_Place_init (SpE 3 K κ (bQ [true,false,false]) bf))
  (am:Cls K (κ "Place"))
  (av:cY K (κ "Place") "broken")
  (bx:cY K (κ "Place") "margin"):
  FnOk P w K mg base CX0 ((n+1)+1) f fd pL (SpP 2 K κ (gP 2 2 (kN bf))):=
 cO gu.F sO fun cdv A outer s H E B hr=>
 (aL (bH 2 sO.nd rfl (by first|exact Or.inl rfl|exact Or.inr rfl) rfl rfl (QP.e (QV.p (bB (aC 0) (QP.v aF)))))
 (aL (cG (QT.e (cF (fW (Room.units hr)) (aC 2) (QP.v bY) (bR _)))
  (aN (bM (QP.e (dR (aK (cP (aK (QV.p (bB (aC 0) (QP.v aF))) (aK (zc2 (mH c8 b5 hr rfl (bK (dS (C:="Place") am av (aC 1)) (bK (QP.v (bD dJ (dS (C:="Place") am bx (aC 1)) (bB (aC 0) (QP.v aF)))) dC)) rfl rfl (eB 2))) bC))) bC)))))
  cB)
 (aL (cG (QT.e (cF (fW (Room.units hr)) (aC 2) (QP.v bY) (bR _)))
  (aN (bM (QP.e (qX (sc:=aX pK) (NX:=["piece","place","kind","on_one_line"]) (N:=["row","place"]) (pick:=[none,some 1]) ⟨rfl,by decide+kernel,by decide+kernel,by decide+kernel,by decide+kernel,by decide,rfl⟩ rfl rfl rfl (uI (bB (aC 0) (QP.v aF))) (fun _ _ _ _=>(eN (i:=0) (show(["row","place"]:List Str).Nodup by decide) rfl (by first|exact Or.inl rfl|exact Or.inr rfl))) (fun _ _ _ _=>qW) (fun _ _ _ _=>(cP (aK (QV.p (aC 0)) (aK (QV.p (aC 1)) bC))))))))
  cB)
 (aL (bH 3 sO.nd rfl (by first|exact Or.inl rfl|exact Or.inr rfl) rfl rfl (QP.e (cP (aK (QV.p (bB (aC 0) (QP.v aF))) (aK (zc2 (mH c8 b5 hr rfl (bK (QP.v jW) (bK (dS (C:="Place") am bx (aC 1)) dC)) rfl rfl (eB 2))) bC)))))
 (aL (cG (QT.e (gL (dS (C:="Place") am av (aC 1))))
  (aN (bM (QP.e (dR (aK (QV.p (aC 3)) (aK (cP (aK (QV.p (bB (aC 0) (QP.v aF))) (aK (QV.p (aC 1)) bC))) bC))))))
  cB)
 (aN (bM (QP.e (dR (aK (QV.p (aC 3)) bC))))))))))
def wO:tz1:=
 (cA (aH (f2 bP (fC (.str "\n")) (f2 gA (fC (.str " ")) (aA 0)))))
abbrev lQ:Stmt:=top 7
abbrev jO:List Str:=["blanks"]
theorem wJ:FnScope ["blanks"] jO (aX lQ):=cL
theorem zo2(b6:Dn K mg "new_line" lQ jO f fd)
     :
  FnOk P w K mg base CX0 (n+1) f fd jO (SpP 1 K κ (gP 1 0 (wO))):=
 cO b6.F wJ fun cdv A outer s H E B hr=>
 (aN (bM (QP.e (bD dJ (QP.v bY) (QP.v (bD qL (QP.v bY) (aC 0)))))))
def nJ(f8:(tz6)):tz1:=
 (aU (aT 3 (aH (aQ (f2 dIx (aA 0) (fC (.int 0))))))
 (aU (fIf (aW (fB (f2 dEq (aA 3) (fC (.str "word")))))
  (cA (aH (aQ (f2 dIx (aA 0) (fC (.int 1))))))
  bO)
 (aU (fIf (aW (dN (fB (f2 dEq (aA 3) (fC (.str "gap")))) (iS (fT (cU "Place" "broken" (aA 1))))))
  (cA (aH (aQ (f2 dIx (aA 0) (fC (.int 1))))))
  bO)
 (aU (fIf (aW (dN (fB (f2 dEq (aA 3) (fC (.str "stop")))) (fB (f2 dLe (aA 2) (f2 dIx (aA 0) (fC (.int 1)))))))
  (cA (aH (f2 gA (fC (.str " ")) (f2 iY (f2 dIx (aA 0) (fC (.int 1))) (aA 2)))))
  bO)
 (aU (fIf (aW (iS (fT (cU "Place" "broken" (aA 1)))))
  (cA (aH (fC .non)))
  bO)
 (aU (fIf (aW (fB (f2 dEq (aA 3) (fC (.str "stop")))))
  (cA (aH (aJ f8 (aB (f2 dIx (aA 0) (fC (.int 1))) aE))))
  bO)
 (cA (aH (aJ f8 (aB (cU "Place" "margin" (aA 1)) aE))))))))))
abbrev nK:Stmt:=top 8
abbrev kO:List Str:=["piece","place","column"]
theorem rN:FnScope ["piece","place","column","kind"] kO (aX nK):=cL
theorem zu3(c9:Dn K mg "writing" nK kO f fd)
  (b6:Dn K mg "new_line" lQ jO kb j6) (f9:FnOk P w K mg base CX0 n kb j6 jO (SpP 1 K κ f8))
  (am:Cls K (κ "Place"))
  (av:cY K (κ "Place") "broken")
  (bx:cY K (κ "Place") "margin"):
  FnOk P w K mg base CX0 (n+1) f fd kO (SpP 3 K κ (gP 3 1 (nJ f8))):=
 cO c9.F rN fun cdv A outer s H E B hr=>
 (aL (bH 3 rN.nd rfl (.inl rfl) rfl rfl (QP.e (QV.p (bB (aC 0) (QP.v aF)))))
 (aL (cG (QT.e (cF (fW (Room.units hr)) (aC 3) (QP.v bY) (bR _)))
  (aN (bM (QP.e (QV.p (bB (aC 0) (QP.v aF))))))
  cB)
 (aL (cG (QT.e (rH (lF (cF (fW (Room.units hr)) (aC 3) (QP.v bY) (bR _)) (kT (uG (gL (dS (C:="Place") am av (aC 1))))))))
  (aN (bM (QP.e (QV.p (bB (aC 0) (QP.v aF))))))
  cB)
 (aL (cG (QT.e (rH (lF (cF (fW (Room.units hr)) (aC 3) (QP.v bY) (bR _)) (kT (cF zs4 (aC 2) (bB (aC 0) (QP.v aF)) (bR _))))))
  (aN (bM (QP.e (bD qL (QP.v bY) (QP.v (bD mV (bB (aC 0) (QP.v aF)) (aC 2)))))))
  cB)
 (aL (cG (QT.e (uG (gL (dS (C:="Place") am av (aC 1)))))
  (aN (bM (QP.e rG)))
  cB)
 (aL (cG (QT.e (cF (fW (Room.units hr)) (aC 3) (QP.v bY) (bR _)))
  (aN (bM (QP.e (cR b6 f9 hr rfl rfl (aG (bB (aC 0) (QP.v aF)) aS) (aO bS)))))
  cB)
 (aN (bM (QP.e (cR b6 f9 hr rfl rfl (aG (dS (C:="Place") am bx (aC 1)) aS) (aO bS)))))))))))
def oH:tz1:=
 (cA (aH (fMt oP (aA 0) (aB (fC (.str "\n")) aE))))
abbrev jA:Stmt:=top 9
abbrev fQ:List Str:=["wrote"]
theorem uL:FnScope ["wrote"] fQ (aX jA):=cL
theorem zh5(ax:Dn K mg "ends_line" jA fQ f fd)
     :
  FnOk P w K mg base CX0 (n+1) f fd fQ (SpP 1 K κ (gP 1 0 (oH))):=
 cO ax.F uL fun cdv A outer s H E B hr=>
 (aN (bM (QP.e (zp0 PySem.F.slot_str_startswith PySem.F.type_str_startswith zt6 (aC 0) (aG (QP.v bY) aS)))))
def gC(bu:(tz6)):tz1:=
 (aU (fIf (aW (fT (aJ bu (aB (aA 1) aE))))
  (cA (aH (f2 iY (aJ cZ (aB (aA 1) aE)) (fC (.int 1)))))
  bO)
 (cA (aH (f2 bP (aA 0) (aJ cZ (aB (aA 1) aE))))))
abbrev iM:Stmt:=top 10
abbrev gD:List Str:=["column","wrote"]
theorem oZ:FnScope ["column","wrote"] gD (aX iM):=cL
theorem xC(az:Dn K mg "column_behind" iM gD f fd)
  (ax:Dn K mg "ends_line" jA fQ d8 dh) (b8:FnOk P w K mg base CX0 n d8 dh fQ (SpP 1 K κ bu))
  (ac:mg "len"=none):
  FnOk P w K mg base CX0 (n+1) f fd gD (SpP 2 K κ (gP 2 0 (gC bu))):=
 cO az.F oZ fun cdv A outer s H E B hr=>
 (aL (cG (QT.e (gL (QP.v (cR ax b8 hr rfl rfl (aG (aC 1) aS) (aO bS)))))
  (aN (bM (QP.e (bD mV (QP.v (cS iH rfl ac boot_len (aG (aC 1) aS))) (QP.v aF)))))
  cB)
 (aN (bM (QP.e (bD dJ (aC 0) (QP.v (cS iH rfl ac boot_len (aG (aC 1) aS))))))))
def sA(ae:(tz7))(ag:(tz7)):tz1:=
 (aU (aT 2 (aH (eT "Front" (cK [.im (cU "Front" "steps" (aA 0))]) ae)))
 (aU (fJ 3 (uV (aQ (cU "Front" "best" (aA 0))))
  (aU (aT 4 (aH (aQ (f2 eQ (cU "Front" "best" (aA 0)) (aA 3)))))
 (cM (dI 2 bU (cK [.im (aA 3),.im (bN (aB (aQ (f2 dIx (aA 4) (fC (.int 0)))) (aB (f2 bP (f2 dIx (aA 4) (fC (.int 1))) (bN (aB (aQ (aA 1)) aE))) aE)))]) (iK "Front" "add" ag)))))
 (sT 2)))
abbrev jK:Stmt:=top 13
abbrev hX:List Str:=["front","number"]
theorem gY:FnScope ["front","number","chosen","state","way"] hX (aX jK):=cL
theorem zR(bn:Dn K mg "with_choice" jK hX f fd)
  (ba:Kn K mg κ "Front" "Front.__init__" st_Front_init ps_Front_init bg a8) (ak:FnOk P w K mg base CX0 n bg a8 ps_Front_init (SpE 2 K κ (bQ [true,false]) ae))
  (ah:Mn K κ "Front" "add" "Front.add" st_Front_add ps_Front_add bz bi) (aq:FnOk P w K mg base CX0 (n+1) bz bi ps_Front_add (SpE 3 K κ (bQ [true,false,false]) ag))
  (aa:Cls K (κ "Front"))
  (ai:cY K (κ "Front") "best")
  (bb:cY K (κ "Front") "steps"):
  FnOk P w K mg base CX0 ((n+1)+1) f fd hX (SpP 2 K κ (gP 2 3 (sA ae ag))):=
 cO bn.F gY fun cdv A outer s H E B hr=>
 (aL (bH 2 gY.nd rfl (.inl rfl) rfl rfl (QP.e (mH ba ak hr rfl (bK (dS (C:="Front") aa bb (aC 0)) dC) rfl rfl (eB 1))))
 (aL (rJ 3 PassesOwn.never rfl gY.nd rfl (.inl rfl) rfl rfl (zh4 (QV.p (dS (C:="Front") aa ai (aC 0))))
  (aL (bH 4 gY.nd rfl (.inl rfl) rfl rfl (QP.e (QV.p (nZ (mT hr) (dS (C:="Front") aa ai (aC 0)) (aC 3)))))
 (aN (fE (uK ah aq hr rfl (cH 2) (bK (aC 3) (bK (QP.v (cP (aK (QV.p (bB (aC 4) (QP.v aF))) (aK (bD dJ (bB (aC 4) (QP.v aF)) (QP.v (cP (aK (QV.p (aC 1)) bC)))) bC)))) dC)) rfl rfl (eB 2))))))
 (aN (qV 2 rfl))))
def qJ(ae:(tz7))(bv:(tz6))(ag:(tz7)):tz1:=
 (aU (aT 3 (aH (eT "Front" (cK [.im (cU "Front" "steps" (aA 0))]) ae)))
 (aU (fJ 4 (uV (aQ (cU "Front" "best" (aA 0))))
  (aU (aT 5 (aH (aQ (f2 eQ (cU "Front" "best" (aA 0)) (aA 4)))))
 (aU (aT 6 (aH (aJ bv (aB (pI "WithinWidth" "state_behind" (cU "Front" "steps" (aA 0))) (aB (aA 4) (aB (f2 dIx (aA 5) (fC (.int 0))) (aB (aA 1) (aB (aA 2) aE))))))))
 (fIf (aW (fB (f2 xQ (aA 6) (fC .non))))
  (cM (dI 3 bU (cK [.im (f2 dIx (aA 6) (fC (.int 0))),.im (bN (aB (aQ (f2 dIx (aA 6) (fC (.int 1)))) (aB (aQ (f2 dIx (aA 5) (fC (.int 1)))) aE)))]) (iK "Front" "add" ag)))
  bO))))
 (sT 3)))
abbrev iU:Stmt:=top 14
abbrev gO:List Str:=["front","piece","place"]
theorem fF:FnScope ["front","piece","place","behind","state","way","reached"] gO (aX iU):=cL
theorem yZ(bc:Dn K mg "behind_plain" iU gO f fd)
  (ba:Kn K mg κ "Front" "Front.__init__" st_Front_init ps_Front_init bg a8) (ak:FnOk P w K mg base CX0 n bg a8 ps_Front_init (SpE 2 K κ (bQ [true,false]) ae))
  (af:Mn K κ "WithinWidth" "state_behind" "WithinWidth.state_behind" st_WithinWidth_state_behind ps_WithinWidth_state_behind c7 cq) (bw:FnOk P w K mg base CX0 (n+1) c7 cq ps_WithinWidth_state_behind (SpP 5 K κ bv))
  (ah:Mn K κ "Front" "add" "Front.add" st_Front_add ps_Front_add bz bi) (aq:FnOk P w K mg base CX0 (n+1) bz bi ps_Front_add (SpE 3 K κ (bQ [true,false,false]) ag))
  (aa:Cls K (κ "Front"))
  (ai:cY K (κ "Front") "best")
  (bb:cY K (κ "Front") "steps"):
  FnOk P w K mg base CX0 ((n+1)+1) f fd gO (SpP 3 K κ (gP 3 4 (qJ ae bv ag))):=
 cO bc.F fF fun cdv A outer s H E B hr=>
 (aL (bH 3 fF.nd rfl (.inl rfl) rfl rfl (QP.e (mH ba ak hr rfl (bK (dS (C:="Front") aa bb (aC 0)) dC) rfl rfl (eB 1))))
 (aL (rJ 4 PassesOwn.never rfl fF.nd rfl (.inl rfl) rfl rfl (zh4 (QV.p (dS (C:="Front") aa ai (aC 0))))
  (aL (bH 5 fF.nd rfl (.inl rfl) rfl rfl (QP.e (QV.p (nZ (mT hr) (dS (C:="Front") aa ai (aC 0)) (aC 4)))))
 (aL (bH 6 fF.nd rfl (.inl rfl) rfl rfl (QP.e (zu1 af bw hr (dS (C:="Front") aa bb (aC 0)) rfl (aG (aC 4) (aG (bB (aC 5) (QP.v aF)) (aG (aC 1) (aG (aC 2) aS)))) (aO (aO (aO (aO bS)))))))
 (aN (cG (QT.e (cF yc2 (aC 6) (QP.v rG) (bR _)))
  (aN (fE (uK ah aq hr rfl (cH 3) (bK (bB (aC 6) (QP.v aF)) (bK (QP.v (cP (aK (QV.p (bB (aC 6) (QP.v aF))) (aK (QV.p (bB (aC 5) (QP.v aF))) bC)))) dC)) rfl rfl (eB 2))))
  cB)))))
 (aN (qV 3 rfl))))
def pM(ae:(tz7))(k9:(tz6))(ee:(tz6))(gc:(tz6))(gf:(tz7))(bd:(tz6)):tz1:=
 (aU (aT 3 (aH (eT "Front" (cK [.im (cU "Front" "steps" (aA 0))]) ae)))
 (aU (zq1 [4,5] (zq2 (aJ k9 (aB (aA 1) (aB (aA 2) aE))))
  (aU (aT 6 (aH (aQ (aA 0))))
 (aU (fIf (aW (fT (aJ ee (aB (aA 1) (aB (aA 2) aE)))))
  (aT 6 (aH (lP (aJ gc (aB (aA 0) (aB (aA 4) aE))))))
  bO)
 (cM (dI 3 bU (cK [.im (aJ bd (aB (aA 6) (aB (f2 dIx (aA 5) (fC (.int 0))) (aB (f2 dIx (aA 5) (fC (.int 1))) aE))))]) (iK "Front" "add_all" gf))))))
 (sT 3)))
abbrev iN:Stmt:=top 15
abbrev gF:List Str:=["front","piece","place"]
theorem dY:FnScope ["front","piece","place","behind","number","way","chosen"] gF (aX iN):=cL
theorem xD(a6:Dn K mg "behind_holder" iN gF f fd)
  (ba:Kn K mg κ "Front" "Front.__init__" st_Front_init ps_Front_init bg a8) (ak:FnOk P w K mg base CX0 n bg a8 ps_Front_init (SpE 2 K κ (bQ [true,false]) ae))
  (gu:Dn K mg "ways" pK pL nj ml) (la:FnOk P w K mg base CX0 (n+1) nj ml pL (SpP 2 K κ k9))
  (a9:Dn K mg "takes_choice" iT gN i6 il) (eh:FnOk P w K mg base CX0 (n+1) i6 il gN (SpP 2 K κ ee))
  (bn:Dn K mg "with_choice" jK hX je i7) (gh:FnOk P w K mg base CX0 (n+1) je i7 hX (SpP 2 K κ gc))
  (bo:Mn K κ "Front" "add_all" "Front.add_all" st_Front_add_all ps_Front_add_all jf i8) (gi:FnOk P w K mg base CX0 (n+1) jf i8 ps_Front_add_all (SpE 2 K κ (bQ [true,false]) gf))
  (ar:Dn K mg "behind_row" st_p_behind_row ps_p_behind_row di dc) (ci:FnOk P w K mg base CX0 (n+1) di dc ps_p_behind_row (SpP 3 K κ bd))
  (aa:Cls K (κ "Front"))
  (bb:cY K (κ "Front") "steps")
  (jn:mg "enumerate"=none):
  FnOk P w K mg base CX0 ((n+1)+1) f fd gF (SpP 3 K κ (gP 3 4 (pM ae k9 ee gc gf bd))):=
 cO a6.F dY fun cdv A outer s H E B hr=>
 (aL (bH 3 dY.nd rfl (.inl rfl) rfl rfl (QP.e (mH ba ak hr rfl (bK (dS (C:="Front") aa bb (aC 0)) dC) rfl rfl (eB 1))))
 (aL (xm4 [4,5] PassesOwn.never rfl rfl jn (cR gu la hr rfl rfl (aG (aC 1) (aG (aC 2) aS)) (aO (aO bS))) (iP (eN (i:=4) dY.nd rfl (.inl rfl)) (iP (eN (i:=5) dY.nd rfl (.inl rfl)) zg0)) (fun j hj=>by simp only [List.mem_cons,List.not_mem_nil,or_false] at hj;rcases hj with rfl|rfl<;>exact⟨rfl,rfl⟩)
  (aL (bH 6 dY.nd rfl (.inl rfl) rfl rfl (QP.e (QV.p (aC 0))))
 (aL (cG (QT.e (gL (QP.v (cR a9 eh hr rfl rfl (aG (aC 1) (aG (aC 2) aS)) (aO (aO bS))))))
  (aN (bH 6 dY.nd rfl (.inl rfl) rfl rfl (QP.e (yH (cR bn gh hr rfl rfl (aG (aC 0) (aG (aC 4) aS)) (aO (aO bS)))))))
  cB)
 (aN (fE (uK bo gi hr rfl (cH 3) (bK (QP.v (cR ar ci hr rfl rfl (aG (aC 6) (aG (bB (aC 5) (QP.v aF)) (aG (bB (aC 5) (QP.v aF)) aS))) (aO (aO (aO bS))))) dC) rfl rfl (eB 1)))))))
 (aN (qV 3 rfl))))
def nL(gv:(tz6))(dk:(tz6))(ej:(tz6)):tz1:=
 (aU (aT 3 (aH (aQ (aA 0))))
 (aU (fJ 4 (eL (aA 1))
  (fIf (aW (fT (aJ gv (aB (aA 4) aE))))
  (aT 3 (aH (lP (aJ dk (aB (aA 3) (aB (aA 4) (aB (aA 2) aE)))))))
  (aT 3 (aH (lP (aJ ej (aB (aA 3) (aB (aA 4) (aB (aA 2) aE)))))))))
 (sT 3)))
abbrev st_p_behind_row:Stmt:=top 16
abbrev ps_p_behind_row:List Str:=["front","row","place"]
theorem gH:FnScope ["front","row","place","behind","piece"] ps_p_behind_row (aX st_p_behind_row):=cL
theorem zc6(ar:Dn K mg "behind_row" st_p_behind_row ps_p_behind_row f fd)
  (b4:Dn K mg "holds_rows" kA iL jr jg) (gw:FnOk P w K mg base CX0 n jr jg iL (SpP 1 K κ gv))
  (a6:Dn K mg "behind_holder" iN gF ip ie) (kt:FnOk P w K mg base CX0 n ip ie gF (SpP 3 K κ dk))
  (bc:Dn K mg "behind_plain" iU gO i9 iq) (en:FnOk P w K mg base CX0 n i9 iq gO (SpP 3 K κ ej)):
  FnOk P w K mg base CX0 (n+1) f fd ps_p_behind_row (SpP 3 K κ (gP 3 2 (nL gv dk ej))):=
 cO ar.F gH fun cdv A outer s H E B hr=>
 (aL (bH 3 gH.nd rfl (.inl rfl) rfl rfl (QP.e (QV.p (aC 0))))
 (aL (zg9 4 1 PassesOwn.never rfl gH.nd rfl (.inl rfl) rfl rfl rfl
  (aN (cG (QT.e (gL (QP.v (cR b4 gw hr rfl rfl (aG (aC 4) aS) (aO bS)))))
  (aN (bH 3 gH.nd rfl (.inl rfl) rfl rfl (QP.e (yH (cR a6 kt hr rfl rfl (aG (aC 3) (aG (aC 4) (aG (aC 2) aS))) (aO (aO (aO bS))))))))
  (aN (bH 3 gH.nd rfl (.inl rfl) rfl rfl (QP.e (yH (cR bc en hr rfl rfl (aG (aC 3) (aG (aC 4) (aG (aC 2) aS))) (aO (aO (aO bS)))))))))))
 (aN (qV 3 rfl))))
def pN(bd:(tz6))(gj:(tz6)):tz1:=
 (cA (aH (aJ bd (aB (aA 0) (aB (aA 1) (aB (aJ gj aE) aE))))))
abbrev iO:Stmt:=top 17
abbrev gG:List Str:=["front","pieces"]
theorem pA:FnScope ["front","pieces"] gG (aX iO):=cL
theorem xE(a7:Dn K mg "behind_pieces" iO gG f fd)
  (ar:Dn K mg "behind_row" st_p_behind_row ps_p_behind_row di dc) (ci:FnOk P w K mg base CX0 n di dc ps_p_behind_row (SpP 3 K κ bd))
  (bj:Dn K mg "first_place" jJ hV jh ja) (gk:FnOk P w K mg base CX0 n jh ja hV (SpP 0 K κ gj)):
  FnOk P w K mg base CX0 (n+1) f fd gG (SpP 2 K κ (gP 2 0 (pN bd gj))):=
 cO a7.F pA fun cdv A outer s H E B hr=>
 (aN (bM (QP.e (cR ar ci hr rfl rfl (aG (aC 0) (aG (aC 1) (aG (QP.v (xt9 bj gk hr rfl)) aS))) (aO (aO (aO bS)))))))
def wP:tz1:=
 (cA (aH (fMt rW (aA 0) (aB (fC (.str "\n")) aE))))
abbrev jP:Stmt:=top 19
abbrev gJ:List Str:=["text"]
theorem wK:FnScope ["text"] gJ (aX jP):=cL
theorem zo3(ay:Dn K mg "lines_of" jP gJ f fd)
     :
  FnOk P w K mg base CX0 (n+1) f fd gJ (SpP 1 K κ (gP 1 0 (wP))):=
 cO ay.F wK fun cdv A outer s H E B hr=>
 (aN (bM (QP.e (zp0 PySem.F.slot_str_split PySem.F.type_str_split yc4 (aC 0) (aG (QP.v bY) aS)))))
def sZ(b7:(tz6)):tz1:=
 (cA (aH (aJ yk8 (aB (gR [none,some 1] (eL (aJ b7 (aB (aA 0) aE))) gI (f2 dLe (aJ cZ (aB (aA 0) aE)) (aA 1))) aE))))
abbrev pO:Stmt:=top 20
abbrev pP:List Str:=["text","width"]
theorem zm0:FnScope ["text","width"] pP (aX pO):=cL
theorem yr6(gx:Dn K mg "fits" pO pP f fd)
  (ay:Dn K mg "lines_of" jP gJ gl d9) (cj:FnOk P w K mg base CX0 n gl d9 gJ (SpP 1 K κ b7))
  (oq:mg "all"=none)
  (ac:mg "len"=none):
  FnOk P w K mg base CX0 (n+1) f fd pP (SpP 2 K κ (gP 2 0 (sZ b7))):=
 cO gx.F zm0 fun cdv A outer s H E B hr=>
 (aN (bM (QP.e (cS (wa4 rfl) rfl oq boot_all (aG (QP.v (qX (sc:=aX pO) (NX:=["text","width"]) (N:=["line","width"]) (pick:=[none,some 1]) ⟨rfl,by decide+kernel,by decide+kernel,by decide+kernel,by decide+kernel,by decide,rfl⟩ rfl rfl rfl (uI (QP.v (cR ay cj hr rfl rfl (aG (aC 0) aS) (aO bS)))) (fun _ _ _ _=>(eN (i:=0) (show(["line","width"]:List Str).Nodup by decide) rfl (by first|exact Or.inl rfl|exact Or.inr rfl))) (fun _ _ _ _=>qW) (fun _ _ _ _=>(uF zs4 (QP.v (cS iH rfl ac boot_len (aG (aC 0) aS))) (aC 1) (bR _))))) aS)))))
def vY(lb:(tz6))(b7:(tz6)):tz1:=
 (aU (fIf (aW (iS (fT (aJ lb (aB (aA 0) (aB (aA 1) aE))))))
  (cA (aH (fC .non)))
  bO)
 (aU (aT 2 (aH (aJ b7 (aB (aA 0) aE))))
 (aU (aT 3 (aH (aJ yk9 (aB (gR [none,some 1] (eL (fSl (aA 2) iG (lN (fH (fC (.int 1)))))) gI (f2 gA (f2 iY (aA 1) (aJ cZ (aB (aA 0) aE))) (f2 iY (aA 1) (aJ cZ (aB (aA 0) aE))))) aE))))
 (cA (aH (bN (aB (aJ cZ (aB (aA 2) aE)) (aB (aQ (aA 3)) aE))))))))
abbrev nM:Stmt:=top 21
abbrev nN:List Str:=["text","width"]
theorem qN:FnScope ["text","width","lines","rag"] nN (aX nM):=cL
theorem yi6(ff:Dn K mg "price" nM nN f fd)
  (gx:Dn K mg "fits" pO pP nk mm) (lc:FnOk P w K mg base CX0 n nk mm pP (SpP 2 K κ lb))
  (ay:Dn K mg "lines_of" jP gJ gl d9) (cj:FnOk P w K mg base CX0 n gl d9 gJ (SpP 1 K κ b7))
  (ot:mg "sum"=none)
  (ac:mg "len"=none):
  FnOk P w K mg base CX0 (n+1) f fd nN (SpP 2 K κ (gP 2 2 (vY lb b7))):=
 cO ff.F qN fun cdv A outer s H E B hr=>
 (aL (cG (QT.e (uG (gL (QP.v (cR gx lc hr rfl rfl (aG (aC 0) (aG (aC 1) aS)) (aO (aO bS)))))))
  (aN (bM (QP.e rG)))
  cB)
 (aL (bH 2 qN.nd rfl (by first|exact Or.inl rfl|exact Or.inr rfl) rfl rfl (QP.e (cR ay cj hr rfl rfl (aG (aC 0) aS) (aO bS))))
 (aL (bH 3 qN.nd rfl (by first|exact Or.inl rfl|exact Or.inr rfl) rfl rfl (QP.e (cS (wa5 rfl) rfl ot boot_sum (aG (QP.v (qX (sc:=aX nM) (NX:=["text","width","lines","rag"]) (N:=["line","width"]) (pick:=[none,some 1]) ⟨rfl,by decide+kernel,by decide+kernel,by decide+kernel,by decide+kernel,by decide,rfl⟩ rfl rfl rfl (uI (QP.v (yz1 (aC 2) xl0 (xl1 (QP.v (oX (QP.v aF))))))) (fun _ _ _ _=>(eN (i:=0) (show(["line","width"]:List Str).Nodup by decide) rfl (by first|exact Or.inl rfl|exact Or.inr rfl))) (fun _ _ _ _=>qW) (fun _ _ _ _=>(bD qL (QP.v (bD mV (aC 1) (QP.v (cS iH rfl ac boot_len (aG (aC 0) aS))))) (QP.v (bD mV (aC 1) (QP.v (cS iH rfl ac boot_len (aG (aC 0) aS))))))))) aS))))
 (aN (bM (QP.e (cP (aK (cS iH rfl ac boot_len (aG (aC 2) aS)) (aK (QV.p (aC 3)) bC)))))))))
def sB(ae:(tz7))(de:(tz7))(kc:(tz6))(ag:(tz7)):tz1:=
 (aU (aT 1 (aH (eT "Front" (cK [.im (lE (eT "WithinWidth" (cK [.im (aA 0)]) de))]) ae)))
 (aU (aT 2 (aH (aJ kc (aB (fC (.str "")) (aB (aA 0) aE)))))
 (aU (fIf (aW (fB (f2 xQ (aA 2) (fC .non))))
  (cM (dI 1 bU (cK [.im (fC (.int 0)),.im (bN (aB (aQ (aA 2)) (aB (bN aE) aE)))]) (iK "Front" "add" ag)))
  bO)
 (sT 1))))
abbrev jL:Stmt:=top 24
abbrev iA:List Str:=["width"]
theorem jH:FnScope ["width","front","cost"] iA (aX jL):=cL
theorem zS(bq:Dn K mg "roads_begin" jL iA f fd)
  (ba:Kn K mg κ "Front" "Front.__init__" st_Front_init ps_Front_init bg a8) (ak:FnOk P w K mg base CX0 n bg a8 ps_Front_init (SpE 2 K κ (bQ [true,false]) ae))
  (b9:Kn K mg κ "WithinWidth" "WithinWidth.__init__" st_WithinWidth_init ps_WithinWidth_init ig gs) (df:FnOk P w K mg base CX0 n ig gs ps_WithinWidth_init (SpE 2 K κ (bQ [true,false]) de))
  (ff:Dn K mg "price" nM nN mn ly) (ke:FnOk P w K mg base CX0 (n+1) mn ly nN (SpP 2 K κ kc))
  (ah:Mn K κ "Front" "add" "Front.add" st_Front_add ps_Front_add bz bi) (aq:FnOk P w K mg base CX0 (n+1) bz bi ps_Front_add (SpE 3 K κ (bQ [true,false,false]) ag)):
  FnOk P w K mg base CX0 ((n+1)+1) f fd iA (SpP 1 K κ (gP 1 2 (sB ae de kc ag))):=
 cO bq.F jH fun cdv A outer s H E B hr=>
 (aL (bH 1 jH.nd rfl (.inl rfl) rfl rfl (QP.e (mH ba ak hr rfl (bK (QP.v (zc2 (mH b9 df hr rfl (bK (aC 0) dC) rfl rfl (eB 1)))) dC) rfl rfl (eB 1))))
 (aL (bH 2 jH.nd rfl (.inl rfl) rfl rfl (QP.e (cR ff ke hr rfl rfl (aG (QP.v bY) (aG (aC 0) aS)) (aO (aO bS)))))
 (aL (cG (QT.e (cF yc2 (aC 2) (QP.v rG) (bR _)))
  (aN (fE (uK ah aq hr rfl (cH 1) (bK (QP.v aF) (bK (QP.v (cP (aK (QV.p (aC 2)) (aK (cP bC) bC)))) dC)) rfl rfl (eB 2))))
  cB)
 (aN (qV 1 rfl)))))
def zf2(dm:(tz6))(gm:(tz6)):tz1:=
 (aU (aT 2 (aH (aQ (cU "Front" "best" (aJ dm (aB (lP (aJ gm (aB (aA 1) aE))) (aB (aA 0) aE)))))))
 (cA (aH (gR [none,some 2] (eL (aJ pH (aB (aA 2) aE))) gI (f2 bP (f2 bP (bN (aB (aQ (aA 0)) aE)) (f2 dIx (f2 eQ (aA 1) (aA 0)) (fC (.int 0)))) (bN (aB (aQ (f2 dIx (f2 eQ (aA 1) (aA 0)) (fC (.int 1)))) aE)))))))
abbrev nO:Stmt:=top 25
abbrev nP:List Str:=["row","width"]
theorem vE:FnScope ["row","width","best"] nP (aX nO):=cL
theorem yi7(dg:Dn K mg "roads" nO nP f fd)
  (a7:Dn K mg "behind_pieces" iO gG ir ii) (dq:FnOk P w K mg base CX0 n ir ii gG (SpP 2 K κ dm))
  (bq:Dn K mg "roads_begin" jL iA ji jb) (gn:FnOk P w K mg base CX0 n ji jb iA (SpP 1 K κ gm))
  (aa:Cls K (κ "Front"))
  (ai:cY K (κ "Front") "best")
  (gy:mg "sorted"=none):
  FnOk P w K mg base CX0 (n+1) f fd nP (SpP 2 K κ (gP 2 1 (zf2 dm gm))):=
 cO dg.F vE fun cdv A outer s H E B hr=>
 (aL (bH 2 vE.nd rfl (by first|exact Or.inl rfl|exact Or.inr rfl) rfl rfl (QP.e (QV.p (dS (C:="Front") aa ai (QP.v (cR a7 dq hr rfl rfl (aG (QP.v (yH (cR bq gn hr rfl rfl (aG (aC 1) aS) (aO bS)))) (aG (aC 0) aS)) (aO (aO bS))))))))
 (aN (bM (QP.e (qX (sc:=aX nO) (NX:=["row","width","best"]) (N:=["length","best"]) (pick:=[none,some 2]) ⟨rfl,by decide+kernel,by decide+kernel,by decide+kernel,by decide+kernel,by decide,rfl⟩ rfl rfl rfl (uI (QP.v (cS (zt9 rfl) rfl gy boot_sorted (aG (aC 2) aS)))) (fun _ _ _ _=>(eN (i:=0) (show(["length","best"]:List Str).Nodup by decide) rfl (by first|exact Or.inl rfl|exact Or.inr rfl))) (fun _ _ _ _=>qW) (fun _ _ _ _=>(bD dJ (QP.v (bD dJ (QP.v (cP (aK (QV.p (aC 0)) bC))) (bB (nZ (mT hr) (aC 1) (aC 0)) (QP.v aF)))) (QP.v (cP (aK (QV.p (bB (nZ (mT hr) (aC 1) (aC 0)) (QP.v aF))) bC))))))))))
def xR:tz1:=
 (aU (aT 1 (aH (fC (.str "abcdefghijklmnopqrstuvwxyzABCDEFGHIJKLMNOPQRSTUVWXYZ0123456789"))))
 (aU (aT 1 (aH (f2 bP (aA 1) (fC (.str "!\"#$&'()*+,-./:;<=>?\x40[\\]^_`{|}~")))))
 (aU (aT 2 (aH (f2 dIx (cT (fKs [.int 1,.int 2,.int 3,.int 4,.int 5,.int 6,.int 7,.int 8,.int 10,.int 11,.int 9,.int 12])) (f2 dG (aA 0) (fC (.int 12))))))
 (aU (aT 3 (aH (f2 dG (f2 fP (aA 0) (fC (.int 9000))) (fC (.int 93)))))
 (aU (aT 4 (aH (fC (.str ""))))
 (aU (fJ 5 (kZ (aB (aA 2) aE))
  (aT 4 (aH (f2 bP (aA 4) (f2 dIx (aA 1) (f2 dG (f2 bP (f2 fP (aA 0) (fC (.int 12))) (f2 gA (aA 5) (aA 3))) (fC (.int 93))))))))
 (sT 4)))))))
abbrev tD:Stmt:=top 29
abbrev pQ:List Str:=["_law_number"]
theorem iJ:FnScope ["_law_number","_law_signs","_law_size","_law_step","_law_word_here","_law_j"] pQ (aX tD):=cL
theorem yr7(gz:Dn K mg "_law_word" tD pQ f fd)
  (ca:mg "range"=none):
  FnOk P w K mg base CX0 (n+1) f fd pQ (SpP 1 K κ (gP 1 5 (xR))):=
 cO gz.F iJ fun cdv A outer s H E B hr=>
 (aL (bH 1 iJ.nd rfl (.inl rfl) rfl rfl (QP.e bY))
 (aL (bH 1 iJ.nd rfl (.inl rfl) rfl rfl (QP.e (bD dJ (aC 1) (QP.v bY))))
 (aL (bH 2 iJ.nd rfl (.inl rfl) rfl rfl (QP.e (sK (dR (qM (.int (.int (.int (.int (.int (.int (.int (.int (.int (.int (.int (.int .nil)))))))))))))) (QP.v (bD fS (aC 0) (QP.v aF))))))
 (aL (bH 3 iJ.nd rfl (.inl rfl) rfl rfl (QP.e (bD fS (QP.v (bD lL (aC 0) (QP.v aF))) (QP.v aF))))
 (aL (bH 4 iJ.nd rfl (.inl rfl) rfl rfl (QP.e bY))
 (aL (rJ 5 PassesOwn.never rfl iJ.nd rfl (.inl rfl) rfl rfl (wW rfl ca (aG (aC 2) aS))
  (aN (bH 4 iJ.nd rfl (.inl rfl) rfl rfl (QP.e (bD dJ (aC 4) (bB (aC 1) (QP.v (bD fS (QP.v (bD dJ (QP.v (bD lL (aC 0) (QP.v aF))) (QP.v (bD qL (aC 5) (aC 3))))) (QP.v aF)))))))))
 (aN (qV 4 rfl))))))))
def xS(lg:(tz6)):tz1:=
 (aU (aT 1 (aH (f2 fP (aA 0) (fC (.int 16)))))
 (aU (fIf (aW (fB (f2 dLt (f2 dG (aA 0) (fC (.int 16))) (fC (.int 8)))))
  (cA (aH (bN (aB (fC (.str "word")) (aB (aJ lg (aB (aA 1) aE)) aE)))))
  bO)
 (aU (fIf (aW (fB (f2 dLt (f2 dG (aA 0) (fC (.int 16))) (fC (.int 13)))))
  (cA (aH (bN (aB (fC (.str "gap")) (aB (f2 dIx (cT (fKs [.str " ",.str " ",.str " ",.str ""])) (f2 dG (aA 1) (fC (.int 4)))) aE)))))
  bO)
 (aU (fIf (aW (fB (f2 dEq (f2 dG (aA 0) (fC (.int 16))) (fC (.int 13)))))
  (cA (aH (bN (aB (fC (.str "end")) aE))))
  bO)
 (cA (aH (bN (aB (fC (.str "stop")) (aB (f2 dIx (cT (aB (f2 dG (f2 fP (aA 1) (fC (.int 2))) (fC (.int 10))) (aB (f2 dG (f2 fP (aA 1) (fC (.int 2))) (fC (.int 41))) aE))) (f2 dG (aA 1) (fC (.int 2)))) aE)))))))))
abbrev pR:Stmt:=top 30
abbrev kP:List Str:=["_law_number"]
theorem xF:FnScope ["_law_number","_law_some"] kP (aX pR):=cL
theorem yr8(cu:Dn K mg "_law_leaf" pR kP f fd)
  (gz:Dn K mg "_law_word" tD pQ no mo) (lh:FnOk P w K mg base CX0 n no mo pQ (SpP 1 K κ lg)):
  FnOk P w K mg base CX0 (n+1) f fd kP (SpP 1 K κ (gP 1 1 (xS lg))):=
 cO cu.F xF fun cdv A outer s H E B hr=>
 (aL (bH 1 xF.nd rfl (.inl rfl) rfl rfl (QP.e (bD lL (aC 0) (QP.v aF))))
 (aL (cG (QT.e (cF (zg7 (Room.units0 hr)) (QP.v (bD fS (aC 0) (QP.v aF))) (QP.v aF) (bR _)))
  (aN (bM (QP.e (cP (aK bY (aK (cR gz lh hr rfl rfl (aG (aC 1) aS) (aO bS)) bC))))))
  cB)
 (aL (cG (QT.e (cF (zg7 (Room.units0 hr)) (QP.v (bD fS (aC 0) (QP.v aF))) (QP.v aF) (bR _)))
  (aN (bM (QP.e (cP (aK bY (aK (sK (dR (qM (.str (.str (.str (.str .nil)))))) (QP.v (bD fS (aC 1) (QP.v aF)))) bC))))))
  cB)
 (aL (cG (QT.e (cF (fW (Room.units hr)) (QP.v (bD fS (aC 0) (QP.v aF))) (QP.v aF) (bR _)))
  (aN (bM (QP.e (cP (aK bY bC)))))
  cB)
 (aN (bM (QP.e (cP (aK bY (aK (sK (dR (aK (bD fS (QP.v (bD lL (aC 1) (QP.v aF))) (QP.v aF)) (aK (bD fS (QP.v (bD lL (aC 1) (QP.v aF))) (QP.v aF)) bC))) (QP.v (bD fS (aC 1) (QP.v aF)))) bC))))))))))
def pS:tz1:=
 (aU (mD [1,2,3,4] (dI 0 bU aE nF))
 (aU (aT 3 (aH (f2 bP (aA 3) (cT (aB (aJ gB (aB (aA 4) aE)) aE)))))
 (aU (fIf (aW (dN (fB (f2 dEq (aA 1) (fC (.str "either")))) (fB (f2 dLt (aJ cZ (aB (aA 3) aE)) (fC (.int 2))))))
  (aT 3 (aH (f2 bP (aA 3) (cT (aB (bN (aB (bN (aB (fC (.str "word")) (aB (fC (.str "or")) aE))) aE)) aE)))))
  bO)
 (aU (aT 5 (aH (bN (aB (fC (.str "group")) (aB (aQ (f2 dIx (aA 3) (fC (.int 0)))) aE)))))
 (aU (fIf (aW (fB (f2 dEq (aA 1) (fC (.str "hang")))))
  (aT 5 (aH (bN (aB (fC (.str "hang")) (aB (aQ (aA 2)) (aB (aQ (f2 dIx (aA 3) (fC (.int 0)))) aE))))))
  bO)
 (aU (fIf (aW (fB (f2 dEq (aA 1) (fC (.str "either")))))
  (aT 5 (aH (bN (aB (fC (.str "either")) (aB (aJ gB (aB (aA 3) aE)) aE)))))
  bO)
 (cM (dI 0 (eU 0 (eU 0 bU (fH (fC (.int 1)))) (fC (.int 3))) (aB (aQ (aA 5)) aE) cW))))))))
abbrev tF:Stmt:=top 31
abbrev pT:List Str:=["_law_frames"]
theorem fX:FnScope ["_law_frames","_law_kind","_law_n","_law_full","_law_parts","_law_piece"] pT (aX tF):=cL
theorem yr9(eo:Dn K mg "_law_shut" tF pT f fd)
  (cb:mg "tuple"=none)
  (ac:mg "len"=none):
  FnOk P w K mg base CX0 (n+1) f fd pT (SpE 1 K κ (bQ [true]) (gE 1 5 (bQ [true]) (pS))):=
 mW eo.F fX (fun i hi=>gX hi) fun cdv A outer s H E hr=>
 (aL (zl2 (is:=[1,2,3,4]) rfl (iP (eN (i:=1) fX.nd rfl (.inl rfl)) (iP (eN (i:=2) fX.nd rfl (.inl rfl)) (iP (eN (i:=3) fX.nd rfl (.inl rfl)) (iP (eN (i:=4) fX.nd rfl (.inl rfl)) zg0)))) (xu0 (j:=0) rfl (cH 0)) (fun j hj=>by simp only [List.mem_cons,List.not_mem_nil,or_false] at hj;rcases hj with rfl|rfl|rfl|rfl<;>exact⟨rfl,rfl⟩))
 (aL (bH 3 fX.nd rfl (.inl rfl) rfl rfl (QP.e (bD dJ (aC 3) (QP.v (dR (aK (kB qU rfl cb boot_tuple (aG (aC 4) aS)) bC))))))
 (aL (cG (QT.e (rH (lF (cF (fW (Room.units hr)) (aC 1) (QP.v bY) (bR _)) (kT (cF (zg7 (Room.units0 hr)) (QP.v (cS iH rfl ac boot_len (aG (aC 3) aS))) (QP.v aF) (bR _))))))
  (aN (bH 3 fX.nd rfl (.inl rfl) rfl rfl (QP.e (bD dJ (aC 3) (QP.v (dR (aK (cP (aK (cP (aK bY (aK bY bC))) bC)) bC)))))))
  cB)
 (aL (bH 5 fX.nd rfl (.inl rfl) rfl rfl (QP.e (cP (aK bY (aK (QV.p (bB (aC 3) (QP.v aF))) bC)))))
 (aL (cG (QT.e (cF (fW (Room.units hr)) (aC 1) (QP.v bY) (bR _)))
  (aN (bH 5 fX.nd rfl (.inl rfl) rfl rfl (QP.e (cP (aK bY (aK (QV.p (aC 2)) (aK (QV.p (bB (aC 3) (QP.v aF))) bC)))))))
  cB)
 (aL (cG (QT.e (cF (fW (Room.units hr)) (aC 1) (QP.v bY) (bR _)))
  (aN (bH 5 fX.nd rfl (.inl rfl) rfl rfl (QP.e (cP (aK bY (aK (kB qU rfl cb boot_tuple (aG (aC 3) aS)) bC))))))
  cB)
 (aN (fE (mG (j:=0) rfl (jE (jE (cH 0) (QP.v (oX (QP.v aF)))) (QP.v aF)) (aK (QV.p (aC 5)) bC))))))))))
def zy7(aj:(tz6))(jw:(tz7))(et:(tz6)):tz1:=
 (aU (aT 4 (aH (cT (aB (cT (aB (fC (.str "top")) (aB (fC (.int 0)) (aB (cT aE) (aB (cT aE) aE))))) aE))))
 (aU (fJ 5 (qQ (aB (aA 1) (aB (f2 bP (aA 1) (aA 2)) aE)))
  (aU (aT 6 (aH (aJ aj (aB (aA 0) (aB (aA 5) (aB (fC (.int 31)) aE))))))
 (aU (aT 7 (aH (f2 dG (aA 6) (fC (.int 13)))))
 (aU (aT 8 (aH (aQ (f2 dIx (f2 dIx (aA 4) (fH (fC (.int 1)))) (fC (.int 0))))))
 (fIf (aW (dN (fB (f2 dLt (aA 7) (fC (.int 4)))) (fB (f2 dLe (aJ cZ (aB (aA 4) aE)) (aA 3)))))
  (aU (aT 9 (aH (f2 dIx (cT (fKs [.str "group",.str "group",.str "hang",.str "either"])) (aA 7))))
 (cM (dI 4 bU (aB (cT (aB (aQ (aA 9)) (aB (f2 dIx (cT (aB (fC (.int 1)) (aB (fC (.int 2)) (aB (fC (.int 4)) (aB (f2 dG (f2 fP (aA 6) (fC (.int 13))) (fC (.int 13))) aE))))) (f2 dG (f2 fP (aA 6) (fC (.int 169))) (fC (.int 4)))) (aB (cT aE) (aB (cT aE) aE))))) aE) cW)))
  (fIf (aW (dN (fB (f2 dEq (aA 7) (fC (.int 4)))) (fB (f2 dGt (aJ cZ (aB (aA 4) aE)) (fC (.int 1))))))
  (cM (fIO [.io 4] jw))
  (fIf (aW (dN (fB (f2 dLt (aA 7) (fC (.int 7)))) (dN (fB (f2 dEq (aA 8) (fC (.str "either")))) (fB (f2 dLt (aJ cZ (aB (f2 dIx (f2 dIx (aA 4) (fH (fC (.int 1)))) (fC (.int 2))) aE)) (fC (.int 3)))))))
  (aU (cM (dI 4 (eU 4 (eU 4 bU (fH (fC (.int 1)))) (fC (.int 2))) (aB (aJ gB (aB (f2 dIx (f2 dIx (aA 4) (fH (fC (.int 1)))) (fC (.int 3))) aE)) aE) cW))
 (fL 4 (eU 4 bU (fH (fC (.int 1)))) (fC (.int 3)) (cT aE)))
  (cM (dI 4 (eU 4 (eU 4 bU (fH (fC (.int 1)))) (fC (.int 3))) (aB (aJ et (aB (aJ aj (aB (aA 0) (aB (aA 5) (aB (fC (.int 32)) aE)))) aE)) aE) cW)))))))))
 (aU (kL (aW (fB (f2 dGt (aJ cZ (aB (aA 4) aE)) (fC (.int 1)))))
  (cM (fIO [.io 4] jw)) 400)
 (cA (aH (aJ gB (aB (f2 dIx (f2 dIx (aA 4) (fC (.int 0))) (fC (.int 3))) aE)))))))
abbrev vZ:Stmt:=top 32
abbrev sC:List Str:=["_law_script","_law_at","_law_many","_law_nest"]
theorem kD:FnScope ["_law_script","_law_at","_law_many","_law_nest","_law_frames","_law_k","_law_number","_law_way","_law_kind","_law_new"] sC (aX vZ):=cL
theorem xa4(i4:Dn K mg "_law_row" vZ sC f fd)
  (ao:Dn K mg "_law_mixed" jI gS cr ce) (aw:FnOk P w K mg base CX0 n cr ce gS (SpP 3 K κ aj))
  (eo:Dn K mg "_law_shut" tF pT nq mq) (jx:FnOk P w K mg base CX0 n nq mq pT (SpE 1 K κ (bQ [true]) jw))
  (cu:Dn K mg "_law_leaf" pR kP jy jj) (g4:FnOk P w K mg base CX0 n jy jj kP (SpP 1 K κ et))
  (ca:mg "range"=none)
  (cb:mg "tuple"=none)
  (ac:mg "len"=none):
  FnOk P w K mg base CX0 (n+1) f fd sC (SpP 4 K κ (gP 4 6 (zy7 aj jw et))):=
 cO i4.F kD fun cdv A outer s H E B hr=>
 (aL (bH 4 kD.nd rfl (.inl rfl) rfl rfl (QP.e (dR (aK (dR (aK bY (aK aF (aK (dR bC) (aK (dR bC) bC))))) bC))))
 (aL (rJ 5 PassesOwn.never rfl kD.nd rfl (.inl rfl) rfl rfl (yq1 rfl ca (aG (aC 1) (aG (QP.v (bD dJ (aC 1) (aC 2))) aS)))
  (aL (bH 6 kD.nd rfl (.inl rfl) rfl rfl (QP.e (cR ao aw hr rfl rfl (aG (aC 0) (aG (aC 5) (aG (QP.v aF) aS))) (aO (aO (aO bS))))))
 (aL (bH 7 kD.nd rfl (.inl rfl) rfl rfl (QP.e (bD fS (aC 6) (QP.v aF))))
 (aL (bH 8 kD.nd rfl (.inl rfl) rfl rfl (QP.e (QV.p (bB (bB (aC 4) (QP.v (oX (QP.v aF)))) (QP.v aF)))))
 (aN (cG (QT.e (rH (lF (cF (zg7 (Room.units0 hr)) (aC 7) (QP.v aF) (bR _)) (kT (cF zs4 (QP.v (cS iH rfl ac boot_len (aG (aC 4) aS))) (aC 3) (bR _))))))
  (aL (bH 9 kD.nd rfl (.inl rfl) rfl rfl (QP.e (sK (dR (qM (.str (.str (.str (.str .nil)))))) (aC 7))))
 (aN (fE (mG (j:=4) rfl (cH 4) (aK (dR (aK (QV.p (aC 9)) (aK (sK (dR (aK aF (aK aF (aK aF (aK (bD fS (QP.v (bD lL (aC 6) (QP.v aF))) (QP.v aF)) bC))))) (QP.v (bD fS (QP.v (bD lL (aC 6) (QP.v aF))) (QP.v aF)))) (aK (dR bC) (aK (dR bC) bC))))) bC)))))
  (aN (cG (QT.e (rH (lF (cF (fW (Room.units hr)) (aC 7) (QP.v aF) (bR _)) (kT (cF zg8 (QP.v (cS iH rfl ac boot_len (aG (aC 4) aS))) (QP.v aF) (bR _))))))
  (aN (fE (kW eo jx hr rfl (iW 4 dC) rfl (eA rfl) (show List.Nodup ([4]:List Nat) by decide) (fun j hj=>by have h:j∈([4]:List Nat):=hj;simp only [List.mem_cons,List.not_mem_nil,or_false] at h;rcases h with rfl<;>rfl))))
  (aN (cG (QT.e (rH (lF (cF (zg7 (Room.units0 hr)) (aC 7) (QP.v aF) (bR _)) (lF (cF (fW (Room.units hr)) (aC 8) (QP.v bY) (bR _)) (kT (cF (zg7 (Room.units0 hr)) (QP.v (cS iH rfl ac boot_len (aG (bB (bB (aC 4) (QP.v (oX (QP.v aF)))) (QP.v aF)) aS))) (QP.v aF) (bR _)))))))
  (aL (fE (mG (j:=4) rfl (jE (jE (cH 4) (QP.v (oX (QP.v aF)))) (QP.v aF)) (aK (kB qU rfl cb boot_tuple (aG (bB (bB (aC 4) (QP.v (oX (QP.v aF)))) (QP.v aF)) aS)) bC)))
 (aN (rL (j:=4) rfl (dR bC) (jE (cH 4) (QP.v (oX (QP.v aF)))) (QP.v aF))))
  (aN (fE (mG (j:=4) rfl (jE (jE (cH 4) (QP.v (oX (QP.v aF)))) (QP.v aF)) (aK (cR cu g4 hr rfl rfl (aG (QP.v (cR ao aw hr rfl rfl (aG (aC 0) (aG (aC 5) (aG (QP.v aF) aS))) (aO (aO (aO bS))))) aS) (aO bS)) bC))))))))))))))
 (aL (yz2 400 PassesOwn.never (QT.e (cF zg8 (QP.v (cS iH rfl ac boot_len (aG (aC 4) aS))) (QP.v aF) (bR _)))
  (aN (fE (kW eo jx hr rfl (iW 4 dC) rfl (eA rfl) (show List.Nodup ([4]:List Nat) by decide) (fun j hj=>by have h:j∈([4]:List Nat):=hj;simp only [List.mem_cons,List.not_mem_nil,or_false] at h;rcases h with rfl<;>rfl)))))
 (aN (bM (QP.e (kB qU rfl cb boot_tuple (aG (bB (bB (aC 4) (QP.v aF)) (QP.v aF)) aS))))))))
def tG(aj:(tz6))(jo:(tz6)):tz1:=
 (aU (aT 4 (aH (aJ aj (aB (aA 0) (aB (f2 bP (f2 dIx (aA 1) (fC (.int 2))) (fC (.int 40))) (aB (aA 2) aE))))))
 (aU (fIf (aW (fB (f2 dEq (aA 2) (fC (.int 1)))))
  (aU (aT 5 (aH (f2 dIx (cT (fKs [.int 1,.int 12,.int 144,.int 1728,.int 20736,.int 248832,.int 2985984,.int 35831808])) (f2 dG (f2 dIx (aA 1) (fC (.int 2))) (fC (.int 8))))))
 (aT 4 (aH (f2 fP (aJ jo (aB (aA 0) (aB (f2 bP (fC (.int 40)) (f2 fP (f2 dIx (aA 1) (fC (.int 2))) (fC (.int 8)))) aE))) (aA 5)))))
  bO)
 (aU (fL 1 bU (fC (.int 2)) (f2 bP (f2 dIx (aA 1) (fC (.int 2))) (fC (.int 1))))
 (aU (cM (dI 1 (eU 1 bU (fC (.int 1))) (aB (f2 dG (aA 4) (aA 3)) aE) cW))
 (cA (aH (f2 dG (aA 4) (aA 3))))))))
abbrev tH:Stmt:=top 33
abbrev pU:List Str:=["_law_script","_law_state","_law_salt","_law_many"]
theorem pB:FnScope ["_law_script","_law_state","_law_salt","_law_many","_law_number","_law_share"] pU (aX tH):=cL
theorem ys0(eu:Dn K mg "_law_next" tH pU f fd)
  (ao:Dn K mg "_law_mixed" jI gS cr ce) (aw:FnOk P w K mg base CX0 n cr ce gS (SpP 3 K κ aj))
  (cf:Dn K mg "_law_cell_at" kM rY ky kf) (dw:FnOk P w K mg base CX0 n ky kf rY (SpP 2 K κ jo)):
  FnOk P w K mg base CX0 (n+1) f fd pU (SpE 4 K κ (bQ [false,true,false,false]) (gE 4 2 (bQ [false,true,false,false]) (tG aj jo))):=
 mW eu.F pB (fun i hi=>gX hi) fun cdv A outer s H E hr=>
 (aL (bH 4 pB.nd rfl (.inl rfl) rfl rfl (QP.e (cR ao aw hr rfl rfl (aG (aC 0) (aG (QP.v (bD dJ (bB (aC 1) (QP.v aF)) (QP.v aF))) (aG (aC 2) aS))) (aO (aO (aO bS))))))
 (aL (cG (QT.e (cF (fW (Room.units hr)) (aC 2) (QP.v aF) (bR _)))
  (aL (bH 5 pB.nd rfl (.inl rfl) rfl rfl (QP.e (sK (dR (qM (.int (.int (.int (.int (.int (.int (.int (.int .nil)))))))))) (QP.v (bD fS (bB (aC 1) (QP.v aF)) (QP.v aF))))))
 (aN (bH 4 pB.nd rfl (.inl rfl) rfl rfl (QP.e (bD lL (QP.v (cR cf dw hr rfl rfl (aG (aC 0) (aG (QP.v (bD dJ (QP.v aF) (QP.v (bD lL (bB (aC 1) (QP.v aF)) (QP.v aF))))) aS)) (aO (aO bS)))) (aC 5))))))
  cB)
 (aL (rL (j:=1) rfl (bD dJ (bB (aC 1) (QP.v aF)) (QP.v aF)) (cH 1) (QP.v aF))
 (aL (fE (mG (j:=1) rfl (jE (cH 1) (QP.v aF)) (aK (bD fS (aC 4) (aC 3)) bC)))
 (aN (bM (QP.e (bD fS (aC 4) (aC 3)))))))))
def xT:tz1:=
 (fL 0 bU (fC (.int 0)) (f2 bP (f2 bP (f2 dIx (aA 0) (fC (.int 0))) (fC (.str "\n"))) (f2 gA (fC (.str " ")) (aA 1))))
abbrev pV:Stmt:=top 34
abbrev kQ:List Str:=["_law_state","_law_blanks"]
theorem zm1:FnScope ["_law_state","_law_blanks"] kQ (aX pV):=cL
theorem ys1(cv:Dn K mg "_law_line" pV kQ f fd)
     :
  FnOk P w K mg base CX0 (n+1) f fd kQ (SpE 2 K κ (bQ [true,false]) (gE 2 0 (bQ [true,false]) (xT))):=
 mW cv.F zm1 (fun i hi=>gX hi) fun cdv A outer s H E hr=>
 (aN (rL (j:=0) rfl (bD dJ (QP.v (bD dJ (bB (aC 0) (QP.v aF)) (QP.v bY))) (QP.v (bD qL (QP.v bY) (aC 1)))) (cH 0) (QP.v aF)))
def tZ:tz1:=
 (cA (aH (f2 iY (f2 iY (aJ cZ (aB (f2 dIx (aA 0) (fC (.int 0))) aE)) (fC (.int 1))) (fMt ze9 (f2 dIx (aA 0) (fC (.int 0))) (aB (fC (.str "\n")) aE)))))
abbrev oQ:Stmt:=top 35
abbrev lH:List Str:=["_law_state"]
theorem zF:FnScope ["_law_state"] lH (aX oQ):=cL
theorem ya6(cw:Dn K mg "_law_column" oQ lH f fd)
  (ac:mg "len"=none):
  FnOk P w K mg base CX0 (n+1) f fd lH (SpP 1 K κ (gP 1 0 (tZ))):=
 cO cw.F zF fun cdv A outer s H E B hr=>
 (aN (bM (QP.e (bD mV (QP.v (bD mV (QP.v (cS iH rfl ac boot_len (aG (bB (aC 0) (QP.v aF)) aS))) (QP.v aF))) (QP.v (zp0 PySem.F.slot_str_rfind PySem.F.type_str_rfind xl7 (bB (aC 0) (QP.v aF)) (aG (QP.v bY) aS)))))))
def tI(iw:(tz6))(ez:(tz7)):tz1:=
 (aU (fIf (aW (fB (f2 dGt (aJ iw (aB (aA 0) aE)) (aA 2))))
  (aU (fIf (aW (fT (aA 1)))
  (cA (aH (fC (.bl false))))
  bO)
 (cM (fIO [.io 0,.im (fC (.int 0))] ez)))
  bO)
 (aU (fL 0 bU (fC (.int 0)) (f2 bP (f2 dIx (aA 0) (fC (.int 0))) (f2 gA (fC (.str " ")) (f2 iY (aA 2) (aJ iw (aB (aA 0) aE))))))
 (cA (aH (fC (.bl true))))))
abbrev tJ:Stmt:=top 36
abbrev pW:List Str:=["_law_state","_law_flat","_law_column_here"]
theorem zm2:FnScope ["_law_state","_law_flat","_law_column_here"] pW (aX tJ):=cL
theorem ys2(g5:Dn K mg "_law_stop" tJ pW f fd)
  (cw:Dn K mg "_law_column" oQ lH lz kz) (iy:FnOk P w K mg base CX0 n lz kz lH (SpP 1 K κ iw))
  (cv:Dn K mg "_law_line" pV kQ jz jk) (g6:FnOk P w K mg base CX0 n jz jk kQ (SpE 2 K κ (bQ [true,false]) ez)):
  FnOk P w K mg base CX0 (n+1) f fd pW (SpE 3 K κ (bQ [true,false,false]) (gE 3 0 (bQ [true,false,false]) (tI iw ez))):=
 mW g5.F zm2 (fun i hi=>gX hi) fun cdv A outer s H E hr=>
 (aL (cG (QT.e (cF zg8 (QP.v (cR cw iy hr rfl rfl (aG (aC 0) aS) (aO bS))) (aC 2) (bR _)))
  (aL (cG (QT.e (gL (aC 1)))
  (aN (bM (QP.e jW)))
  cB)
 (aN (fE (kW cv g6 hr rfl (iW 0 (bK (QP.v aF) dC)) rfl (eA rfl) (show List.Nodup ([0]:List Nat) by decide) (fun j hj=>by have h:j∈([0]:List Nat):=hj;simp only [List.mem_cons,List.not_mem_nil,or_false] at h;rcases h with rfl<;>rfl)))))
  cB)
 (aL (rL (j:=0) rfl (bD dJ (bB (aC 0) (QP.v aF)) (QP.v (bD qL (QP.v bY) (QP.v (bD mV (aC 2) (QP.v (cR cw iy hr rfl rfl (aG (aC 0) aS) (aO bS)))))))) (cH 0) (QP.v aF))
 (aN (bM (QP.e jW)))))
def lR(lj:(tz7))(ez:(tz7)):tz1:=
 (aU (fIf (aW (fB (f2 dEq (f2 dIx (aA 0) (fC (.int 0))) (fC (.str "stop")))))
  (cA (fIO [.io 3,.im (aA 1),.im (f2 dIx (aA 0) (fC (.int 1)))] lj))
  bO)
 (aU (fIf (aW (vS (fB (f2 dEq (f2 dIx (aA 0) (fC (.int 0))) (fC (.str "word")))) (dN (fB (f2 dEq (f2 dIx (aA 0) (fC (.int 0))) (fC (.str "gap")))) (fT (aA 1)))))
  (fL 3 bU (fC (.int 0)) (f2 bP (f2 dIx (aA 3) (fC (.int 0))) (f2 dIx (aA 0) (fC (.int 1)))))
  (fIf (aW (fT (aA 1)))
  (cA (aH (fC (.bl false))))
  (cM (fIO [.io 3,.im (aA 2)] ez))))
 (cA (aH (fC (.bl true))))))
abbrev lS:Stmt:=top 37
abbrev jQ:List Str:=["_law_piece","_law_flat","_law_hang","_law_state"]
theorem wL:FnScope ["_law_piece","_law_flat","_law_hang","_law_state"] jQ (aX lS):=cL
theorem zo4(ck:Dn K mg "_law_leaf_set" lS jQ f fd)
  (g5:Dn K mg "_law_stop" tJ pW nr mw) (ll:FnOk P w K mg base CX0 n nr mw pW (SpE 3 K κ (bQ [true,false,false]) lj))
  (cv:Dn K mg "_law_line" pV kQ jz jk) (g6:FnOk P w K mg base CX0 n jz jk kQ (SpE 2 K κ (bQ [true,false]) ez)):
  FnOk P w K mg base CX0 (n+1) f fd jQ (SpE 4 K κ (bQ [false,false,false,true]) (gE 4 0 (bQ [false,false,false,true]) (lR lj ez))):=
 mW ck.F wL (fun i hi=>gX hi) fun cdv A outer s H E hr=>
 (aL (cG (QT.e (cF (fW (Room.units hr)) (bB (aC 0) (QP.v aF)) (QP.v bY) (bR _)))
  (aN (bM (kW g5 ll hr rfl (iW 3 (bK (aC 1) (bK (bB (aC 0) (QP.v aF)) dC))) rfl (eA rfl) (show List.Nodup ([3]:List Nat) by decide) (fun j hj=>by have h:j∈([3]:List Nat):=hj;simp only [List.mem_cons,List.not_mem_nil,or_false] at h;rcases h with rfl<;>rfl))))
  cB)
 (aL (cG (QT.e (rH (xg5 (cF (fW (Room.units hr)) (bB (aC 0) (QP.v aF)) (QP.v bY) (bR _)) (yp5 (rH (lF (cF (fW (Room.units hr)) (bB (aC 0) (QP.v aF)) (QP.v bY) (bR _)) (kT (gL (aC 1)))))))))
  (aN (rL (j:=3) rfl (bD dJ (bB (aC 3) (QP.v aF)) (bB (aC 0) (QP.v aF))) (cH 3) (QP.v aF)))
  (aN (cG (QT.e (gL (aC 1)))
  (aN (bM (QP.e jW)))
  (aN (fE (kW cv g6 hr rfl (iW 3 (bK (aC 2) dC)) rfl (eA rfl) (show List.Nodup ([3]:List Nat) by decide) (fun j hj=>by have h:j∈([3]:List Nat):=hj;simp only [List.mem_cons,List.not_mem_nil,or_false] at h;rcases h with rfl<;>rfl)))))))
 (aN (bM (QP.e jW)))))
def wA(j0:(tz7))(da:(tz7))(jc:(tz7)):tz1:=
 (aU (fJ 6 (eL (aA 1))
  (aU (aT 7 (aH (fC (.bl true))))
 (aU (fIf (aW (fB (f2 dEq (f2 dIx (aA 6) (fC (.int 0))) (fC (.str "group")))))
  (aU (aT 8 (aH (aQ (aA 2))))
 (aU (fIf (aW (dN (iS (fT (aA 2))) (fB (f2 dGt (aA 5) (fC (.int 0))))))
  (aT 8 (fE2 dEq (fIO [.im (aA 0),.io 4,.im (aA 5),.im (fC (.int 2))] j0) (fC (.int 0))))
  (fIf (aW (iS (fT (aA 2))))
  (cM (dI 4 (eU 4 bU (fC (.int 1))) (aB (fC (.int 1)) aE) cW))
  bO))
 (aT 7 (fIO [.im (aA 0),.im (f2 dIx (aA 6) (fC (.int 1))),.im (aA 8),.im (aA 3),.io 4,.im (aA 5)] da))))
  (fIf (aW (fB (f2 dEq (f2 dIx (aA 6) (fC (.int 0))) (fC (.str "hang")))))
  (aT 7 (fIO [.im (aA 0),.im (f2 dIx (aA 6) (fC (.int 2))),.im (aA 2),.im (f2 bP (aA 3) (f2 dIx (aA 6) (fC (.int 1)))),.io 4,.im (aA 5)] da))
  (fIf (aW (fB (f2 dEq (f2 dIx (aA 6) (fC (.int 0))) (fC (.str "either")))))
  (aU (aT 9 (fIO [.im (aA 0),.io 4,.im (f2 bP (aA 5) (f2 gA (fC (.int 9)) (aJ lO (aB (f2 dEq (aA 5) (fC (.int 0))) aE)))),.im (aJ cZ (aB (f2 dIx (aA 6) (fC (.int 1))) aE))] j0))
 (aT 7 (fIO [.im (aA 0),.im (f2 dIx (f2 dIx (aA 6) (fC (.int 1))) (aA 9)),.im (aA 2),.im (aA 3),.io 4,.im (aA 5)] da)))
  (aT 7 (fIO [.im (aA 6),.im (aA 2),.im (aA 3),.io 4] jc)))))
 (fIf (aW (iS (fT (aA 7))))
  (cA (aH (fC (.bl false))))
  bO))))
 (cA (aH (fC (.bl true)))))
abbrev wB:Stmt:=top 38
abbrev oJ:List Str:=["_law_script","_law_row_here","_law_flat","_law_hang","_law_state","_law_salt"]
theorem gZ:FnScope ["_law_script","_law_row_here","_law_flat","_law_hang","_law_state","_law_salt","_law_piece","_law_good","_law_inner","_law_at"] oJ (aX wB):=cL
theorem xa5(db:Dn K mg "_law_set" wB oJ f fd)
  (eu:Dn K mg "_law_next" tH pU nu mx) (j3:FnOk P w K mg base CX0 n nu mx pU (SpE 4 K κ (bQ [false,true,false,false]) j0))
  (fg:FnOk P w K mg base CX0 n f fd oJ (SpE 6 K κ (bQ [false,false,false,false,true,false]) da))
  (ck:Dn K mg "_law_leaf_set" lS jQ kg j7) (jd:FnOk P w K mg base CX0 n kg j7 jQ (SpE 4 K κ (bQ [false,false,false,true]) jc))
  (ac:mg "len"=none)
  (ou:mg "int"=none):
  FnOk P w K mg base CX0 (n+1) f fd oJ (SpE 6 K κ (bQ [false,false,false,false,true,false]) (gE 6 4 (bQ [false,false,false,false,true,false]) (wA j0 da jc))):=
 mW db.F gZ (fun i hi=>gX hi) fun cdv A outer s H E hr=>
 (aL (zg9 6 1 PassesOwn.never rfl gZ.nd rfl (.inl rfl) rfl rfl rfl
  (aL (bH 7 gZ.nd rfl (.inl rfl) rfl rfl (QP.e jW))
 (aL (cG (QT.e (cF (fW (Room.units hr)) (bB (aC 6) (QP.v aF)) (QP.v bY) (bR _)))
  (aL (bH 8 gZ.nd rfl (.inl rfl) rfl rfl (QP.e (QV.p (aC 2))))
 (aL (cG (QT.e (rH (lF (uG (gL (aC 2))) (kT (cF zg8 (aC 5) (QP.v aF) (bR _))))))
  (aN (bH 8 gZ.nd rfl (.inl rfl) rfl rfl (xu1 (fW (Room.units hr)) (kW eu j3 hr rfl (bK (aC 0) (iW 4 (bK (aC 5) (bK (QP.v aF) dC)))) rfl (eA rfl) (show List.Nodup ([4]:List Nat) by decide) (fun j hj=>by have h:j∈([4]:List Nat):=hj;simp only [List.mem_cons,List.not_mem_nil,or_false] at h;rcases h with rfl<;>rfl)) (QP.v aF) (bR _))))
  (aN (cG (QT.e (uG (gL (aC 2))))
  (aN (fE (mG (j:=4) rfl (jE (cH 4) (QP.v aF)) (aK aF bC))))
  cB)))
 (aN (bH 7 gZ.nd rfl (.inl rfl) rfl rfl (kW db fg hr rfl (bK (aC 0) (bK (bB (aC 6) (QP.v aF)) (bK (aC 8) (bK (aC 3) (iW 4 (bK (aC 5) dC)))))) rfl (eA rfl) (show List.Nodup ([4]:List Nat) by decide) (fun j hj=>by have h:j∈([4]:List Nat):=hj;simp only [List.mem_cons,List.not_mem_nil,or_false] at h;rcases h with rfl<;>rfl))))))
  (aN (cG (QT.e (cF (fW (Room.units hr)) (bB (aC 6) (QP.v aF)) (QP.v bY) (bR _)))
  (aN (bH 7 gZ.nd rfl (.inl rfl) rfl rfl (kW db fg hr rfl (bK (aC 0) (bK (bB (aC 6) (QP.v aF)) (bK (aC 2) (bK (QP.v (bD dJ (aC 3) (bB (aC 6) (QP.v aF)))) (iW 4 (bK (aC 5) dC)))))) rfl (eA rfl) (show List.Nodup ([4]:List Nat) by decide) (fun j hj=>by have h:j∈([4]:List Nat):=hj;simp only [List.mem_cons,List.not_mem_nil,or_false] at h;rcases h with rfl<;>rfl))))
  (aN (cG (QT.e (cF (fW (Room.units hr)) (bB (aC 6) (QP.v aF)) (QP.v bY) (bR _)))
  (aL (bH 9 gZ.nd rfl (.inl rfl) rfl rfl (kW eu j3 hr rfl (bK (aC 0) (iW 4 (bK (QP.v (bD dJ (aC 5) (QP.v (bD qL (QP.v aF) (QP.v (kB wa3 rfl ou boot_int (aG (QP.v (uF (fW (Room.units hr)) (aC 5) (QP.v aF) (bR _))) aS))))))) (bK (QP.v (cS iH rfl ac boot_len (aG (bB (aC 6) (QP.v aF)) aS))) dC)))) rfl (eA rfl) (show List.Nodup ([4]:List Nat) by decide) (fun j hj=>by have h:j∈([4]:List Nat):=hj;simp only [List.mem_cons,List.not_mem_nil,or_false] at h;rcases h with rfl<;>rfl)))
 (aN (bH 7 gZ.nd rfl (.inl rfl) rfl rfl (kW db fg hr rfl (bK (aC 0) (bK (bB (bB (aC 6) (QP.v aF)) (aC 9)) (bK (aC 2) (bK (aC 3) (iW 4 (bK (aC 5) dC)))))) rfl (eA rfl) (show List.Nodup ([4]:List Nat) by decide) (fun j hj=>by have h:j∈([4]:List Nat):=hj;simp only [List.mem_cons,List.not_mem_nil,or_false] at h;rcases h with rfl<;>rfl)))))
  (aN (bH 7 gZ.nd rfl (.inl rfl) rfl rfl (kW ck jd hr rfl (bK (aC 6) (bK (aC 2) (bK (aC 3) (iW 4 dC)))) rfl (eA rfl) (show List.Nodup ([4]:List Nat) by decide) (fun j hj=>by have h:j∈([4]:List Nat):=hj;simp only [List.mem_cons,List.not_mem_nil,or_false] at h;rcases h with rfl<;>rfl)))))))))
 (aN (cG (QT.e (uG (gL (aC 7))))
  (aN (bM (QP.e jW)))
  cB)))))
 (aN (bM (QP.e jW))))
def zf3(da:(tz7)):tz1:=
 (aU (aT 3 (aH (cT (aB (fC (.str "")) (aB (cT aE) (aB (fC (.int 0)) aE))))))
 (aU (fIf (fTE (fIO [.im (aA 0),.im (aA 1),.im (fC (.bl false)),.im (fC (.int 0)),.io 3,.im (aA 2)] da))
  (cA (aH (bN (aB (aQ (f2 dIx (aA 3) (fC (.int 0)))) (aB (aJ gB (aB (f2 dIx (aA 3) (fC (.int 1))) aE)) aE)))))
  bO)
 (aU (aT 3 (aH (cT (aB (fC (.str "")) (aB (cT aE) (aB (fC (.int 0)) aE))))))
 (aU (cM (fIO [.im (aA 0),.im (aA 1),.im (fC (.bl false)),.im (fC (.int 0)),.io 3,.im (fC (.int 0))] da))
 (cA (aH (bN (aB (aQ (f2 dIx (aA 3) (fC (.int 0)))) (aB (aJ gB (aB (f2 dIx (aA 3) (fC (.int 1))) aE)) aE)))))))))
abbrev qR:Stmt:=top 39
abbrev nQ:List Str:=["_law_script","_law_row_here","_law_salt"]
theorem qO:FnScope ["_law_script","_law_row_here","_law_salt","_law_state"] nQ (aX qR):=cL
theorem yi8(fj:Dn K mg "_law_drawn" qR nQ f fd)
  (db:Dn K mg "_law_set" wB oJ om nv) (fg:FnOk P w K mg base CX0 n om nv oJ (SpE 6 K κ (bQ [false,false,false,false,true,false]) da))
  (cb:mg "tuple"=none):
  FnOk P w K mg base CX0 (n+1) f fd nQ (SpP 3 K κ (gP 3 1 (zf3 da))):=
 cO fj.F qO fun cdv A outer s H E B hr=>
 (aL (bH 3 qO.nd rfl (.inl rfl) rfl rfl (QP.e (dR (aK bY (aK (dR bC) (aK aF bC))))))
 (aL (cG (xl8 (kW db fg hr rfl (bK (aC 0) (bK (aC 1) (bK (QP.v jW) (bK (QP.v aF) (iW 3 (bK (aC 2) dC)))))) rfl (eA rfl) (show List.Nodup ([3]:List Nat) by decide) (fun j hj=>by have h:j∈([3]:List Nat):=hj;simp only [List.mem_cons,List.not_mem_nil,or_false] at h;rcases h with rfl<;>rfl)))
  (aN (bM (QP.e (cP (aK (QV.p (bB (aC 3) (QP.v aF))) (aK (kB qU rfl cb boot_tuple (aG (bB (aC 3) (QP.v aF)) aS)) bC))))))
  cB)
 (aL (bH 3 qO.nd rfl (.inl rfl) rfl rfl (QP.e (dR (aK bY (aK (dR bC) (aK aF bC))))))
 (aL (fE (kW db fg hr rfl (bK (aC 0) (bK (aC 1) (bK (QP.v jW) (bK (QP.v aF) (iW 3 (bK (QP.v aF) dC)))))) rfl (eA rfl) (show List.Nodup ([3]:List Nat) by decide) (fun j hj=>by have h:j∈([3]:List Nat):=hj;simp only [List.mem_cons,List.not_mem_nil,or_false] at h;rcases h with rfl<;>rfl)))
 (aN (bM (QP.e (cP (aK (QV.p (bB (aC 3) (QP.v aF))) (aK (kB qU rfl cb boot_tuple (aG (bB (aC 3) (QP.v aF)) aS)) bC))))))))))
def zH:tz1:=
 (aU (fJ 2 (kZ (aB (aJ oO (aB (aJ cZ (aB (aA 0) aE)) (aB (aJ cZ (aB (aA 1) aE)) aE))) aE))
  (fIf (aW (fB (f2 dNe (f2 dIx (aA 0) (aA 2)) (f2 dIx (aA 1) (aA 2)))))
  (cA (aH (f2 dGt (f2 dIx (aA 0) (aA 2)) (f2 dIx (aA 1) (aA 2)))))
  bO))
 (cA (aH (fC (.bl false)))))
abbrev oR:Stmt:=top 41
abbrev lI:List Str:=["_law_one","_law_other"]
theorem tT:FnScope ["_law_one","_law_other","_law_k"] lI (aX oR):=cL
theorem ya7(cz:Dn K mg "_law_behind" oR lI f fd)
  (ca:mg "range"=none)
  (kr:mg "min"=none)
  (ac:mg "len"=none):
  FnOk P w K mg base CX0 (n+1) f fd lI (SpP 2 K κ (gP 2 1 (zH))):=
 cO cz.F tT fun cdv A outer s H E B hr=>
 (aL (rJ 2 PassesOwn.never rfl tT.nd rfl (.inl rfl) rfl rfl (wW rfl ca (aG (QP.v (cS (yq0 rfl) rfl kr boot_min (aG (QP.v (cS iH rfl ac boot_len (aG (aC 0) aS))) (aG (QP.v (cS iH rfl ac boot_len (aG (aC 1) aS))) aS)))) aS))
  (aN (cG (QT.e (cF (yz0 (Room.units hr)) (bB (aC 0) (aC 2)) (bB (aC 1) (aC 2)) (bR _)))
  (aN (bM (QP.e (uF zg8 (bB (aC 0) (aC 2)) (bB (aC 1) (aC 2)) (bR _)))))
  cB)))
 (aN (bM (QP.e jW))))
def zf4(aj:(tz6)):tz1:=
 (aU (aT 2 (aH (aJ aj (aB (aA 0) (aB (fC (.int 1)) (aB (fC (.int 50)) aE))))))
 (aU (aT 3 (aH (aJ zq3 (aB (gR [none] (eL (fMt rW (aA 1) (aB (fC (.str "\n")) aE))) gI (aJ cZ (aB (aA 0) aE))) aE))))
 (aU (aT 4 (aH (f2 dIx (cT (aB (aQ (aA 3)) (aB (f2 bP (aA 3) (f2 dG (f2 fP (aA 2) (fC (.int 4))) (fC (.int 4)))) (aB (f2 bP (fC (.int 8)) (f2 dG (f2 fP (aA 2) (fC (.int 4))) (fC (.int 20)))) (aB (f2 bP (fC (.int 1)) (f2 dG (f2 fP (aA 2) (fC (.int 4))) (fC (.int 40)))) aE))))) (f2 dG (aA 2) (fC (.int 4))))))
 (cA (aH (aJ oO (aB (fC (.int 40)) (aB (aJ vT (aB (fC (.int 1)) (aB (aA 4) aE))) aE))))))))
abbrev nR:Stmt:=top 42
abbrev nS:List Str:=["_law_script","_law_text"]
theorem mZ:FnScope ["_law_script","_law_text","_law_number","_law_longest","_law_width_here"] nS (aX nR):=cL
theorem yi9(fk:Dn K mg "_law_width" nR nS f fd)
  (ao:Dn K mg "_law_mixed" jI gS cr ce) (aw:FnOk P w K mg base CX0 n cr ce gS (SpP 3 K κ aj))
  (jv:mg "max"=none)
  (kr:mg "min"=none)
  (ac:mg "len"=none):
  FnOk P w K mg base CX0 (n+1) f fd nS (SpP 2 K κ (gP 2 3 (zf4 aj))):=
 cO fk.F mZ fun cdv A outer s H E B hr=>
 (aL (bH 2 mZ.nd rfl (by first|exact Or.inl rfl|exact Or.inr rfl) rfl rfl (QP.e (cR ao aw hr rfl rfl (aG (aC 0) (aG (QP.v aF) (aG (QP.v aF) aS))) (aO (aO (aO bS))))))
 (aL (bH 3 mZ.nd rfl (by first|exact Or.inl rfl|exact Or.inr rfl) rfl rfl (QP.e (cS (xu3 rfl) rfl jv boot_max (aG (QP.v (qX (sc:=aX nR) (NX:=["_law_script","_law_text","_law_number","_law_longest","_law_width_here"]) (N:=["_law_line_here"]) (pick:=[none]) ⟨rfl,by decide+kernel,by decide+kernel,by decide+kernel,by decide+kernel,by decide,rfl⟩ rfl rfl rfl (uI (QP.v (zp0 PySem.F.slot_str_split PySem.F.type_str_split yc4 (aC 1) (aG (QP.v bY) aS)))) (fun _ _ _ _=>(eN (i:=0) (show(["_law_line_here"]:List Str).Nodup by decide) rfl (by first|exact Or.inl rfl|exact Or.inr rfl))) (fun _ _ _ _=>qW) (fun _ _ _ _=>(cS iH rfl ac boot_len (aG (aC 0) aS))))) aS))))
 (aL (bH 4 mZ.nd rfl (by first|exact Or.inl rfl|exact Or.inr rfl) rfl rfl (QP.e (sK (dR (aK (QV.p (aC 3)) (aK (bD dJ (aC 3) (QP.v (bD fS (QP.v (bD lL (aC 2) (QP.v aF))) (QP.v aF)))) (aK (bD dJ (QP.v aF) (QP.v (bD fS (QP.v (bD lL (aC 2) (QP.v aF))) (QP.v aF)))) (aK (bD dJ (QP.v aF) (QP.v (bD fS (QP.v (bD lL (aC 2) (QP.v aF))) (QP.v aF)))) bC))))) (QP.v (bD fS (aC 2) (QP.v aF))))))
 (aN (bM (QP.e (cS (yq0 rfl) rfl kr boot_min (aG (QP.v aF) (aG (QP.v (cS (xt8 rfl) rfl jv boot_max (aG (QP.v aF) (aG (aC 4) aS)))) aS)))))))))
def zn8:tz1:=
 (aU (mD [3,4,5,6] (aH (aQ (aA 0))))
 (aU (aT 7 (aH (f2 bP (aA 5) (f2 gA (f2 iY (aA 2) (aA 3)) (f2 iY (aA 2) (aA 3))))))
 (aU (fIf (aW (fB (f2 dEq (f2 dIx (aA 1) (fC (.int 0))) (fC (.str "word")))))
  (cA (aH (bN (aB (f2 bP (aA 3) (aJ cZ (aB (f2 dIx (aA 1) (fC (.int 1))) aE))) (aB (aQ (aA 4)) (aB (aQ (aA 5)) (aB (aQ (aA 6)) aE)))))))
  bO)
 (aU (fIf (aW (dN (fB (f2 dEq (f2 dIx (aA 1) (fC (.int 0))) (fC (.str "stop")))) (fB (f2 dLe (aA 3) (f2 dIx (aA 1) (fC (.int 1)))))))
  (cA (aH (bN (aB (aQ (f2 dIx (aA 1) (fC (.int 1)))) (aB (aQ (aA 4)) (aB (aQ (aA 5)) (aB (aQ (aA 6)) aE)))))))
  bO)
 (aU (fIf (aW (fB (f2 dEq (f2 dIx (aA 1) (fC (.int 0))) (fC (.str "stop")))))
  (cA (aH (bN (aB (aQ (f2 dIx (aA 1) (fC (.int 1)))) (aB (f2 bP (aA 4) (fC (.int 1))) (aB (aQ (aA 7)) (aB (aQ (aA 6)) aE)))))))
  bO)
 (cA (aH (bN (aB (fC (.int 0)) (aB (f2 bP (aA 4) (fC (.int 1))) (aB (aQ (aA 7)) (aB (aQ (aA 6)) aE))))))))))))
abbrev tK:Stmt:=top 43
abbrev pX:List Str:=["_law_road","_law_piece","_law_width_here"]
theorem kE:FnScope ["_law_road","_law_piece","_law_width_here","_law_length","_law_lines","_law_rag","_law_choices","_law_ended"] pX (aX tK):=cL
theorem ys3(g7:Dn K mg "_law_gone" tK pX f fd)
  (ac:mg "len"=none):
  FnOk P w K mg base CX0 (n+1) f fd pX (SpP 3 K κ (gP 3 5 (zn8))):=
 cO g7.F kE fun cdv A outer s H E B hr=>
 (aL (zl2 (is:=[3,4,5,6]) rfl (iP (eN (i:=3) kE.nd rfl (.inl rfl)) (iP (eN (i:=4) kE.nd rfl (.inl rfl)) (iP (eN (i:=5) kE.nd rfl (.inl rfl)) (iP (eN (i:=6) kE.nd rfl (.inl rfl)) zg0)))) (QP.e (QV.p (aC 0))) (fun j hj=>by simp only [List.mem_cons,List.not_mem_nil,or_false] at hj;rcases hj with rfl|rfl|rfl|rfl<;>exact⟨rfl,rfl⟩))
 (aL (bH 7 kE.nd rfl (.inl rfl) rfl rfl (QP.e (bD dJ (aC 5) (QP.v (bD qL (QP.v (bD mV (aC 2) (aC 3))) (QP.v (bD mV (aC 2) (aC 3))))))))
 (aL (cG (QT.e (cF (fW (Room.units hr)) (bB (aC 1) (QP.v aF)) (QP.v bY) (bR _)))
  (aN (bM (QP.e (cP (aK (bD dJ (aC 3) (QP.v (cS iH rfl ac boot_len (aG (bB (aC 1) (QP.v aF)) aS)))) (aK (QV.p (aC 4)) (aK (QV.p (aC 5)) (aK (QV.p (aC 6)) bC))))))))
  cB)
 (aL (cG (QT.e (rH (lF (cF (fW (Room.units hr)) (bB (aC 1) (QP.v aF)) (QP.v bY) (bR _)) (kT (cF zs4 (aC 3) (bB (aC 1) (QP.v aF)) (bR _))))))
  (aN (bM (QP.e (cP (aK (QV.p (bB (aC 1) (QP.v aF))) (aK (QV.p (aC 4)) (aK (QV.p (aC 5)) (aK (QV.p (aC 6)) bC))))))))
  cB)
 (aL (cG (QT.e (cF (fW (Room.units hr)) (bB (aC 1) (QP.v aF)) (QP.v bY) (bR _)))
  (aN (bM (QP.e (cP (aK (QV.p (bB (aC 1) (QP.v aF))) (aK (bD dJ (aC 4) (QP.v aF)) (aK (QV.p (aC 7)) (aK (QV.p (aC 6)) bC))))))))
  cB)
 (aN (bM (QP.e (cP (aK aF (aK (bD dJ (aC 4) (QP.v aF)) (aK (QV.p (aC 7)) (aK (QV.p (aC 6)) bC)))))))))))))
def zy8(lm:(tz6))(iz:(tz6)):tz1:=
 (aU (aT 3 (aH nI))
 (aU (fJ 4 (eL (aA 0))
  (aU (aT 5 (aH (aJ lm (aB (aA 4) (aB (aA 1) (aB (aA 2) aE))))))
 (fIf (aW (fB (f2 dLe (f2 dIx (aA 5) (fC (.int 0))) (aA 2))))
  (aU (aT 6 (aH (aQ (yR (aA 3) (f2 dIx (aA 5) (fC (.int 0))) (aA 5)))))
 (aU (fIf (aW (fB (f2 dNe (bN (aB (aQ (f2 dIx (aA 5) (fC (.int 1)))) (aB (aQ (f2 dIx (aA 5) (fC (.int 2)))) aE))) (bN (aB (aQ (f2 dIx (aA 6) (fC (.int 1)))) (aB (aQ (f2 dIx (aA 6) (fC (.int 2)))) aE))))))
  (fIf (aW (fT (aJ iz (aB (bN (aB (aQ (f2 dIx (aA 6) (fC (.int 1)))) (aB (aQ (f2 dIx (aA 6) (fC (.int 2)))) aE))) (aB (bN (aB (aQ (f2 dIx (aA 5) (fC (.int 1)))) (aB (aQ (f2 dIx (aA 5) (fC (.int 2)))) aE))) aE)))))
  (aT 6 (aH (aQ (aA 5))))
  bO)
  (fIf (aW (fT (aJ iz (aB (f2 dIx (aA 6) (fC (.int 3))) (aB (f2 dIx (aA 5) (fC (.int 3))) aE)))))
  (aT 6 (aH (aQ (aA 5))))
  bO))
 (lA 3 bU (f2 dIx (aA 5) (fC (.int 0))) (aQ (aA 6)))))
  bO)))
 (cA (aH (gR [none,some 3] (eL (aJ pH (aB (aA 3) aE))) gI (aQ (f2 eQ (aA 1) (aA 0))))))))
abbrev sE:Stmt:=top 44
abbrev sF:List Str:=["_law_found","_law_piece","_law_width_here"]
theorem kF:FnScope ["_law_found","_law_piece","_law_width_here","_law_best","_law_road","_law_gone_here","_law_ahead"] sF (aX sE):=cL
theorem xa6(i5:Dn K mg "_law_due" sE sF f fd)
  (g7:Dn K mg "_law_gone" tK pX nz my) (lq:FnOk P w K mg base CX0 n nz my pX (SpP 3 K κ lm))
  (cz:Dn K mg "_law_behind" oR lI l3 k7) (i3:FnOk P w K mg base CX0 n l3 k7 lI (SpP 2 K κ iz))
  (gy:mg "sorted"=none):
  FnOk P w K mg base CX0 (n+1) f fd sF (SpP 3 K κ (gP 3 4 (zy8 lm iz))):=
 cO i5.F kF fun cdv A outer s H E B hr=>
 (aL (bH 3 kF.nd rfl (by first|exact Or.inl rfl|exact Or.inr rfl) rfl rfl (QP.e zt8))
 (aL (zg9 4 0 PassesOwn.never rfl kF.nd rfl (by first|exact Or.inl rfl|exact Or.inr rfl) rfl rfl rfl
  (aL (bH 5 kF.nd rfl (by first|exact Or.inl rfl|exact Or.inr rfl) rfl rfl (QP.e (cR g7 lq hr rfl rfl (aG (aC 4) (aG (aC 1) (aG (aC 2) aS))) (aO (aO (aO bS))))))
 (aN (cG (QT.e (cF zs4 (bB (aC 5) (QP.v aF)) (aC 2) (bR _)))
  (aL (bH 6 kF.nd rfl (by first|exact Or.inl rfl|exact Or.inr rfl) rfl rfl (QP.e (QV.p (xm7 (mT hr) (aC 3) (bB (aC 5) (QP.v aF)) (aC 5)))))
 (aL (cG (QT.e (cF (yz0 (Room.units hr)) (QP.v (cP (aK (QV.p (bB (aC 5) (QP.v aF))) (aK (QV.p (bB (aC 5) (QP.v aF))) bC)))) (QP.v (cP (aK (QV.p (bB (aC 6) (QP.v aF))) (aK (QV.p (bB (aC 6) (QP.v aF))) bC)))) (bR _)))
  (aN (cG (QT.e (gL (QP.v (cR cz i3 hr rfl rfl (aG (QP.v (cP (aK (QV.p (bB (aC 6) (QP.v aF))) (aK (QV.p (bB (aC 6) (QP.v aF))) bC)))) (aG (QP.v (cP (aK (QV.p (bB (aC 5) (QP.v aF))) (aK (QV.p (bB (aC 5) (QP.v aF))) bC)))) aS)) (aO (aO bS))))))
  (aN (bH 6 kF.nd rfl (by first|exact Or.inl rfl|exact Or.inr rfl) rfl rfl (QP.e (QV.p (aC 5)))))
  cB))
  (aN (cG (QT.e (gL (QP.v (cR cz i3 hr rfl rfl (aG (bB (aC 6) (QP.v aF)) (aG (bB (aC 5) (QP.v aF)) aS)) (aO (aO bS))))))
  (aN (bH 6 kF.nd rfl (by first|exact Or.inl rfl|exact Or.inr rfl) rfl rfl (QP.e (QV.p (aC 5)))))
  cB)))
 (aN (yd0 (j:=3) (mT hr) rfl (QV.p (aC 6)) (cH 3) (bB (aC 5) (QP.v aF))))))
  cB))))
 (aN (bM (QP.e (qX (sc:=aX sE) (NX:=["_law_found","_law_piece","_law_width_here","_law_best","_law_road","_law_gone_here","_law_ahead"]) (N:=["_law_length","_law_best"]) (pick:=[none,some 3]) ⟨rfl,by decide+kernel,by decide+kernel,by decide+kernel,by decide+kernel,by decide,rfl⟩ rfl rfl rfl (uI (QP.v (cS (zt9 rfl) rfl gy boot_sorted (aG (aC 3) aS)))) (fun _ _ _ _=>(eN (i:=0) (show(["_law_length","_law_best"]:List Str).Nodup by decide) rfl (by first|exact Or.inl rfl|exact Or.inr rfl))) (fun _ _ _ _=>qW) (fun _ _ _ _=>(QV.p (nZ (mT hr) (aC 1) (aC 0))))))))))
def yw6(ma:(tz6))(aj:(tz6))(kh:(tz6))(ki:(tz6))(jl:(tz6))(et:(tz6))(me:(tz6)):tz1:=
 (aU (aT 1 (aH (aJ ma (aB (aA 0) (aB (fC (.int 8)) (aB (f2 dG (aJ aj (aB (aA 0) (aB (fC (.int 0)) (aB (fC (.int 51)) aE)))) (fC (.int 21))) (aB (fC (.int 3)) aE)))))))
 (aU (aT 2 (aH (aJ kh (aB (aA 0) (aB (f2 dIx (aJ ki (aB (aA 0) (aB (aA 1) (aB (fC (.int 1)) aE)))) (fC (.int 0))) aE)))))
 (aU (aT 3 (aH (aJ jl (aB (aA 1) (aB (aA 2) aE)))))
 (aU (fJ 4 (kZ (aB (fC (.int 6)) aE))
  (aU (aT 5 (aH (aJ et (aB (aJ aj (aB (aA 0) (aB (f2 bP (fC (.int 30)) (aA 4)) (aB (fC (.int 52)) aE)))) aE))))
 (fIf (aW (fB (f2 dNe (aJ jl (aB (f2 bP (aA 1) (bN (aB (aQ (aA 5)) aE))) (aB (aA 2) aE))) (aJ me (aB (aA 3) (aB (aA 5) (aB (aA 2) aE)))))))
  (cA (aH (fC (.bl false))))
  bO)))
 (cA (aH (fC (.bl true))))))))
abbrev zy9:Stmt:=top 45
abbrev zz0:List Str:=["_law_script"]
theorem rO:FnScope ["_law_script","_law_row_here","_law_width_here","_law_found","_law_k","_law_piece"] zz0 (aX zy9):=cL
theorem xu4(ox:Dn K mg "law" zy9 zz0 f fd)
  (i4:Dn K mg "_law_row" vZ sC on n6) (mf:FnOk P w K mg base CX0 n on n6 sC (SpP 4 K κ ma))
  (ao:Dn K mg "_law_mixed" jI gS cr ce) (aw:FnOk P w K mg base CX0 n cr ce gS (SpP 3 K κ aj))
  (fk:Dn K mg "_law_width" nR nS mz l4) (kj:FnOk P w K mg base CX0 n mz l4 nS (SpP 2 K κ kh))
  (fj:Dn K mg "_law_drawn" qR nQ m6 l5) (kl:FnOk P w K mg base CX0 n m6 l5 nQ (SpP 3 K κ ki))
  (dg:Dn K mg "roads" nO nP m7 l6) (jm:FnOk P w K mg base CX0 n m7 l6 nP (SpP 2 K κ jl))
  (cu:Dn K mg "_law_leaf" pR kP jy jj) (g4:FnOk P w K mg base CX0 n jy jj kP (SpP 1 K κ et))
  (i5:Dn K mg "_law_due" sE sF oo n8) (mh:FnOk P w K mg base CX0 n oo n8 sF (SpP 3 K κ me))
  (ca:mg "range"=none):
  FnOk P w K mg base CX0 (n+1) f fd zz0 (SpP 1 K κ (gP 1 5 (yw6 ma aj kh ki jl et me))):=
 cO ox.F rO fun cdv A outer s H E B hr=>
 (aL (bH 1 rO.nd rfl (.inl rfl) rfl rfl (QP.e (cR i4 mf hr rfl rfl (aG (aC 0) (aG (QP.v aF) (aG (QP.v (bD fS (QP.v (cR ao aw hr rfl rfl (aG (aC 0) (aG (QP.v aF) (aG (QP.v aF) aS))) (aO (aO (aO bS))))) (QP.v aF))) (aG (QP.v aF) aS)))) (aO (aO (aO (aO bS)))))))
 (aL (bH 2 rO.nd rfl (.inl rfl) rfl rfl (QP.e (cR fk kj hr rfl rfl (aG (aC 0) (aG (QP.v (sK (cR fj kl hr rfl rfl (aG (aC 0) (aG (aC 1) (aG (QP.v aF) aS))) (aO (aO (aO bS)))) (QP.v aF))) aS)) (aO (aO bS)))))
 (aL (bH 3 rO.nd rfl (.inl rfl) rfl rfl (QP.e (cR dg jm hr rfl rfl (aG (aC 1) (aG (aC 2) aS)) (aO (aO bS)))))
 (aL (rJ 4 PassesOwn.never rfl rO.nd rfl (.inl rfl) rfl rfl (wW rfl ca (aG (QP.v aF) aS))
  (aL (bH 5 rO.nd rfl (.inl rfl) rfl rfl (QP.e (cR cu g4 hr rfl rfl (aG (QP.v (cR ao aw hr rfl rfl (aG (aC 0) (aG (QP.v (bD dJ (QP.v aF) (aC 4))) (aG (QP.v aF) aS))) (aO (aO (aO bS))))) aS) (aO bS))))
 (aN (cG (QT.e (cF (yz0 (Room.units hr)) (QP.v (cR dg jm hr rfl rfl (aG (QP.v (bD dJ (aC 1) (QP.v (cP (aK (QV.p (aC 5)) bC))))) (aG (aC 2) aS)) (aO (aO bS)))) (QP.v (cR i5 mh hr rfl rfl (aG (aC 3) (aG (aC 5) (aG (aC 2) aS))) (aO (aO (aO bS))))) (bR _)))
  (aN (bM (QP.e jW)))
  cB))))
 (aN (bM (QP.e jW)))))))
def wQ:tz1:=
 (aU (mP 0 bU "Place" "broken" (aQ (aA 1)))
 (mP 0 bU "Place" "margin" (aQ (aA 2))))
abbrev st_Place_init:Stmt:=oF (top 2) 0
abbrev ps_Place_init:List Str:=["self","broken","margin"]
theorem wM:FnScope ["self","broken","margin"] ps_Place_init (aX st_Place_init):=cL
theorem zo5(c8:Kn K mg κ "Place" "Place.__init__" st_Place_init ps_Place_init f fd)
  (am:Cls K (κ "Place"))
  (av:cY K (κ "Place") "broken")
  (bx:cY K (κ "Place") "margin"):
  FnOk P w K mg base CX0 (n+1) f fd ps_Place_init (SpE 3 K κ (bQ [true,false,false]) (gE 3 0 (bQ [true,false,false]) (wQ))):=
 mW c8.F wM (fun i hi=>gX hi) fun cdv A outer s H E hr=>
 (aL (oY (C:="Place") am av rfl (QV.p (aC 1)) (cH 0))
 (aN (oY (C:="Place") am bx rfl (QV.p (aC 2)) (cH 0))))
def qG:tz1:=
 (aU (mP 0 bU "Front" "steps" (aQ (aA 1)))
 (mP 0 bU "Front" "best" nI))
abbrev st_Front_init:Stmt:=oF (top 12) 0
abbrev ps_Front_init:List Str:=["self","steps"]
theorem wN:FnScope ["self","steps"] ps_Front_init (aX st_Front_init):=cL
theorem zo6(ba:Kn K mg κ "Front" "Front.__init__" st_Front_init ps_Front_init f fd)
  (aa:Cls K (κ "Front"))
  (bb:cY K (κ "Front") "steps")
  (ai:cY K (κ "Front") "best"):
  FnOk P w K mg base CX0 (n+1) f fd ps_Front_init (SpE 2 K κ (bQ [true,false]) (gE 2 0 (bQ [true,false]) (qG))):=
 mW ba.F wN (fun i hi=>gX hi) fun cdv A outer s H E hr=>
 (aL (oY (C:="Front") aa bb rfl (QV.p (aC 1)) (cH 0))
 (aN (oY (C:="Front") aa ai rfl zt8 (cH 0))))
def kR:tz1:=
 (fIf (aW (vS (fB (f2 jR (aA 1) (cU "Front" "best" (aA 0)))) (fB (f2 zy5 (aA 2) (f2 eQ (cU "Front" "best" (aA 0)) (aA 1))))))
  (lA 0 (yl1 0 bU "Front" "best") (aA 1) (aQ (aA 2)))
  bO)
abbrev st_Front_add:Stmt:=oF (top 12) 1
abbrev ps_Front_add:List Str:=["self","state","way"]
theorem xG:FnScope ["self","state","way"] ps_Front_add (aX st_Front_add):=cL
theorem zu4(ah:Mn K κ "Front" "add" "Front.add" st_Front_add ps_Front_add f fd)
  (aa:Cls K (κ "Front"))
  (ai:cY K (κ "Front") "best"):
  FnOk P w K mg base CX0 (n+1) f fd ps_Front_add (SpE 3 K κ (bQ [true,false,false]) (gE 3 0 (bQ [true,false,false]) (kR))):=
 mW ah.F xG (fun i hi=>gX hi) fun cdv A outer s H E hr=>
 (aN (cG (QT.e (rH (xg5 (yr2 (mT hr) (aC 1) (dS (C:="Front") aa ai (aC 0))) (yp5 (cF (wa6 (Room.units hr)) (aC 2) (nZ (mT hr) (dS (C:="Front") aa ai (aC 0)) (aC 1)) (bR _))))))
  (aN (yd0 (j:=0) (mT hr) rfl (QV.p (aC 2)) (yq4 (C:="Front") aa ai (cH 0)) (aC 1)))
  cB))
def jM(ag:(tz7)):tz1:=
 (fJ 2 (uV (aQ (cU "Front" "best" (aA 1))))
  (cM (dI 0 bU (cK [.im (aA 2),.im (f2 eQ (cU "Front" "best" (aA 1)) (aA 2))]) (iK "Front" "add" ag))))
abbrev st_Front_add_all:Stmt:=oF (top 12) 2
abbrev ps_Front_add_all:List Str:=["self","other"]
theorem lZ:FnScope ["self","other","state"] ps_Front_add_all (aX st_Front_add_all):=cL
theorem zT(bo:Mn K κ "Front" "add_all" "Front.add_all" st_Front_add_all ps_Front_add_all f fd)
  (ah:Mn K κ "Front" "add" "Front.add" st_Front_add ps_Front_add bz bi) (aq:FnOk P w K mg base CX0 n bz bi ps_Front_add (SpE 3 K κ (bQ [true,false,false]) ag))
  (aa:Cls K (κ "Front"))
  (ai:cY K (κ "Front") "best"):
  FnOk P w K mg base CX0 (n+1) f fd ps_Front_add_all (SpE 2 K κ (bQ [true,false]) (gE 2 1 (bQ [true,false]) (jM ag))):=
 mW bo.F lZ (fun i hi=>gX hi) fun cdv A outer s H E hr=>
 (aN (rJ 2 PassesOwn.never rfl lZ.nd rfl (.inl rfl) rfl rfl (zh4 (QV.p (dS (C:="Front") aa ai (aC 1))))
  (aN (fE (uK ah aq hr rfl (cH 0) (bK (aC 2) (bK (nZ (mT hr) (dS (C:="Front") aa ai (aC 1)) (aC 2)) dC)) rfl rfl (eB 2))))))
def jU:tz1:=
 (mP 0 bU "WithinWidth" "width" (aQ (aA 1)))
abbrev st_WithinWidth_init:Stmt:=oF (top 23) 0
abbrev ps_WithinWidth_init:List Str:=["self","width"]
theorem nW:FnScope ["self","width"] ps_WithinWidth_init (aX st_WithinWidth_init):=cL
theorem wR(b9:Kn K mg κ "WithinWidth" "WithinWidth.__init__" st_WithinWidth_init ps_WithinWidth_init f fd)
  (al:Cls K (κ "WithinWidth"))
  (cg:cY K (κ "WithinWidth") "width"):
  FnOk P w K mg base CX0 (n+1) f fd ps_WithinWidth_init (SpE 2 K κ (bQ [true,false]) (gE 2 0 (bQ [true,false]) (jU))):=
 mW b9.F nW (fun i hi=>gX hi) fun cdv A outer s H E hr=>
 (aN (oY (C:="WithinWidth") al cg rfl (QV.p (aC 1)) (cH 0)))
def jC(jp:(tz6))(dt:(tz6))(bu:(tz6))(c5:(tz6)):tz1:=
 (aU (aT 5 (aH (aJ jp (aB (aA 3) (aB (aA 4) (aB (aA 1) aE))))))
 (aU (fIf (aW (fB (f2 dIs (aA 5) (fC .non))))
  (cA (aH (fC .non)))
  bO)
 (aU (aT 6 (aH (aJ dt (aB (aA 1) (aB (aA 5) aE)))))
 (aU (fIf (aW (fB (f2 dGt (aA 6) (cU "WithinWidth" "width" (aA 0)))))
  (cA (aH (fC .non)))
  bO)
 (aU (fIf (aW (fT (aJ bu (aB (aA 5) aE))))
  (cA (aH (bN (aB (aQ (aA 6)) (aB (bN (aB (f2 bP (f2 dIx (aA 2) (fC (.int 0))) (fC (.int 1))) (aB (f2 bP (f2 dIx (aA 2) (fC (.int 1))) (aJ c5 (aB (pI "WithinWidth" "rag_of" (aA 0)) (aB (aA 1) aE)))) aE))) aE)))))
  bO)
 (cA (aH (bN (aB (aQ (aA 6)) (aB (aQ (aA 2)) aE))))))))))
abbrev st_WithinWidth_state_behind:Stmt:=oF (top 23) 1
abbrev ps_WithinWidth_state_behind:List Str:=["self","length","cost","piece","place"]
theorem eK:FnScope ["self","length","cost","piece","place","wrote","column"] ps_WithinWidth_state_behind (aX st_WithinWidth_state_behind):=cL
theorem pC(af:Mn K κ "WithinWidth" "state_behind" "WithinWidth.state_behind" st_WithinWidth_state_behind ps_WithinWidth_state_behind f fd)
  (c9:Dn K mg "writing" nK kO k8 km) (jq:FnOk P w K mg base CX0 n k8 km kO (SpP 3 K κ jp))
  (az:Dn K mg "column_behind" iM gD iu ij) (du:FnOk P w K mg base CX0 n iu ij gD (SpP 2 K κ dt))
  (ax:Dn K mg "ends_line" jA fQ d8 dh) (b8:FnOk P w K mg base CX0 n d8 dh fQ (SpP 1 K κ bu))
  (au:Mn K κ "WithinWidth" "rag_of" "WithinWidth.rag_of" st_WithinWidth_rag_of ps_WithinWidth_rag_of gq fm) (c6:FnOk P w K mg base CX0 n gq fm ps_WithinWidth_rag_of (SpP 2 K κ c5))
  (al:Cls K (κ "WithinWidth"))
  (cg:cY K (κ "WithinWidth") "width"):
  FnOk P w K mg base CX0 (n+1) f fd ps_WithinWidth_state_behind (SpP 5 K κ (gP 5 2 (jC jp dt bu c5))):=
 cO af.F eK fun cdv A outer s H E B hr=>
 (aL (bH 5 eK.nd rfl (.inl rfl) rfl rfl (QP.e (cR c9 jq hr rfl rfl (aG (aC 3) (aG (aC 4) (aG (aC 1) aS))) (aO (aO (aO bS))))))
 (aL (cG (QT.e (cF wd9 (aC 5) (QP.v rG) (bR _)))
  (aN (bM (QP.e rG)))
  cB)
 (aL (bH 6 eK.nd rfl (.inl rfl) rfl rfl (QP.e (cR az du hr rfl rfl (aG (aC 1) (aG (aC 5) aS)) (aO (aO bS)))))
 (aL (cG (QT.e (cF zg8 (aC 6) (dS (C:="WithinWidth") al cg (aC 0)) (bR _)))
  (aN (bM (QP.e rG)))
  cB)
 (aL (cG (QT.e (gL (QP.v (cR ax b8 hr rfl rfl (aG (aC 5) aS) (aO bS)))))
  (aN (bM (QP.e (cP (aK (QV.p (aC 6)) (aK (cP (aK (bD dJ (bB (aC 2) (QP.v aF)) (QP.v aF)) (aK (bD dJ (bB (aC 2) (QP.v aF)) (QP.v (zu1 au c6 hr (aC 0) rfl (aG (aC 1) aS) (aO bS)))) bC))) bC))))))
  cB)
 (aN (bM (QP.e (cP (aK (QV.p (aC 6)) (aK (QV.p (aC 2)) bC)))))))))))
def mQ:tz1:=
 (cA (aH (f2 gA (f2 iY (cU "WithinWidth" "width" (aA 0)) (aA 1)) (f2 iY (cU "WithinWidth" "width" (aA 0)) (aA 1)))))
abbrev st_WithinWidth_rag_of:Stmt:=oF (top 23) 2
abbrev ps_WithinWidth_rag_of:List Str:=["self","length"]
theorem mI:FnScope ["self","length"] ps_WithinWidth_rag_of (aX st_WithinWidth_rag_of):=cL
theorem uM(au:Mn K κ "WithinWidth" "rag_of" "WithinWidth.rag_of" st_WithinWidth_rag_of ps_WithinWidth_rag_of f fd)
  (al:Cls K (κ "WithinWidth"))
  (cg:cY K (κ "WithinWidth") "width"):
  FnOk P w K mg base CX0 (n+1) f fd ps_WithinWidth_rag_of (SpP 2 K κ (gP 2 0 (mQ))):=
 cO au.F mI fun cdv A outer s H E B hr=>
 (aN (bM (QP.e (bD qL (QP.v (bD mV (dS (C:="WithinWidth") al cg (aC 0)) (aC 1))) (QP.v (bD mV (dS (C:="WithinWidth") al cg (aC 0)) (aC 1)))))))
end L3
namespace My
open PySem PySem.Spec PyProof.Rows L2 L3
def aZ:Leaf->D
 | .word x=> .tup [.str "word",.str x]
 | .gap x=> .tup [.str "gap",.str x]
 | .stop c=> .tup [.str "stop",.int c]
 | .fin=> .tup [.str "end"]
mutual
def pcD:Pc->D
 | .leaf l=>aZ l
 | .group r=> .tup [.str "group",.tup (pcsD r)]
 | .hang n r=> .tup [.str "hang",.int n,.tup (pcsD r)]
 | .either rs=> .tup [.str "either",.tup (rowsD rs)]
def pcsD:List Pc->List D
 |[]=>[]
 |p::r=>pcD p::pcsD r
def rowsD:List (List Pc)->List D
 |[]=>[]
 |r::rs=> .tup (pcsD r)::rowsD rs
end
theorem zu5(l:Leaf):(aZ l).imm=true:=by cases l<;>rfl
mutual
theorem xH:∀p:Pc,(pcD p).imm=true
 | .leaf l=>zu5 l
 | .group r=>by show(D.imm (.str "group")&&(D.imm (.tup (pcsD r))&&D.imms []))=true;rw [show D.imm (.tup (pcsD r))=D.imms (pcsD r) from rfl,pcs_imm r];rfl
 | .hang n r=>by show(D.imm (.str "hang")&&(D.imm (.int n)&&(D.imm (.tup (pcsD r))&&D.imms [])))=true;rw [show D.imm (.tup (pcsD r))=D.imms (pcsD r) from rfl,pcs_imm r];rfl
 | .either rs=>by show(D.imm (.str "either")&&(D.imm (.tup (rowsD rs))&&D.imms []))=true;rw [show D.imm (.tup (rowsD rs))=D.imms (rowsD rs) from rfl,rows_imm rs];rfl
theorem pcs_imm:∀r:List Pc,D.imms (pcsD r)=true
 |[]=>rfl
 |p::r=>by show(D.imm (pcD p)&&D.imms (pcsD r))=true;rw [xH p,pcs_imm r];rfl
theorem rows_imm:∀rs:List (List Pc),D.imms (rowsD rs)=true
 |[]=>rfl
 |r::rs=>by show(D.imm (.tup (pcsD r))&&D.imms (rowsD rs))=true;rw [show D.imm (.tup (pcsD r))=D.imms (pcsD r) from rfl,pcs_imm r,rows_imm rs];rfl
end
theorem vF:∀a b:List Pc,pcsD (a++b)=pcsD a++pcsD b
 |[],b=>rfl
 |p::a,b=>by show pcD p::pcsD (a++b)=pcD p::(pcsD a++pcsD b);rw [vF a b]
theorem xI:∀a b:List (List Pc),rowsD (a++b)=rowsD a++rowsD b
 |[],b=>rfl
 |p::a,b=>by show D.tup (pcsD p)::rowsD (a++b)=D.tup (pcsD p)::(rowsD a++rowsD b);rw [xI a b]
theorem vG:∀a:List Pc,(pcsD a).length=a.length
 |[]=>rfl
 |p::a=>by show(pcsD a).length+1=a.length+1;rw [vG a]
theorem jB:∀a:List (List Pc),(rowsD a).length=a.length
 |[]=>rfl
 |p::a=>by show(rowsD a).length+1=a.length+1;rw [jB a]
theorem yd3{α β:Type}(f:α->β)(hf:∀a b,f a=f b->a=b):∀{l m:List α},l.map f=m.map f->l=m
 |[],[],_=>rfl
 |[],_::_,h=>by simp at h
 |_::_,[],h=>by simp at h
 |a::l,b::m,h=>by
  simp only [List.map_cons,List.cons.injEq] at h
  rw [hf a b h.1,yd3 f hf h.2]
theorem fN(a b:String):(Str.ofString a=Str.ofString b)=(a=b):=by
 refine propext ⟨fun h=> ?_,fun h=>by rw [h]⟩
 rw [Str.ofString_eq_toList,Str.ofString_eq_toList] at h
 have h1:(a.toList.map Char.toNat).toArray=(b.toList.map Char.toNat).toArray:=(Str.mk.inj h)
 have h2:a.toList.map Char.toNat=b.toList.map Char.toNat:=by simpa using congrArg Array.toList h1
 have h3:a.toList=b.toList:=yd3 _ (fun x y e=>by
  have:Char.ofNat x.toNat=Char.ofNat y.toNat:=by rw [e]
  simpa using this) h2
 exact String.toList_inj.mp h3
theorem kG{α:Type}(a:α)(l:List α):atI (a::l) 0=some a:=by simp [atI,ixN]
theorem gQ{α:Type}(a b:α)(l:List α):atI (a::b::l) 1=some b:=by
 have h:ixN (a::b::l).length 1=some 1:=by unfold ixN;rw [if_pos (by decide),if_pos (by simp only [List.length_cons];omega)];rfl
 simp only [atI,h];rfl
theorem zu6{α:Type}(a b c:α)(l:List α):atI (a::b::c::l) 2=some c:=by
 have h:ixN (a::b::c::l).length 2=some 2:=by unfold ixN;rw [if_pos (by decide),if_pos (by simp only [List.length_cons];omega)];rfl
 simp only [atI,h];rfl
theorem sz{n:Nat}(h:n<=1000):n<=sizeLine:=zo9 h
theorem sz1{n:Nat}(h:n<=1000):n<sizeLine:=sI h
theorem ya8{rs:List (List Pc)}{r:List Pc}(h:r∈rs):(toksR r).length<=(toksMore rs).length:=by
 induction rs with
 |nil=>simp at h
 |cons q rs ih=>
  show _<=(Tk.orr::(toksR q++toksMore rs)).length
  rw [List.length_cons,List.length_append]
  rcases List.mem_cons.mp h with e|e
  ·subst e;omega
  ·have:=ih e;omega
theorem zG{rs:List (List Pc)}{r:List Pc}(h:r∈rs):(toksR r).length<=(toksRows rs).length:=by
 cases rs with
 |nil=>simp at h
 |cons q rs=>
  show _<=(toksR q++toksMore rs).length
  rw [List.length_append]
  rcases List.mem_cons.mp h with e|e
  ·subst e;omega
  ·have:=ya8 e;omega
theorem zU(n:Nat):ixN (n+1) (-1)=some n:=by
 unfold ixN
 rw [if_neg (by decide),if_pos (by omega)]
 congr 1
 omega
theorem zV{α:Type}(l:List α)(a b:α):(l++[a]).set l.length b=l++[b]:=by
 induction l with
 |nil=>rfl
 |cons x l ih=>show x::(l++[a]).set l.length b=_;rw [ih];rfl
theorem xu5(n:Nat):ixN (n+1) 0=some 0:=by unfold ixN;rw [if_pos (by decide),if_pos (by omega)];rfl
theorem yj0:ixN 3 1=some 1:=by decide
theorem xg7:ixN 3 2=some 2:=by decide
theorem gU(i j:Int):dG (.int i) (.int j)=if 0<j then some (.int (i % j)) else none:=by simp [dG,dII]
theorem mJ(i j:Int):fP (.int i) (.int j)=if 0<j/\j<1073741824 then some (.int (i/j)) else none:=by simp [fP,dII]
local macro_rules|`(tactic|simp! [$a,*] $[$l]?)=>`(tactic|simp [f2,aJ,aA,aE,aB,cA,fC,aH,fIf,D.imms,fT,D.imm,aU,aW,zi7,kG,bP,aQ,gQ,bO,dIx,aT,dB,fB,cM,cZ,cK,bU,fN,dI,iZ,eP,vS,gP,zu6,cT,bN,cW,dGe,dLt,dGt,iY,gB,iS,bQ,eU,eqB,gE,dN,za4,dEq,dLe,sT,hU,fIO,dNe,rX,fL,fKs,gU,mJ,cN,zy3,ze6,dIs,yl1,cU,wd5,eT,uU,mP,zV,fH,xu5,zU,L2.zr9,eL,yl0,fMt,$a,*] $[$l]?)
theorem cC(x y:Str):(x++y).cps.toList=x.cps.toList++y.cps.toList:=by
 show(x.cps++y.cps).toList=_
 simp
theorem dO(x y:Str):(x++y).length=x.length+y.length:=by
 show(x.cps++y.cps).size=x.cps.size+y.cps.size
 simp
def sg:Str:=("abcdefghijklmnopqrstuvwxyzABCDEFGHIJKLMNOPQRSTUVWXYZ0123456789":Str)++("!\"#$&'()*+,-./:;<=>?\x40[\\]^_`{|}~":Str)
theorem ys4:sg.cps.toList.length=93:=by decide+kernel
theorem xm8:sg.cps.toList.all yS=true:=by decide+kernel
theorem xm9:sg.length<=sizeLine:=by
 have e:sg.length=sg.cps.toList.length:=by simp [Str.length]
 rw [e,ys4];exact sz (by decide)
theorem qY{α:Type}(xs:List α)(i:Int)(h0:0<=i)(h1:i<xs.length):∃v∈xs,atI xs i=some v:=by
 have hn:i.toNat<xs.length:=by omega
 obtain⟨v,hv⟩:∃v,xs[i.toNat]? =some v:=⟨_,List.getElem?_eq_getElem hn⟩
 refine⟨v,List.mem_of_getElem? hv,?_⟩
 have e:i=((i.toNat:Nat):Int):=by omega
 rw [e]
 exact zg4 hv
theorem wa7(i:Int)(h0:0<=i)(h1:i<93):∃c,atI sg.cps.toList i=some c/\yS c=true:=by
 obtain⟨c,hc,e⟩:=qY sg.cps.toList i h0 (by rw [ys4];omega)
 exact⟨c,e,List.all_eq_true.mp xm8 c hc⟩
theorem xu6(n:Nat):eZ 0 n=((List.range n).map fun(k:Nat)=>(k:Int)).map .int:=by
 unfold eZ
 rw [List.map_map]
 refine List.map_congr_left fun k _=> ?_
 show D.int (0+(k:Int))=D.int (k:Int)
 rw [Int.zero_add]
theorem xn0(m:Int):∃s:Int,atI [D.int 1,.int 2,.int 3,.int 4,.int 5,.int 6,.int 7,.int 8,.int 10,.int 11,.int 9,.int 12] (m % 12)=some (.int s)/\1<=s/\s<=12:=by
 have h0:=Int.emod_nonneg m (show(12:Int)≠0 by decide)
 have h1:=Int.emod_lt_of_pos m (show(0:Int)<12 by decide)
 obtain⟨d,hd,e⟩:=qY [D.int 1,.int 2,.int 3,.int 4,.int 5,.int 6,.int 7,.int 8,.int 10,.int 11,.int 9,.int 12] (m % 12) h0 (by simpa using h1)
 simp only [List.mem_cons,List.not_mem_nil,or_false] at hd
 rcases hd with rfl|rfl|rfl|rfl|rfl|rfl|rfl|rfl|rfl|rfl|rfl|rfl<;>exact⟨_,e,by decide,by decide⟩
theorem xu7(k:Int):∃x:Str,atI [D.str (Str.ofString " "),.str (Str.ofString " "),.str (Str.ofString " "),.str (Str.ofString "")] (k % 4)=some (.str x)/\(x=""\/x=" "):=by
 have h0:=Int.emod_nonneg k (show(4:Int)≠0 by decide)
 have h1:=Int.emod_lt_of_pos k (show(0:Int)<4 by decide)
 obtain⟨d,hd,e⟩:=qY [D.str (Str.ofString " "),.str (Str.ofString " "),.str (Str.ofString " "),.str (Str.ofString "")] (k % 4) h0 (by simpa using h1)
 simp only [List.mem_cons,List.not_mem_nil,or_false] at hd
 rcases hd with rfl|rfl|rfl|rfl
 ·exact⟨_,e,.inr rfl⟩
 ·exact⟨_,e,.inr rfl⟩
 ·exact⟨_,e,.inr rfl⟩
 ·exact⟨_,e,.inl rfl⟩
theorem xn1(a b k:Int)(ha:0<=a/\a<=40)(hb:0<=b/\b<=40):∃c:Int,atI [D.int a,.int b] (k % 2)=some (.int c)/\0<=c/\c<=40:=by
 have h0:=Int.emod_nonneg k (show(2:Int)≠0 by decide)
 have h1:=Int.emod_lt_of_pos k (show(0:Int)<2 by decide)
 obtain⟨d,hd,e⟩:=qY [D.int a,.int b] (k % 2) h0 (by simpa using h1)
 simp only [List.mem_cons,List.not_mem_nil,or_false] at hd
 rcases hd with rfl|rfl
 ·exact⟨_,e,ha⟩
 ·exact⟨_,e,hb⟩
theorem we1{α:Type}(a b c d:α):atI [a,b,c,d] 3=some d:=rfl
theorem xn2{i j:Int}(h1: -1000000<=i)(h2:i<=1000000)(h3: -1000000<=j)(h4:j<=1000000):sV [.int i,.int j]=some (eZ i (j-i).toNat):=by
 rw [sV]
 exact if_pos ⟨by omega,by omega,by omega,by omega⟩
theorem yd4{j:Int}(h3: -1000000<=j)(h4:j<=1000000):sU [.int j]=some (eZ 0 j.toNat):=by
 rw [sU]
 exact if_pos ⟨by omega,by omega⟩
theorem ys5(a:Int)(n:Nat):eZ a n=((List.range n).map fun(k:Nat)=>a+(k:Int)).map .int:=by
 unfold eZ
 rw [List.map_map];rfl
theorem aM{f g:tz1}{p p':PSt}(h:f p=some (.nx,p')):aU f g p=g p':=by unfold aU;rw [h];rfl
theorem cV{f g:tz1}{p p':PSt}{R:Fl}(h:f p=some (.nx,p'))(e:∃q,g p'=some (R,q)):∃q,aU f g p=some (R,q):=e.elim fun q e=>⟨q,(aM h).trans e⟩
theorem dH{f g:tz1}{p p':PSt}{d:D}(h:f p=some (.ret d,p')):aU f g p=some (.ret d,p'):=by unfold aU;rw [h];rfl
theorem xg8{c:PSt->Option (Bool×PSt)}{f g:tz1}{p p':PSt}(h:c p=some (true,p')):fIf c f g p=f p':=by unfold fIf;rw [h];rfl
theorem fU{c:PSt->Option (Bool×PSt)}{f g:tz1}{p p':PSt}(h:c p=some (false,p')):fIf c f g p=g p':=by unfold fIf;rw [h];rfl
theorem bJ{i:Nat}{f:tz2}{p:PSt}{d:D}(h:f p=some d):aT i (aH f) p=some (.nx,p.set i (some d)):=by unfold aT aH;rw [h];rfl
theorem cD{f:tz2}{p:PSt}{d:D}(h:f p=some d):cA (aH f) p=some (.ret d,p):=by unfold cA aH;rw [h];rfl
theorem gM{np n:Nat}{f:tz1}{ds:List D}{d:D}{p:PSt}(hl:ds.length=np)(h:f (ds.map some++List.replicate n none)=some (.ret d,p)):gP np n f ds=some d:=by
 unfold gP;rw [if_pos hl,h];rfl
theorem aP{g:D->D->Option D}{fa fb:tz2}{p:PSt}{x y d:D}(h1:fa p=some x)(h2:fb p=some y)(h3:g x y=some d):f2 g fa fb p=some d:=by unfold f2;rw [h1,h2];exact h3
theorem aY{h:tz6}{g:tz3}{p:PSt}{ds:List D}{d:D}(h1:g p=some ds)(h2:h ds=some d):aJ h g p=some d:=by unfold aJ;rw [h1];exact h2
theorem ys6{o o':Bool}{ys zs:List D}(h1:D.imms ys=true)(h2:D.imms zs=true)(h:ys.length+zs.length<=1000):bP (.lst o ys) (.lst o' zs)=some (.lst true (ys++zs)):=by
 rw [bP]
 exact if_pos (by rw [h1,h2];simpa using sz h)
theorem aD{f:tz2}{g:tz3}{p:PSt}{d:D}{ds:List D}(h1:f p=some d)(h2:g p=some ds):aB f g p=some (d::ds):=by unfold aB;rw [h1,h2];rfl
def kY(ws:List Str):List D:=ws.map .str
theorem fG{g:tz3}{p:PSt}{ds:List D}(h:g p=some ds)(hl:ds.length<=1000):cT g p=some (.lst true ds):=by unfold cT;rw [h];exact if_pos hl
theorem yj1(k:Nat)(n:Nat):eZ (k:Int) (n+1)= .int k::eZ ((k+1:Nat):Int) n:=by
 unfold eZ
 rw [List.range_succ_eq_map,List.map_cons,List.map_map]
 congr 1
 ·simp
  intro j _
  omega
theorem dW{g:tz3}{p:PSt}{ds:List D}(h:g p=some ds)(hi:D.imms ds=true)(hl:ds.length<=1000):bN g p=some (.tup ds):=by
 unfold bN
 rw [h]
 exact if_pos (by rw [hi];simpa using hl)
theorem mK{i:Nat}{p:PSt}{d:D}(h:p[i]? =some (some d)):aA i p=some d:=by unfold aA;rw [h];rfl
theorem dF{f:tz4}{p:PSt}{b:Bool}(h:f p=some b):aW f p=some (b,p):=by unfold aW;rw [h];rfl
theorem dQ{f:tz2}{p:PSt}{b:Bool}(h:f p=some (.bl b)):fB f p=some b:=by unfold fB;rw [h];rfl
theorem sP{f:tz2}{p:PSt}{b:Bool}(h:f p=some (.bl b)):fT f p=some b:=by unfold fT;rw [h];rfl
theorem jN{f g:tz4}{p:PSt}(h:f p=some false):dN f g p=some false:=by unfold dN;rw [h];rfl
theorem iX{f g:tz4}{p:PSt}{b:Bool}(h:f p=some true)(h2:g p=some b):dN f g p=some b:=by unfold dN;rw [h];exact h2
theorem wa8{f g:tz4}{p:PSt}(h:f p=some true):vS f g p=some true:=by unfold vS;rw [h];rfl
theorem zp1{f g:tz4}{p:PSt}{b:Bool}(h:f p=some false)(h2:g p=some b):vS f g p=some b:=by unfold vS;rw [h];exact h2
theorem mL{f:tz4}{p:PSt}{b:Bool}(h:f p=some b):iS f p=some (!b):=by unfold iS;rw [h];rfl
theorem bA{c:tz4}{F:tz1}{p:PSt}(h:c p=some false):fIf (aW c) F bO p=some (.nx,p):=(fU (dF h)).trans rfl
theorem bI{c:tz4}{F G:tz1}{p:PSt}(h:c p=some true):fIf (aW c) F G p=F p:=xg8 (dF h)
def kdT(i:Nat)(w:String):tz4:=fB (f2 dEq (f2 dIx (aA i) (fC (.int 0))) (fC (.str w)))
theorem eV{i:Nat}{p:PSt}{k w:String}{ds:List D}{b:Bool}(hp:p[i]? =some (some (.tup (.str k::ds))))(h:decide (k=w)=b):kdT i w p=some b:=by
 refine dQ (aP (aP (mK hp) rfl (kG _ _)) rfl ?_)
 show some (D.bl (decide ((k:Str)=(w:Str))))=_
 rw [<-h]
 congr 2
 exact decide_eq_decide.mpr (by rw [fN])
theorem kH{f:tz8}{p p':PSt}{d:D}(h:f p=some (d,p')):cM f p=some (.nx,p'):=by unfold cM;rw [h];rfl
theorem pD{as:List L2.Arg}{g:tz7}{p:PSt}{ds ds':List D}{d:D}(h1:cK as p=some ds)(h2:g ds=some (d,ds'))(h3:ds'.length=as.length):fIO as g p=some (d,hU p as ds'):=by unfold fIO;rw [h1,Option.bind_some,h2,Option.bind_some,if_pos h3]
theorem bL{f:tz2}{p:PSt}{d:D}(h:f p=some d)(hi:d.imm=true):aQ f p=some d:=by unfold aQ;rw [h];exact if_pos hi
theorem fO{p:PSt}:cK [] p=some []:=rfl
theorem dD{f:tz2}{as:List L2.Arg}{p:PSt}{d:D}{ds:List D}(h:f p=some d)(hi:d.imm=true)(h2:cK as p=some ds):cK (.im f::as) p=some (d::ds):=by
 show(aQ f p).bind _=_
 rw [bL h hi,Option.bind_some,h2];rfl
theorem mM{j:Nat}{as:List L2.Arg}{p:PSt}{d:D}{ds:List D}(h:p[j]? =some (some d))(h2:cK as p=some ds):cK (.io j::as) p=some (d::ds):=by
 show((p[j]?).join).bind _=_
 rw [h,Option.join_some,Option.bind_some,h2];rfl
theorem ys7(c:Nat):∀(a b u v:List Nat),c∉a->c∉b->a++c::u=b++c::v->a=b/\u=v
 |[],[],u,v,_,_,e=>⟨rfl,(List.cons.inj e).2⟩
 |[],y::b,u,v,_,hb,e=>absurd (List.cons.inj e).1 (fun z=>hb (z▸List.mem_cons_self))
 |x::a,[],u,v,ha,_,e=>absurd (List.cons.inj e).1 (fun z=>ha (z▸List.mem_cons_self))
 |x::a,y::b,u,v,ha,hb,e=>by
  obtain⟨e1,e2⟩:=List.cons.inj e
  obtain⟨e3,e4⟩:=ys7 c a b u v (fun z=>ha (List.mem_cons_of_mem _ z)) (fun z=>hb (List.mem_cons_of_mem _ z)) e2
  exact⟨by rw [e1,e3],e4⟩
theorem qZ{x y:Str}(h:x.cps.toList=y.cps.toList):x=y:=by
 cases x;cases y
 congr
 exact Array.toList_inj.mp h
section
variable{c:Nat}
theorem kI(x y:Str)(r:List Str):(Str.join ⟨#[c]⟩ (x::y::r)).cps.toList=x.cps.toList++c::(Str.join ⟨#[c]⟩ (y::r)).cps.toList:=by
 show((x++⟨#[c]⟩)++Str.join ⟨#[c]⟩ (y::r)).cps.toList=_
 rw [cC,cC]
 show(x.cps.toList++[c])++_=_
 simp
theorem zu7:∀xs ys:List Str,xs≠[]->ys≠[]->(∀p∈xs,c∉p.cps.toList)->(∀p∈ys,c∉p.cps.toList)->Str.join ⟨#[c]⟩ xs=Str.join ⟨#[c]⟩ ys->xs=ys
 |[],_,h,_,_,_,_=>absurd rfl h
 |_,[],_,h,_,_,_=>absurd rfl h
 |[x],[y],_,_,_,_,e=>by rw [show x=y from e]
 |[x],y::y'::r,_,_,hx,_,e=>by
  have e':=congrArg (fun z=>z.cps.toList) (show x=Str.join ⟨#[c]⟩ (y::y'::r) from e)
  rw [kI] at e'
  exact absurd (by rw [e'];simp) (hx x List.mem_cons_self)
 |x::x'::r,[y],_,_,_,hy,e=>by
  have e':=congrArg (fun z=>z.cps.toList) (show Str.join ⟨#[c]⟩ (x::x'::r)=y from e)
  rw [kI] at e'
  exact absurd (by rw [<-e'];simp) (hy y List.mem_cons_self)
 |x::x'::r,y::y'::s,_,_,hx,hy,e=>by
  have e':=congrArg (fun z=>z.cps.toList) e
  rw [kI,kI] at e'
  obtain⟨e1,e2⟩:=ys7 c _ _ _ _ (hx x List.mem_cons_self) (hy y List.mem_cons_self) e'
  have ih:=zu7 (x'::r) (y'::s) (by simp) (by simp) (fun p hp=>hx p (List.mem_cons_of_mem _ hp)) (fun p hp=>hy p (List.mem_cons_of_mem _ hp)) (qZ e2)
  rw [qZ e1,ih]
end
structure Gm where
 kd:Nat
 n:Int
 full:List (List Pc)
 parts:List Pc
def kdS:Nat->String
 |0=>"top"
 |1=>"group"
 |2=>"hang"
 |_=>"either"
def gmD(f:Gm):D:= .lst true [.str (kdS f.kd),.int f.n,.lst true (rowsD f.full),.lst true (pcsD f.parts)]
def bX:List Gm->List D
 |[]=>[]
 |f::fs=>bX fs++[gmD f]
theorem oB:∀fs,(bX fs).length=fs.length
 |[]=>rfl
 |f::fs=>by rw [bX,List.length_append,oB fs];rfl
def tL:List Pc:=[.leaf (.word "or")]
def oS(f:Gm):List (List Pc):=if f.full=[] then [f.parts,tL] else f.full++[f.parts]
def fV(f:Gm):Pc:=match f.kd with
 |1=> .group f.parts
 |2=> .hang f.n f.parts
 |_=> .either (oS f)
def jV(g:Gm)(p:Pc):Gm:={g with parts:=g.parts++[p]}
mutual
def okP:Pc->Prop
 | .leaf l=>eE l
 | .group r=>okR r
 | .hang n r=>(0<=n/\n<=12)/\okR r
 | .either rs=>(2<=rs.length/\rs.length<=4)/\okRs rs
def okR:List Pc->Prop
 |[]=>True
 |p::r=>okP p/\okR r
def okRs:List (List Pc)->Prop
 |[]=>True
 |r::rs=>okR r/\okRs rs
end
theorem yI:∀a b:List Pc,okR (a++b)↔okR a/\okR b
 |[],b=>by simp [okR]
 |p::a,b=>by rw [List.cons_append,okR,okR,yI a b,and_assoc]
theorem zW:∀a b:List (List Pc),okRs (a++b)↔okRs a/\okRs b
 |[],b=>by simp [okRs]
 |p::a,b=>by rw [List.cons_append,okRs,okRs,zW a b,and_assoc]
theorem zh6(p:Pc):okR [p]↔okP p:=by simp [okR]
theorem zu8(r:List Pc):okRs [r]↔okR r:=by simp [okRs]
theorem rP:∀a b:List (List Pc),toksMore (a++b)=toksMore a++toksMore b
 |[],b=>rfl
 |r::a,b=>by
  show Tk.orr::(toksR r++toksMore (a++b))=(Tk.orr::(toksR r++toksMore a))++toksMore b
  rw [rP a b];simp
def wF(f:Gm):Nat:=(toksMore f.full).length+(toksR f.parts).length+4
def wG:List Gm->Nat
 |[]=>0
 |f::fs=>wF f+wG fs
def xy8(f:Gm):Prop:=okRs f.full/\okR f.parts/\f.full.length<=3/\(f.kd≠3->f.full=[])/\0<=f.n/\f.n<=12
def zz1:List Gm->Prop
 |[]=>False
 |[f]=>f.kd=0
 |f::g::fs=>(1<=f.kd/\f.kd<=3)/\zz1 (g::fs)
def xi2(m:Nat):List Gm->Prop
 |[]=>True
 |f::fs=>depR f.parts+fs.length<=m/\depRs f.full+fs.length<=m/\xi2 m fs
structure GInv(nest k:Nat)(fs:List Gm):Prop where
 len:fs.length<=nest+1
 wt:wG fs<=4*k+4
 each:∀f∈fs,xy8 f
 kinds:zz1 fs
 deep:xi2 nest fs
theorem yj2{f:Gm}(h:f.kd≠3->f.full=[])(hk:1<=f.kd/\f.kd<=3):(dE (fV f)).length<=wF f:=by
 have e:f.kd=1\/f.kd=2\/f.kd=3:=by omega
 unfold wF fV
 rcases e with e|e|e
 ·rw [e];show(Tk.opn::(toksR f.parts++[.cls])).length<=_;rw [List.length_cons,List.length_append];simp;omega
 ·rw [e];show(Tk.hng f.n::(toksR f.parts++[.bck])).length<=_;rw [List.length_cons,List.length_append];simp;omega
 ·rw [e]
  show(Tk.eit::(toksRows (oS f)++[.don])).length<=_
  rw [List.length_cons,List.length_append]
  unfold oS
  cases hf:f.full with
  |nil=>
   rw [if_pos rfl]
   show(toksR f.parts++(Tk.orr::(toksR tL++[]))).length+1+1<=_
   simp [tL,toksR,dE,toksMore]
  |cons r rs=>
   rw [if_neg (by simp)]
   show(toksR r++toksMore (rs++[f.parts])).length+1+1<=(Tk.orr::(toksR r++toksMore rs)).length+_+4
   rw [rP]
   simp [toksMore];omega
theorem xa7{f:Gm}(h:xy8 f)(hk:1<=f.kd/\f.kd<=3):okP (fV f):=by
 obtain⟨h1,h2,h3,h4,h5,h6⟩:=h
 have e:f.kd=1\/f.kd=2\/f.kd=3:=by omega
 unfold fV
 rcases e with e|e|e
 ·rw [e];exact h2
 ·rw [e];exact⟨⟨h5,h6⟩,h2⟩
 ·rw [e]
  show(2<=(oS f).length/\(oS f).length<=4)/\okRs (oS f)
  unfold oS
  by_cases c:f.full=[]
  ·rw [if_pos c]
   refine⟨⟨by simp,by simp⟩,h2,?_,trivial⟩
   exact⟨⟨by decide+kernel,by decide+kernel,by decide+kernel⟩,trivial⟩
  ·rw [if_neg c]
   have hp:1<=f.full.length:=by cases hf:f.full with|nil=>exact absurd hf c|cons a l=>simp
   refine⟨⟨by rw [List.length_append];simp;omega,by rw [List.length_append];simp;omega⟩,?_⟩
   rw [zW,zu8];exact⟨h1,h2⟩
theorem ys8{f:Gm}{m k:Nat}(h1:depR f.parts+(k+1)<=m)(h2:depRs f.full+(k+1)<=m):eD (fV f)+k<=m:=by
 unfold fV
 split
 ·show depR f.parts+1+k<=m;omega
 ·show depR f.parts+1+k<=m;omega
 ·show depRs (oS f)+1+k<=m
  unfold oS
  split
  ·show max (depR f.parts) (max (depR tL) 0)+1+k<=m
   have:depR tL=0:=rfl
   omega
  ·rw [vD];omega
theorem GInv.leaf{nest k:Nat}{f:Gm}{fs:List Gm}{l:Leaf}(h:GInv nest k (f::fs))(hl:eE l):GInv nest (k+1) (jV f (.leaf l)::fs):=by
 obtain⟨h1,h2,h3,h4,h5⟩:=h
 have hf:=h3 f List.mem_cons_self
 refine⟨h1,?_,?_,?_,?_⟩
 ·have h2':wF f+wG fs<=4*k+4:=h2
  show(toksMore f.full).length+(toksR (f.parts++[.leaf l])).length+4+wG fs<=_
  rw [mY,List.length_append]
  unfold wF at h2'
  show _+(_+1)+4+_<=_
  omega
 ·intro x hx
  rcases List.mem_cons.mp hx with rfl|hx
  ·obtain⟨a1,a2,a3,a4,a5⟩:=hf
   exact⟨a1,(yI _ _).mpr ⟨a2,(zh6 _).mpr hl⟩,a3,a4,a5⟩
  ·exact h3 x (List.mem_cons_of_mem _ hx)
 ·cases fs with
  |nil=>exact h4
  |cons g fs=>exact⟨h4.1,h4.2⟩
 ·refine⟨?_,h5.2.1,h5.2.2⟩
  show depR (f.parts++[.leaf l])+fs.length<=nest
  rw [sM]
  have:=h5.1
  show max _ 0+_<=_
  omega
theorem GInv.opener{nest k:Nat}{fs:List Gm}{kd:Nat}{n:Int}(h:GInv nest k fs)(hk:1<=kd/\kd<=3)(hn:0<=n/\n<=12)(hl:fs.length<=nest):GInv nest (k+1) (⟨kd,n,[],[]⟩::fs):=by
 obtain⟨h1,h2,h3,h4,h5⟩:=h
 refine⟨by simp;omega,?_,?_,?_,?_⟩
 ·show 0+0+4+wG fs<=_;omega
 ·intro x hx
  rcases List.mem_cons.mp hx with rfl|hx
  ·exact⟨trivial,trivial,Nat.zero_le _,fun _=>rfl,hn⟩
  ·exact h3 x hx
 ·cases fs with
  |nil=>exact h4.elim
  |cons g fs=>exact⟨hk,h4⟩
 ·exact⟨by show 0+_<=_;omega,by show 0+_<=_;omega,h5⟩
theorem GInv.orr{nest k:Nat}{f:Gm}{fs:List Gm}(h:GInv nest k (f::fs))(hf3:f.full.length<3)(hk:f.kd=3):GInv nest (k+1) ({f with full:=f.full++[f.parts],parts:=[]}::fs):=by
 obtain⟨h1,h2,h3,h4,h5⟩:=h
 have hf:=h3 f List.mem_cons_self
 refine⟨h1,?_,?_,?_,?_⟩
 ·have h2':wF f+wG fs<=4*k+4:=h2
  show(toksMore (f.full++[f.parts])).length+0+4+wG fs<=_
  rw [rP,List.length_append]
  unfold wF at h2'
  simp [toksMore];omega
 ·intro x hx
  rcases List.mem_cons.mp hx with rfl|hx
  ·obtain⟨a1,a2,a3,a4,a5⟩:=hf
   exact⟨(zW _ _).mpr ⟨a1,(zu8 _).mpr a2⟩,trivial,by show(f.full++[f.parts]).length<=3;rw [List.length_append];simp;omega,fun z=>absurd hk z,a5⟩
  ·exact h3 x (List.mem_cons_of_mem _ hx)
 ·cases fs with
  |nil=>exact h4
  |cons g fs=>exact⟨h4.1,h4.2⟩
 ·refine⟨?_,?_,h5.2.2⟩
  ·show 0+_<=_
   have:=h5.1;omega
  ·show depRs (f.full++[f.parts])+fs.length<=nest
   rw [vD]
   have a1:=h5.1;have a2:=h5.2.1
   omega
theorem GInv.shut{nest k:Nat}{f g:Gm}{fs:List Gm}(h:GInv nest k (f::g::fs)):GInv nest k (jV g (fV f)::fs):=by
 obtain⟨h1,h2,h3,h4,h5⟩:=h
 have hf:=h3 f List.mem_cons_self
 have hg:=h3 g (List.mem_cons_of_mem _ List.mem_cons_self)
 have hk:=h4.1
 refine⟨by simp at h1|-;omega,?_,?_,?_,?_⟩
 ·have h2':wF f+(wF g+wG fs)<=4*k+4:=h2
  have t:=yj2 hf.2.2.2.1 hk
  show(toksMore g.full).length+(toksR (g.parts++[fV f])).length+4+wG fs<=_
  rw [mY,List.length_append,yr4]
  unfold wF at h2' t
  omega
 ·intro x hx
  rcases List.mem_cons.mp hx with rfl|hx
  ·obtain⟨a1,a2,a3,a4,a5⟩:=hg
   exact⟨a1,(yI _ _).mpr ⟨a2,(zh6 _).mpr (xa7 hf hk)⟩,a3,a4,a5⟩
  ·exact h3 x (List.mem_cons_of_mem _ (List.mem_cons_of_mem _ hx))
 ·cases fs with
  |nil=>exact h4.2
  |cons g' fs=>exact⟨h4.2.1,h4.2.2⟩
 ·obtain⟨d1,d2,d3,d4,d5⟩:=h5
  refine⟨?_,d4,d5⟩
  show depR (g.parts++[fV f])+fs.length<=nest
  rw [sM]
  have:=ys8 (f:=f) (m:=nest) (k:=fs.length) d1 d2
  omega
theorem GInv.more{nest k k':Nat}{fs:List Gm}(h:GInv nest k fs)(hk:k<=k'):GInv nest k' fs:=⟨h.len,by have:=h.wt;omega,h.each,h.kinds,h.deep⟩
theorem ys9:∀{fs:List Gm} {f:Gm},f∈fs->wF f<=wG fs
 |[],_,h=>by simp at h
 |g::fs,f,h=>by
  show wF f<=wF g+wG fs
  rcases List.mem_cons.mp h with rfl|h
  ·omega
  ·have:=ys9 h;omega
theorem yj3(p:Pc):1<=(dE p).length:=by cases p<;>simp [dE]
theorem vH:∀r:List Pc,r.length<=(toksR r).length
 |[]=>Nat.le_refl _
 |p::r=>by
  show r.length+1<=(dE p++toksR r).length
  rw [List.length_append]
  have:=vH r;have:=yj3 p;omega
theorem GInv.parts{nest k:Nat}{fs:List Gm}{f:Gm}(h:GInv nest k fs)(hf:f∈fs):f.parts.length<=4*k+4:=by
 have h1:=ys9 hf;have h2:=h.wt;have h3:=vH f.parts
 unfold wF at h1;omega
theorem zc7:("\n":Str)=⟨#[10]⟩:=by decide+kernel
theorem xg9:(" ":Str)=⟨#[32]⟩:=by decide+kernel
theorem xa8:("":Str)=⟨#[]⟩:=by decide+kernel
theorem rQ{x y:Str}(h:x.cps.toList=y.cps.toList):x=y:=by
 cases x;cases y
 simp only at h
 rw [Array.toList_inj.mp h]
theorem mB(x:Str):x.length=x.cps.toList.length:=by simp [Str.length]
theorem zm3:∀(n:Nat) (a b:Array Nat),((List.replicate n a).foldl (·++·) b).toList=b.toList++(List.replicate n a.toList).flatten
 |0,a,b=>by simp
 |n+1,a,b=>by
  rw [List.replicate_succ,List.foldl_cons,zm3 n a (b++a),List.replicate_succ,List.flatten_cons]
  simp
theorem rR(n:Int):(Txt.mul " " n).cps.toList=List.replicate n.toNat 32:=by
 rw [xg9]
 unfold Txt.mul
 by_cases h:n<1
 ·rw [if_pos h,show n.toNat=0 by omega];rfl
 ·rw [if_neg h]
  by_cases h1:n=1
  ·subst h1;rfl
  ·rw [if_neg]
   ·show((List.replicate n.toNat #[32]).foldl (·++·) #[]).toList=_
    rw [zm3]
    simp
   ·simp [h1,Str.length]
theorem iF(n:Int):(Txt.mul " " n).length=n.toNat:=by rw [mB,rR,List.length_replicate]
theorem zc8(n:Int):(10:Nat)∉(Txt.mul " " n).cps.toList:=by rw [rR];simp
def col(t:Str):Nat:=(t.cps.toList.reverse.takeWhile (· !=10)).length
theorem yt0{l:List Nat}(h:(10:Nat)∉l):∀a∈l,(a !=10)=true:=fun a ha=>by
 simp only [bne_iff_ne,ne_eq]
 intro e;subst e;exact h ha
theorem yd5{t w:Str}(h:(10:Nat)∉w.cps.toList):col (t++w)=col t+w.length:=by
 unfold col
 rw [cC,List.reverse_append,List.takeWhile_append_of_pos (yt0 (by simpa using h)),List.length_append,List.length_reverse,mB]
 omega
theorem zu9{t w:Str}(h:(10:Nat)∉w.cps.toList):col (t++((⟨#[10]⟩:Str)++w))=w.length:=by
 unfold col
 rw [cC,cC,List.reverse_append,List.reverse_append,List.append_assoc,List.takeWhile_append_of_pos (yt0 (by simpa using h)),List.length_append,List.length_reverse,mB]
 simp
theorem zp2{t:Str}{i:Nat}:StrLaws.At t ⟨#[10]⟩ t.length i↔t.cps.toList[i]? =some 10:=by
 unfold StrLaws.At Builtin.Str.subAt
 show i+1<=t.length/\(t.cps.extract i (i+1)== #[10])=true↔_
 rw [beq_iff_eq,<-Array.toList_inj]
 have e:(t.cps.extract i (i+1)).toList=(t.cps.toList.drop i).take 1:=by simp [Array.toList_extract,List.extract]
 rw [e,mB]
 constructor
 ·intro ⟨h1,h2⟩
  rw [List.getElem?_eq_getElem (by omega)]
  rw [List.drop_eq_getElem_cons (by omega)] at h2
  simpa using h2
 ·intro h
  obtain⟨hi,h2⟩:=List.getElem?_eq_some_iff.mp h
  refine⟨by omega,?_⟩
  rw [List.drop_eq_getElem_cons hi,h2]
  rfl
theorem yt1(t:Str):(t.length:Int)-1-Txt.rfind t ⟨#[10]⟩=(col t:Int):=by
 rcases rfind_whole t ⟨#[10]⟩ with ⟨e,h⟩|⟨i,e,h1,h2⟩
 ·have hn:(10:Nat)∉t.cps.toList:=fun hm=>by
   obtain⟨i,hi⟩:=List.getElem?_of_mem hm
   exact h i (zp2.mpr hi)
  have:=yd5 (t:=⟨#[]⟩) hn
  have e0:(⟨#[]⟩:Str)++t=t:=rQ (by rw [cC];rfl)
  rw [e0,show col ⟨#[]⟩=0 from rfl] at this
  rw [e,this];omega
 ·rw [zp2] at h1
  obtain⟨hi,h3⟩:=List.getElem?_eq_some_iff.mp h1
  have hs:t.cps.toList=t.cps.toList.take i++10::t.cps.toList.drop (i+1):=by
   rw [<-h3,<-List.drop_eq_getElem_cons hi,List.take_append_drop]
  have hn:(10:Nat)∉t.cps.toList.drop (i+1):=fun hm=>by
   obtain⟨j,hj⟩:=List.getElem?_of_mem hm
   rw [List.getElem?_drop] at hj
   exact h2 (i+1+j) (by omega) (zp2.mpr hj)
  have e1:t=(⟨(t.cps.toList.take i).toArray⟩:Str)++((⟨#[10]⟩:Str)++(⟨(t.cps.toList.drop (i+1)).toArray⟩:Str)):=rQ (by
   rw [cC,cC]
   exact hs)
  have e2:=zu9 (t:=⟨(t.cps.toList.take i).toArray⟩) (w:=⟨(t.cps.toList.drop (i+1)).toArray⟩) hn
  rw [<-e1] at e2
  rw [e,e2,mB,mB]
  show((t.cps.toList.length:Nat):Int)-1-(i:Int)=(((t.cps.toList.drop (i+1)).length:Nat):Int)
  rw [List.length_drop]
  omega
def nlw(m:Int):Str:=(⟨#[10]⟩:Str)++Txt.mul " " m
def wr(b:Bool)(m:Int)(k:Nat):Leaf->Option Str
 | .word x=>some x
 | .gap x=>if b then some (nlw m) else some x
 | .stop c=>if (k:Int)<=c then some (Txt.mul " " (c-k)) else if b then some (nlw c) else none
 | .fin=>if b then some (nlw m) else none
def Wr(w:Str):Prop:=(10:Nat)∉w.cps.toList\/∃m:Int,w=nlw m
theorem yd6{x:Str}(h:zf0 x):(10:Nat)∉x.cps.toList:=fun hm=>by
 have:=List.all_eq_true.mp h.2.2 _ hm
 simp [yS] at this
theorem xu8{x:Str}(h:x=""\/x=" "):(10:Nat)∉x.cps.toList:=by
 rcases h with rfl|rfl
 ·simp [show("":Str)=⟨#[]⟩ from by decide+kernel]
 ·simp [xg9]
theorem xh0{b:Bool}{m:Int}{k:Nat}{l:Leaf}{w:Str}(hl:eE l)(h0:0<=m)(h1:m<=200)(h:wr b m k l=some w):Wr w/\w.length<=201:=by
 have nl:∀c:Int,0<=c->c<=200->Wr (nlw c)/\(nlw c).length<=201:=fun c c0 c1=>⟨.inr ⟨c,rfl⟩,by unfold nlw;rw [dO,iF];show 1+_<=_;omega⟩
 cases l with
 |word x=>cases h;exact⟨.inl (yd6 hl),by have:=hl.2.1;omega⟩
 | gap x=>
  cases b with
  |true=>cases h;exact nl m h0 h1
  |false=>
   have e:x=w:=by simpa [wr] using h
   subst e
   have hl':x=""\/x=" ":=hl
   refine⟨.inl (xu8 hl'),?_⟩
   rcases hl' with e|e<;>subst e
   ·show(0:Nat)<=201;decide
   ·show(1:Nat)<=201;decide
 | stop c=>
  have hc:0<=c/\c<=40:=hl
  change (if (k:Int)<=c then some (Txt.mul " " (c-k)) else if b=true then some (nlw c) else none)=some w at h
  by_cases hk:(k:Int)<=c
  ·rw [if_pos hk] at h;cases h
   exact⟨.inl (zc8 _),by rw [iF];omega⟩
  ·rw [if_neg hk] at h
   cases b with
   |true=>cases h;exact nl c hc.1 (by omega)
   |false=>cases h
 |fin=>
  cases b with
  |true=>cases h;exact nl m h0 h1
  |false=>cases h
mutual
def dM:Bool->Int->Pc->List Int->Str->Option (List Int×Str)
 |b,m,.leaf l,cs,t=>(wr b m (col t) l).map fun w=>(cs,t++w)
 | b,m,.group r,cs,t=>if b=true then(match cs with
   |[]=>none
   |c::cs=>if c=0 then setR false m r cs t else if c=1 then setR true m r cs t else none) else setR false m r cs t
 |b,m,.hang n r,cs,t=>setR b (m+n) r cs t
 | b,m,.either rs,cs,t=>match cs with
   |[]=>none
   |c::cs=>if 0<=c then setAt b m rs c.toNat cs t else none
def setR:Bool->Int->List Pc->List Int->Str->Option (List Int×Str)
 |_,_,[],cs,t=>some (cs,t)
 |b,m,p::r,cs,t=>(dM b m p cs t).bind fun s=>setR b m r s.1 s.2
def setAt:Bool->Int->List (List Pc)->Nat->List Int->Str->Option (List Int×Str)
 |_,_,[],_,_,_=>none
 |b,m,r::_,0,cs,t=>setR b m r cs t
 |b,m,_::rs,i+1,cs,t=>setAt b m rs i cs t
end
theorem xJ:∀{rs:List (List Pc)} {i:Nat} {b:Bool} {m:Int} {cs:List Int} {t:Str} {r:List Pc},rs[i]? =some r->setAt b m rs i cs t=setR b m r cs t
 |[],i,_,_,_,_,_,h=>by simp at h
 |q::rs,0,_,_,_,_,_,h=>by simp at h;subst h;rw [setAt]
 |q::rs,i+1,_,_,_,_,_,h=>by rw [setAt];exact xJ (by simpa using h)
mutual
theorem zm4:∀{p:Pc} {b:Bool} {m:Int} {cs cs':List Int} {t t':Str} (x:List Int),dM b m p cs t=some (cs',t')->dM b m p (cs++x) t=some (cs'++x,t')
 | .leaf l,b,m,cs,cs',t,t',x,h=>by
  rw [dM] at h|-
  cases e:wr b m (col t) l with
  |none=>rw [e] at h;cases h
  |some w=>rw [e] at h;cases h;rfl
 | .group r,b,m,cs,cs',t,t',x,h=>by
  rw [dM.eq_def] at h|-
  simp only at h|-
  cases b with
  |false=>simp only [Bool.false_eq_true,if_false] at h|-;exact setR_more x h
  | true=>
   cases cs with
   |nil=>simp at h
   | cons c cs=>
    simp only [if_true,List.cons_append] at h|-
    by_cases c0:c=0
    ·simp only [c0,if_true] at h|-;exact setR_more x h
    ·by_cases c1:c=1
     ·simp only [c1,if_true] at h|-;exact setR_more x h
     ·simp [c0,c1] at h
 | .hang n r,b,m,cs,cs',t,t',x,h=>by rw [dM] at h|-;exact setR_more x h
 | .either rs,b,m,cs,cs',t,t',x,h=>by
  rw [dM.eq_def] at h|-
  cases cs with
  |nil=>cases h
  |cons c cs=>
   simp only [List.cons_append] at h|-
   by_cases c0:0<=c
   ·simp only [c0,if_true] at h|-;exact setAt_more x h
   ·simp [c0] at h
theorem setR_more:∀{r:List Pc} {b:Bool} {m:Int} {cs cs':List Int} {t t':Str} (x:List Int),setR b m r cs t=some (cs',t')->setR b m r (cs++x) t=some (cs'++x,t')
 |[],b,m,cs,cs',t,t',x,h=>by rw [setR] at h|-;cases h;rfl
 | p::r,b,m,cs,cs',t,t',x,h=>by
  rw [setR] at h|-
  cases e:dM b m p cs t with
  |none=>rw [e] at h;cases h
  |some s=>
   obtain⟨c1,t1⟩:=s
   rw [e] at h
   rw [zm4 x e]
   exact setR_more x h
theorem setAt_more:∀{rs:List (List Pc)} {i:Nat} {b:Bool} {m:Int} {cs cs':List Int} {t t':Str} (x:List Int),setAt b m rs i cs t=some (cs',t')->setAt b m rs i (cs++x) t=some (cs'++x,t')
 |[],i,b,m,cs,cs',t,t',x,h=>by rw [setAt] at h;cases h
 |r::rs,0,b,m,cs,cs',t,t',x,h=>by rw [setAt] at h|-;exact setR_more x h
 |r::rs,i+1,b,m,cs,cs',t,t',x,h=>by rw [setAt] at h|-;exact setAt_more x h
end
abbrev nsP:List Str:=["broken","margin"]
def aR(b:Bool)(m:Int):D:= .obj false "Place" nsP [.bl b,.int m]
abbrev gT:tz7:=gE 3 0 (bQ [true,false,false]) wQ
theorem yj4(b:Bool)(m:Int):gT [.obj true "Place" [] [],.bl b,.int m]=some (.non,[.obj true "Place" nsP [.bl b,.int m],.bl b,.int m]):=by
 kernel_rfl
abbrev yw7:tz6:=gP 0 0 (rZ gT)
abbrev xU:tz6:=gP 1 0 sY
def pY:Pc->Bool
 | .leaf _=>false
 |_=>true
theorem xa9(p:Pc):xU [pcD p]=some (.bl (pY p)):=by
 cases p with
 |leaf l=>cases l<;>kernel_rfl
 |_=>kernel_rfl
abbrev xV:tz6:=gP 2 0 qI
def dP(b:Bool):Pc->Bool
 | .either _=>true
 | .group _=>b
 |_=>false
theorem xb0(p:Pc)(b:Bool)(m:Int)(hp:pY p=true):xV [pcD p,aR b m]=some (.bl (dP b p)):=by
 cases p with
 |leaf l=>cases hp
 |group r=>cases b<;>kernel_rfl
 |_=>kernel_rfl
def dA(b:Bool)(m:Int):Pc->List (List Pc×Bool×Int)
 | .leaf _=>[]
 | .group r=>if b=true then [(r,false,m),(r,true,m)] else [(r,false,m)]
 | .hang n r=>[(r,b,m+n)]
 | .either rs=>rs.map fun r=>(r,b,m)
def eR(x:List Pc×Bool×Int):D:= .tup [.tup (pcsD x.1),aR x.2.1 x.2.2]
abbrev zq4:tz6:=gP 2 2 (kN gT)
theorem yt2(b:Bool)(m:Int):(aR b m).imm=true:=rfl
theorem zh7(x:List Pc×Bool×Int):(eR x).imm=true:=by
 show(D.imm (.tup (pcsD x.1))&&(D.imm (aR x.2.1 x.2.2)&&D.imms []))=true
 rw [show D.imm (.tup (pcsD x.1))=D.imms (pcsD x.1) from rfl,pcs_imm];rfl
theorem zm5(b:Bool)(m:Int):∀(rs:List (List Pc)) (x:Option D),fA [x,some (aR b m)] gI (bN (aB (aQ (aA 0)) (aB (aQ (aA 1)) aE))) (rowsD rs)=some ((rs.map fun r=>(r,b,m)).map eR)
 |[],_=>rfl
 | r::rs,x=>by
  have ih:=zm5 b m rs x
  have hi:=yt2 b m
  have hp:=pcs_imm r
  show fA _ _ _ (.tup (pcsD r)::rowsD rs)=_
  rw [fA]
  show(gI [some (.tup (pcsD r)),some (aR b m)]).bind _=_
  rw [List.map_cons,List.map_cons]
  have e:bN (aB (aQ (aA 0)) (aB (aQ (aA 1)) aE)) [some (.tup (pcsD r)),some (aR b m)]=some (eR (r,b,m)):=by
   unfold eR
   generalize aR b m=q at hi|-
   simp! [dIn,inB,kX,D.flat,D.flats,inV,eqV,xP,fOr,lE,hp,hi]
  show((bN (aB (aQ (aA 0)) (aB (aQ (aA 1)) aE)) [some (.tup (pcsD r)),some (aR b m)]).bind _)=_
  rw [e,Option.bind_some,ih];rfl
def xi3:Pc->Nat
 | .either rs=>rs.length
 |_=>0
theorem kd2{p:PSt}{k w:String}{b:Bool}(hp:p[2]? =some (some (.str k)))(h:decide (k=w)=b):fB (f2 dEq (aA 2) (fC (.str w))) p=some b:=by
 refine dQ (aP (mK hp) rfl ?_)
 show some (D.bl (decide ((k:Str)=(w:Str))))=_
 rw [<-h]
 congr 2
 exact decide_eq_decide.mpr (by rw [fN])
theorem zX{p:PSt}{f g:tz2}{b:Bool}{m:Int}(h1:f p=some (.bl b))(h2:g p=some (.int m)):lE (eT "Place" (cK [.im f,.im g]) gT) p=some (aR b m):=by
 have q:=yj4 b m
 have e:eT "Place" (cK [.im f,.im g]) gT p=some (.obj true "Place" nsP [.bl b,.int m]):=by
  unfold eT
  rw [dD h1 rfl (dD h2 rfl fO),Option.bind_some,q];rfl
 unfold lE
 rw [e];rfl
theorem xb1:yw7 []=some (aR true 0):=gM (p:=[]) rfl (cD (zX rfl rfl))
theorem zh8{p:PSt}{f g:tz2}{r:List Pc}{b:Bool}{m:Int}(h1:f p=some (.tup (pcsD r)))(h2:g p=some (aR b m)):bN (aB f (aB g aE)) p=some (eR (r,b,m)):=by
 unfold bN
 rw [aD h1 (aD h2 rfl)]
 refine(if_pos ?_).trans rfl
 have:=zh7 (r,b,m)
 rw [show D.imms [.tup (pcsD r),aR b m]=true from this];rfl
theorem xn3(p:Pc)(b:Bool)(m:Int)(hp:pY p=true)(hl:xi3 p<=1000):zq4 [pcD p,aR b m]=some (.lst true ((dA b m p).map eR)):=by
 show gP 2 2 (kN gT) _=_
 cases p with
 |leaf l=>cases hp
 | group r=>
  have s1:aT 2 (aH (aQ (f2 dIx (aA 0) (fC (.int 0))))) [some (pcD (.group r)),some (aR b m),none,none]=some (.nx,[some (pcD (.group r)),some (aR b m),some (.str "group"),none]):=bJ (bL (aP rfl rfl (kG _ _)) rfl)
  have s4:aT 3 (aH (bN (aB (aQ (f2 dIx (aA 0) (fC (.int 1)))) (aB (lE (eT "Place" (cK [.im (fC (.bl false)),.im (cU "Place" "margin" (aA 1))]) gT)) aE)))) [some (pcD (.group r)),some (aR b m),some (.str "group"),none]=some (.nx,[some (pcD (.group r)),some (aR b m),some (.str "group"),some (eR (r,false,m))]):=bJ (zh8 (bL (aP rfl rfl (gQ _ _ _)) (pcs_imm r)) (zX rfl (by kernel_rfl)))
  have w3:aQ (aA 3) [some (pcD (.group r)),some (aR b m),some (.str "group"),some (eR (r,false,m))]=some (eR (r,false,m)):=bL rfl (zh7 _)
  have br:fT (cU "Place" "broken" (aA 1)) [some (pcD (.group r)),some (aR b m),some (.str "group"),some (eR (r,false,m))]=some b:=sP (by kernel_rfl)
  suffices h:∃q,kN gT [some (pcD (.group r)),some (aR b m),none,none]=some (.ret (.lst true ((dA b m (.group r)).map eR)),q) from by
   obtain⟨q,hq⟩:=h;exact gM rfl hq
  unfold kN
  rw [aM s1,aM (bA (kd2 rfl (by decide))),aM (bA (kd2 rfl (by decide))),aM s4]
  cases b with
  |true=>exact⟨_,dH ((bI br).trans (cD (fG (aD w3 (aD (zh8 (bL (aP rfl rfl (gQ _ _ _)) (pcs_imm r)) (bL rfl rfl)) rfl)) (Nat.le_of_ble_eq_true rfl))))⟩
  |false=>exact⟨_,(aM (bA br)).trans (cD (fG (aD w3 rfl) (Nat.le_of_ble_eq_true rfl)))⟩
 |hang n r=>
  have s1:aT 2 (aH (aQ (f2 dIx (aA 0) (fC (.int 0))))) [some (pcD (.hang n r)),some (aR b m),none,none]=some (.nx,[some (pcD (.hang n r)),some (aR b m),some (.str "hang"),none]):=bJ (bL (aP rfl rfl (kG _ _)) rfl)
  refine gM (p:=[some (pcD (.hang n r)),some (aR b m),some (.str "hang"),none]) rfl ?_
  unfold kN
  exact(aM s1).trans (dH ((bI (kd2 rfl (by decide))).trans (cD (fG (aD (zh8 (bL (aP rfl rfl (zu6 _ _ _ _)) (pcs_imm r)) (zX (by kernel_rfl) (aP (x:= .int m) (by kernel_rfl) (aP rfl rfl (gQ _ _ _)) rfl))) rfl) (Nat.le_of_ble_eq_true rfl)))))
 | either rs=>
  generalize gT=G
  have hz:(rowsD rs).length<=sizeLine:=by rw [jB];exact sz hl
  have e:=zm5 b m rs none
  have e2:gR [none,some 1] (eL (f2 dIx (aA 0) (fC (.int 1)))) gI (bN (aB (aQ (aA 0)) (aB (aQ (aA 1)) aE))) [some (pcD (.either rs)),some (aR b m),some (.str "either"),none]=some (.lst true ((dA b m (.either rs)).map eR)):=by
   unfold gR
   have e3:eL (f2 dIx (aA 0) (fC (.int 1))) [some (pcD (.either rs)),some (aR b m),some (.str "either"),none]=some (rowsD rs):=by simp! [dIn,inB,kX,D.flat,D.flats,inV,eqV,xP,fOr,lE,pcD]
   rw [e3,Option.bind_some,if_pos hz]
   have e4:fA (qE [none,some 1] [some (pcD (.either rs)),some (aR b m),some (.str "either"),none]) gI (bN (aB (aQ (aA 0)) (aB (aQ (aA 1)) aE))) (rowsD rs)=some ((rs.map fun r=>(r,b,m)).map eR):=e
   rw [e4];rfl
  have s1:aT 2 (aH (aQ (f2 dIx (aA 0) (fC (.int 0))))) [some (pcD (.either rs)),some (aR b m),none,none]=some (.nx,[some (pcD (.either rs)),some (aR b m),some (.str "either"),none]):=by simp! [dIn,inB,kX,D.flat,D.flats,inV,eqV,xP,fOr,lE,pcD]
  have s2:∀F:tz1,fIf (aW (fB (f2 dEq (aA 2) (fC (.str "hang"))))) F bO [some (pcD (.either rs)),some (aR b m),some (.str "either"),none]=some (.nx,[some (pcD (.either rs)),some (aR b m),some (.str "either"),none]):=fun F=>by simp! [dIn,inB,kX,D.flat,D.flats,inV,eqV,xP,fOr,lE]
  have s3:∀F:tz1,fIf (aW (fB (f2 dEq (aA 2) (fC (.str "either"))))) F bO [some (pcD (.either rs)),some (aR b m),some (.str "either"),none]=F [some (pcD (.either rs)),some (aR b m),some (.str "either"),none]:=fun F=>by simp! [dIn,inB,kX,D.flat,D.flats,inV,eqV,xP,fOr,lE]
  refine gM rfl ?_ (p:=[some (pcD (.either rs)),some (aR b m),some (.str "either"),none])
  unfold kN
  exact(aM s1).trans ((aM (s2 _)).trans (dH ((s3 _).trans (cD e2))))
abbrev gNl:tz6:=gP 1 0 wO
theorem zp3(m:Int)(h0: -1000<=m)(h1:m<=1000):gA (.str " ") (.int m)=some (.str (Txt.mul " " m)):=by
 rw [gA,if_pos]
 simp only [Bool.and_eq_true,decide_eq_true_eq]
 exact⟨⟨by decide+kernel,by omega⟩,by omega⟩
theorem xh1(m:Int)(h0:0<=m)(h1:m<=200):gNl [.int m]=some (.str (nlw m)):=by
 have q:=zp3 m (by omega) (by omega)
 have hl:1+(Txt.mul " " m).length<=sizeLine:=by rw [iF];exact sz (by omega)
 have e:((⟨#[10]⟩:Str)++Txt.mul " " m)=nlw m:=rfl
 have e1:bP (.str "\n") (.str (Txt.mul " " m))=some (.str (nlw m)):=by
  rw [zc7,bP,if_pos (by exact hl)];rfl
 exact gM rfl (cD (aP rfl (aP rfl rfl q) e1))
abbrev za5:tz6:=gP 3 1 (nJ gNl)
def wrD:Option Str->D
 |some w=> .str w
 |none=> .non
theorem kd3{p:PSt}{k w:String}{b:Bool}(hp:p[3]? =some (some (.str k)))(h:decide (k=w)=b):fB (f2 dEq (aA 3) (fC (.str w))) p=some b:=by
 refine dQ (aP (mK hp) rfl ?_)
 show some (D.bl (decide ((k:Str)=(w:Str))))=_
 rw [<-h]
 congr 2
 exact decide_eq_decide.mpr (by rw [fN])
theorem yj5(l:Leaf)(b:Bool)(m:Int)(k:Nat)(hl:eE l)(h0:0<=m)(h1:m<=200)(hk:k<=1000000):za5 [aZ l,aR b m,.int k]=some (wrD (wr b m k l)):=by
 suffices h:∃q,nJ gNl [some (aZ l),some (aR b m),some (.int k),none]=some (.ret (wrD (wr b m k l)),q) from by
  obtain⟨q,hq⟩:=h;exact gM rfl hq
 have br:∀d x,fT (cU "Place" "broken" (aA 1)) [some d,some (aR b m),some (.int k),x]=some b:=fun d x=>sP (by kernel_rfl)
 have mg:∀d x,aJ gNl (aB (cU "Place" "margin" (aA 1)) aE) [some d,some (aR b m),some (.int k),x]=some (.str (nlw m)):=fun d x=>aY (ds:=[.int m]) (aD (by kernel_rfl) rfl) (xh1 m h0 h1)
 have s1:∀(w:String) (ds:List D),aT 3 (aH (aQ (f2 dIx (aA 0) (fC (.int 0))))) [some (.tup (.str w::ds)),some (aR b m),some (.int k),none]=some (.nx,[some (.tup (.str w::ds)),some (aR b m),some (.int k),some (.str w)]):=fun w ds=>bJ (bL (aP rfl rfl (kG _ _)) rfl)
 unfold nJ
 cases l with
 |word x=>exact⟨_,(aM (s1 "word" [.str x])).trans (dH ((bI (kd3 rfl (by decide))).trans (cD (bL (aP rfl rfl (gQ _ _ _)) rfl))))⟩
 |gap x=>
  show ∃q,aU _ _ [some (.tup [.str "gap",.str x]),some (aR b m),some (.int k),none]=_
  rw [aM (s1 "gap" [.str x]),aM (bA (kd3 rfl (by decide)))]
  cases b with
  |false=>exact⟨_,dH ((bI (iX (kd3 rfl (by decide)) (mL (br _ _)))).trans (cD (bL (aP rfl rfl (gQ _ _ _)) rfl)))⟩
  |true=>exact⟨_,(aM (bA (iX (kd3 rfl (by decide)) (mL (br _ _))))).trans ((aM (bA (jN (kd3 rfl (by decide))))).trans ((aM (bA (mL (br _ _)))).trans ((aM (bA (kd3 rfl (by decide)))).trans (cD (mg _ _)))))⟩
 |fin=>
  show ∃q,aU _ _ [some (.tup [.str "end"]),some (aR b m),some (.int k),none]=_
  rw [aM (s1 "end" []),aM (bA (kd3 rfl (by decide))),aM (bA (jN (kd3 rfl (by decide)))),aM (bA (jN (kd3 rfl (by decide))))]
  cases b with
  |false=>exact⟨_,dH ((bI (mL (br _ _))).trans (cD rfl))⟩
  |true=>exact⟨_,(aM (bA (mL (br _ _)))).trans ((aM (bA (kd3 rfl (by decide)))).trans (cD (mg _ _)))⟩
 | stop c=>
  have hc:0<=c/\c<=40:=hl
  show ∃q,aU _ _ [some (.tup [.str "stop",.int c]),some (aR b m),some (.int k),none]=_
  have le:fB (f2 dLe (aA 2) (f2 dIx (aA 0) (fC (.int 1)))) [some (.tup [.str "stop",.int c]),some (aR b m),some (.int k),some (.str "stop")]=some (decide ((k:Int)<=c)):=dQ (aP rfl (aP rfl rfl (gQ _ _ _)) rfl)
  rw [aM (s1 "stop" [.int c]),aM (bA (kd3 rfl (by decide))),aM (bA (jN (kd3 rfl (by decide))))]
  by_cases hkc:(k:Int)<=c
  ·rw [decide_eq_true hkc] at le
   rw [show wr b m k (.stop c)=some (Txt.mul " " (c-k)) from if_pos hkc]
   exact⟨_,dH ((bI (iX (kd3 rfl (by decide)) le)).trans (cD (aP rfl (aP (aP rfl rfl (gQ _ _ _)) rfl rfl) (zp3 (c-k) (by omega) (by omega)))))⟩
  ·rw [decide_eq_false hkc] at le
   rw [aM (bA (iX (kd3 rfl (by decide)) le))]
   cases b with
   |false=>
    rw [show wr false m k (.stop c)=none from(if_neg hkc).trans rfl]
    exact⟨_,dH ((bI (mL (br _ _))).trans (cD rfl))⟩
   |true=>
    rw [show wr true m k (.stop c)=some (nlw c) from(if_neg hkc).trans rfl]
    exact⟨_,(aM (bA (mL (br _ _)))).trans (dH ((bI (kd3 rfl (by decide))).trans (cD (aY (aD (aP rfl rfl (gQ _ _ _)) rfl) (xh1 c hc.1 (by omega))))))⟩
theorem yt3{w:Str}:Txt.startswith w ⟨#[10]⟩=decide (w.cps.toList[0]? =some 10):=by
 rw [Bool.eq_iff_iff,decide_eq_true_eq,<-zp2 (t:=w) (i:=0)]
 unfold Txt.startswith StrLaws.At
 simp only [Bool.and_eq_true,decide_eq_true_eq]
abbrev yU:tz6:=gP 1 0 oH
theorem yd7(w:Str):yU [.str w]=some (.bl (decide (w.cps.toList[0]? =some 10))):=by
 rw [<-yt3,<-zc7]
 simp! [oH,oP,ze7]
abbrev zi9:tz6:=gP 2 0 (gC yU)
theorem xn4(t:Str):(⟨#[]⟩:Str)++t=t:=rQ (by rw [cC];simp! [eq_self])
theorem xn5(a b c:Str):(a++b)++c=a++(b++c):=rQ (by simp only [cC,List.append_assoc])
def bE(C:List Int):List D:=C.map .int
theorem xK(a b:List Int):bE (a++b)=bE a++bE b:=by simp! [bE]
theorem pE(a:List Int):(bE a).length=a.length:=by simp! [bE]
theorem zv0:∀C:List Int,D.ints (bE C)=some C
 |[]=>rfl
 |c::C=>by show D.ints (.int c::bE C)=_;rw [D.ints,zv0 C];rfl
theorem fY:∀C,D.imms (bE C)=true
 |[]=>rfl
 |c::C=>by show(D.imm (.int c)&&D.imms (bE C))=true;rw [fY C];rfl
theorem mE{α:Type}{xs:List α}{n:Nat}{v:α}(h:xs[n]? =some v):atI xs (n:Int)=some v:=zg4 h
theorem sQ:∀{rs:List (List Pc)} {i:Nat} {r:List Pc},rs[i]? =some r->depR r<=depRs rs
 |[],i,_,h=>by simp at h
 |q::rs,0,_,h=>by simp at h;subst h;rw [depRs];omega
 |q::rs,i+1,_,h=>by have:=sQ (rs:=rs) (i:=i) (by simpa using h);rw [depRs];omega
theorem zY:∀{rs:List (List Pc)} {i:Nat} {r:List Pc},okRs rs->rs[i]? =some r->okR r
 |[],i,_,_,h=>by simp at h
 |q::rs,0,_,o,h=>by simp at h;subst h;rw [okRs] at o;exact o.1
 |q::rs,i+1,_,o,h=>by rw [okRs] at o;exact zY (rs:=rs) (i:=i) o.2 (by simpa using h)
def lns(t:Str):List Str:=Txt.split t ⟨#[10]⟩
theorem zc9(t:Str):lns t≠[]:=fun z=>by
 have:=split_pos t ⟨#[10]⟩
 rw [show Txt.split t ⟨#[10]⟩=[] from z] at this
 exact absurd this (by decide)
theorem vI(t:Str):∀p∈lns t,(10:Nat)∉p.cps.toList:=StrLaws.split_free _ 10
theorem oC(t:Str):Str.join ⟨#[10]⟩ (lns t)=t:=StrLaws.join_split _ _
theorem zv1{t:Str}{ys:List Str}(hne:ys≠[])(hy:∀p∈ys,(10:Nat)∉p.cps.toList)(e:Str.join ⟨#[10]⟩ ys=t):lns t=ys:=
 zu7 _ _ (zc9 t) hne (vI t) hy ((oC t).trans e.symm)
theorem pF:∀(x:Str) (xs:List Str) (y:Str),Str.join ⟨#[10]⟩ (x::xs++[y])=Str.join ⟨#[10]⟩ (x::xs)++((⟨#[10]⟩:Str)++y)
 |x,[],y=>qZ (by rw [List.cons_append,List.nil_append,kI,cC,cC];rfl)
 |x,x'::xs,y=>qZ (by
  rw [List.cons_append,List.cons_append,kI,cC,kI,<-List.cons_append,pF x' xs y,cC]
  simp [cC])
theorem yt4:∀(xs:List Str) (y w:Str),Str.join ⟨#[10]⟩ (xs++[y++w])=Str.join ⟨#[10]⟩ (xs++[y])++w
 |[],y,w=>rfl
 |x::xs,y,w=>qZ (by
  rw [pF,pF]
  simp [cC])
theorem xn6{t w y:Str}{xs:List Str}(h:lns t=xs++[y])(hw:(10:Nat)∉w.cps.toList):lns (t++w)=xs++[y++w]:=by
 have hf:=vI t
 rw [h] at hf
 refine zv1 (by simp) (fun p hp=> ?_) (by rw [yt4,<-h,oC])
 rcases List.mem_append.mp hp with z|z
 ·exact hf p (List.mem_append_left _ z)
 ·rw [List.mem_singleton.mp z,cC]
  exact fun m=>(List.mem_append.mp m).elim (hf y (by simp)) hw
theorem xu9{t w:Str}(hw:(10:Nat)∉w.cps.toList):lns (t++((⟨#[10]⟩:Str)++w))=lns t++[w]:=by
 obtain⟨x,xs,h⟩:=List.exists_cons_of_ne_nil (zc9 t)
 refine zv1 (by simp) (fun p hp=> ?_) ?_
 ·rcases List.mem_append.mp hp with z|z
  ·exact vI t p z
  ·rw [List.mem_singleton.mp z];exact hw
 ·rw [h,pF,<-h,oC]
theorem xb2{t y:Str}{xs:List Str}(h:lns t=xs++[y]):col t=y.length:=by
 have hf:=vI t
 rw [h] at hf
 have hy:=hf y (by simp)
 cases xs with
 |nil=>
  have e:y=t:=by have:=oC t;rw [h] at this;exact this
  have:=yd5 (t:=⟨#[]⟩) hy
  rw [xn4] at this
  rw [<-e,this]
  show 0+_=_
  omega
 |cons x xs=>
  have:=oC t
  rw [h,pF] at this
  rw [<-this,zu9 hy]
def xf4(W:Int)(ls:List Str):Int:=(ls.map fun l=>(W-(l.length:Int))*(W-(l.length:Int))).sum
def sG(W:Int)(t:Str)(k:Nat)(ln rg:Int):Prop:=∃xs y,lns t=xs++[y]/\(∀l∈xs++[y],((l:Str).length:Int)<=W)/\k=y.length/\ln=(xs.length:Int)+1/\rg=xf4 W xs
theorem sG.col{W:Int}{t:Str}{k:Nat}{ln rg:Int}(h:sG W t k ln rg):My.col t=k:=by
 obtain⟨xs,y,h1,_,h3,_⟩:=h
 rw [xb2 h1,h3]
theorem zv2{W:Int}(h:0<=W):sG W ⟨#[]⟩ 0 1 0:=⟨[],⟨#[]⟩,zv1 (by simp) (fun p hp=>by rw [List.mem_singleton.mp hp];simp) rfl,fun l hl=>by
 rw [List.nil_append] at hl
 rw [List.mem_singleton.mp hl];exact h,rfl,rfl,rfl⟩
theorem xb3{W:Int}{t w:Str}{k:Nat}{ln rg:Int}(h:sG W t k ln rg)(hw:(10:Nat)∉w.cps.toList)(hk:((k+w.length:Nat):Int)<=W):sG W (t++w) (k+w.length) ln rg:=by
 obtain⟨xs,y,h1,h2,h3,h4,h5⟩:=h
 refine⟨xs,y++w,xn6 h1 hw,fun l hl=> ?_,by rw [dO,h3],h4,h5⟩
 rcases List.mem_append.mp hl with z|z
 ·exact h2 l (List.mem_append_left _ z)
 ·rw [List.mem_singleton.mp z,dO,<-h3];exact hk
theorem yd8{W:Int}{t:Str}{k:Nat}{ln rg m:Int}(h:sG W t k ln rg)(h0:0<=m)(hm:m<=W):sG W (t++nlw m) m.toNat (ln+1) (rg+(W-(k:Int))*(W-(k:Int))):=by
 obtain⟨xs,y,h1,h2,h3,h4,h5⟩:=h
 refine⟨xs++[y],Txt.mul " " m,?_,fun l hl=> ?_,by rw [iF],by rw [List.length_append,h4];simp,?_⟩
 ·unfold nlw
  rw [xu9 (zc8 m),h1]
 ·rcases List.mem_append.mp hl with z|z
  ·exact h2 l z
  ·rw [List.mem_singleton.mp z,iF];omega
 ·unfold xf4
  rw [List.map_append,List.sum_append,h5,h3]
  simp [xf4]
abbrev Way:=(Int×Int)×List Int
abbrev Frt:=List (Nat×Way)
def ltW(x y:Way):Bool:=L2.zy4 [[x.1.1,x.1.2],x.2] [[y.1.1,y.1.2],y.2]
def eS:Frt->Nat->Option Way
 |[],_=>none
 |p::F,j=>if p.1=j then some p.2 else eS F j
def iB:Frt->Nat->Way->Frt
 |[],_,_=>[]
 |p::F,j,y=>(if p.1=j then(p.1,y) else p)::iB F j y
def eG(F:Frt)(k:Nat)(x:Way):Frt:=match eS F k with
 |none=>F++[(k,x)]
 |some y=>if ltW x y=true then iB F k x else F
def lJ(F G:Frt):Frt:=G.foldl (fun F p=>eG F p.1 p.2) F
def xy9(n:Int)(p:Nat×Way):Nat×Way:=(p.1,(p.2.1,p.2.2++[n]))
def lT(F:Frt)(n:Int):Frt:=lJ [] (F.map (xy9 n))
def lfB(w:Str):Bool:=decide (w.cps.toList[0]? =some 10)
def fK(W:Int)(b:Bool)(m:Int)(l:Leaf)(k:Nat)(c:Int×Int):Option (Nat×(Int×Int)):=(wr b m k l).bind fun w=>
 if W<((if lfB w=true then w.length-1 else k+w.length:Nat):Int) then none
 else some (if lfB w=true then w.length-1 else k+w.length,if lfB w=true then(c.1+1,c.2+(W-(k:Int))*(W-(k:Int))) else c)
def dZ(W:Int)(b:Bool)(m:Int)(l:Leaf)(F G:Frt):Frt:=F.foldl (fun G p=>match fK W b m l p.1 p.2.1 with
 |none=>G
 |some s=>eG G s.1 (s.2,p.2.2)) G
def frW(GR:Bool->Int->List Pc->Frt->Frt)(tk:Bool)(F:Frt):Nat->List (List Pc×Bool×Int)->Frt->Frt
 |_,[],A=>A
 |n,x::xs,A=>frW GR tk F (n+1) xs (lJ A (GR x.2.1 x.2.2 x.1 (if tk=true then lT F n else F)))
def frP(W:Int)(GR:Bool->Int->List Pc->Frt->Frt)(b:Bool)(m:Int)(F:Frt):Pc->Frt
 | .leaf l=>dZ W b m l F []
 |p=>frW GR (dP b p) F 0 (dA b m p) []
def frN(W:Int):Nat->Bool->Int->List Pc->Frt->Frt
 |0,_,_,_,F=>F
 |n+1,b,m,r,F=>r.foldl (fun F p=>frP W (frN W n) b m F p) F
def Hit(W:Int)(R:List Int->Str->Prop)(p:Nat×Way):Prop:=∃t,R p.2.2 t/\sG W t p.1 p.2.1.1 p.2.1.2
structure Good(W:Int)(R:List Int->Str->Prop)(F:Frt):Prop where
 nd:(F.map (·.1)).Nodup
 hit:∀p∈F,Hit W R p
theorem Good.nil{W:Int}{R:List Int->Str->Prop}:Good W R []:=⟨List.nodup_nil,fun _ h=>nomatch h⟩
theorem Good.mono{W:Int}{R R':List Int->Str->Prop}{F:Frt}(h:Good W R F)(k:∀c t,R c t->R' c t):Good W R' F:=⟨h.nd,fun p hp=>by
 obtain⟨t,h1,h2⟩:=h.hit p hp
 exact⟨t,k _ _ h1,h2⟩⟩
theorem xL:∀{F:Frt} {k:Nat},eS F k=none->k∉F.map (·.1)
 |[],_,_=>by simp
 | p::F,k,h=>by
  rw [eS] at h
  by_cases e:p.1=k
  ·rw [if_pos e] at h;cases h
  ·rw [if_neg e] at h
   simp only [List.map_cons,List.mem_cons,not_or]
   exact⟨fun z=>e z.symm,xL h⟩
theorem sR:∀(F:Frt) (k:Nat) (y:Way),(iB F k y).map (·.1)=F.map (·.1)
 |[],_,_=>rfl
 |p::F,k,y=>by
  rw [iB,List.map_cons,List.map_cons,sR F]
  by_cases e:p.1=k
  ·rw [if_pos e]
  ·rw [if_neg e]
theorem zZ:∀{F:Frt} {k:Nat} {y:Way} {p:Nat×Way},p∈iB F k y->p=(k,y)\/p∈F
 |[],_,_,_,h=>by cases h
 | q::F,k,y,p,h=>by
  rw [iB] at h
  rcases List.mem_cons.mp h with e|e
  ·by_cases z:q.1=k
   ·rw [if_pos z,z] at e;exact .inl e
   ·rw [if_neg z] at e;exact .inr (by rw [e];exact List.mem_cons_self)
  ·exact(zZ e).imp id (List.mem_cons_of_mem _)
theorem zm6{W:Int}{R:List Int->Str->Prop}{F:Frt}{k:Nat}{x:Way}(h:Good W R F)(hx:Hit W R (k,x)):Good W R (eG F k x):=by
 unfold eG
 cases e:eS F k with
 | none=>
  simp only
  refine⟨?_,fun p hp=> ?_⟩
  ·rw [List.map_append,List.nodup_append]
   refine⟨h.nd,by simp,fun a ha b hb z=> ?_⟩
   simp only [List.map_cons,List.map_nil,List.mem_singleton] at hb
   subst hb
   subst z
   exact xL e ha
  ·rcases List.mem_append.mp hp with z|z
   ·exact h.hit p z
   ·rw [List.mem_singleton.mp z];exact hx
 | some y=>
  simp only
  by_cases c:ltW x y=true
  ·rw [if_pos c]
   refine⟨by rw [sR];exact h.nd,fun p hp=> ?_⟩
   rcases zZ hp with z|z
   ·rw [z];exact hx
   ·exact h.hit p z
  ·rw [if_neg c];exact h
theorem tU{W:Int}{R:List Int->Str->Prop}:∀{G F:Frt},Good W R F->(∀p∈G,Hit W R p)->Good W R (lJ F G)
 |[],F,h,_=>h
 |p::G,F,h,hG=>tU (G:=G) (zm6 h (hG p List.mem_cons_self)) fun q hq=>hG q (List.mem_cons_of_mem _ hq)
def xi4(R:List Int->Str->Prop)(n:Int):List Int->Str->Prop:=fun cs t=>∃c0,R c0 t/\cs=c0++[n]
theorem zd0{W:Int}{R:List Int->Str->Prop}{F:Frt}(h:Good W R F)(n:Int):Good W (xi4 R n) (lT F n):=tU .nil fun p hp=>by
 obtain⟨q,hq,rfl⟩:=List.mem_map.mp hp
 obtain⟨t,h1,h2⟩:=h.hit q hq
 exact⟨t,⟨_,h1,rfl⟩,h2⟩
def Aft(R:List Int->Str->Prop)(set:List Int->Str->Option (List Int×Str)):List Int->Str->Prop:=fun cs t=>∃c0 t0 c1,R c0 t0/\cs=c0++c1/\set c1 t0=some ([],t)
theorem zv3(m:Int):lfB (nlw m)=true:=by
 unfold lfB nlw
 rw [cC]
 exact decide_eq_true rfl
theorem xh2{w:Str}(h:(10:Nat)∉w.cps.toList):lfB w=false:=by
 unfold lfB
 refine decide_eq_false fun e=>h (List.mem_of_getElem? e)
theorem yd9(m:Int):(nlw m).length-1=m.toNat:=by
 unfold nlw
 rw [dO,iF]
 show 1+m.toNat-1=_
 omega
theorem xb4{W:Int}{b:Bool}{m:Int}{l:Leaf}{k:Nat}{c:Int×Int}{s:Nat×(Int×Int)}{t:Str}(hl:eE l)(h0:0<=m)(h1:m<=200)(hc:sG W t k c.1 c.2)(h:fK W b m l k c=some s):∃w,wr b m (col t) l=some w/\sG W (t++w) s.1 s.2.1 s.2.2:=by
 unfold fK at h
 rw [hc.col]
 cases e:wr b m k l with
 |none=>rw [e] at h;cases h
 | some w=>
  rw [e,Option.bind_some] at h
  refine⟨w,rfl,?_⟩
  rcases(xh0 hl h0 h1 e).1 with hw|⟨m',hw⟩
  ·rw [xh2 hw] at h
   simp only [Bool.false_eq_true,if_false] at h
   by_cases z:W<((k+w.length:Nat):Int)
   ·rw [if_pos z] at h;cases h
   ·rw [if_neg z] at h
    cases h
    exact xb3 hc hw (by omega)
  ·subst hw
   rw [zv3] at h
   simp only [if_true] at h
   rw [yd9] at h
   by_cases z:W<((m'.toNat:Nat):Int)
   ·rw [if_pos z] at h;cases h
   ·rw [if_neg z] at h
    cases h
    by_cases hm:0<=m'
    ·exact yd8 hc hm (by omega)
    ·have e0:nlw m'=nlw 0:=by unfold nlw;rw [qZ (x:=Txt.mul " " m') (y:=Txt.mul " " 0) (by rw [rR,rR];congr 1;omega)]
     have:=yd8 hc (m:=0) (Int.le_refl _) (by omega)
     rw [e0,show m'.toNat=(0:Int).toNat by omega]
     exact this
theorem zd1{W:Int}{R:List Int->Str->Prop}{b:Bool}{m:Int}{l:Leaf}(hl:eE l)(h0:0<=m)(h1:m<=200):∀{F G:Frt},(∀p∈F,Hit W R p)->Good W (Aft R (dM b m (.leaf l))) G->Good W (Aft R (dM b m (.leaf l))) (dZ W b m l F G)
 |[],G,_,hG=>hG
 | p::F,G,hF,hG=>by
  have key:Good W (Aft R (dM b m (.leaf l))) (match fK W b m l p.1 p.2.1 with|none=>G|some s=>eG G s.1 (s.2,p.2.2)):=by
   cases e:fK W b m l p.1 p.2.1 with
   |none=>exact hG
   |some s=>
    obtain⟨t,r1,r2⟩:=hF p List.mem_cons_self
    obtain⟨w,e1,e2⟩:=xb4 hl h0 h1 r2 e
    exact zm6 (x:=(s.2,p.2.2)) hG ⟨t++w,⟨_,t,[],r1,by simp,by rw [dM,e1];rfl⟩,e2⟩
  exact zd1 (F:=F) hl h0 h1 (fun q hq=>hF q (List.mem_cons_of_mem _ hq)) key
theorem xn7{b:Bool}{m:Int}{p:Pc}{i:Nat}{x:List Pc×Bool×Int}(hx:(dA b m p)[i]? =some x)(c:List Int)(t:Str):dM b m p ((if dP b p=true then [(i:Int)] else [])++c) t=setR x.2.1 x.2.2 x.1 c t:=by
 cases p with
 |leaf l=>simp [dA] at hx
 | group r=>
  rw [dM.eq_def]
  cases b with
  | false=>
   have e:i=0:=by
    cases i with
    |zero=>rfl
    |succ i=>simp [dA] at hx
   subst e
   simp [dA] at hx
   subst hx
   simp [dP]
  |true=>
   match i,hx with
   |0,hx=>simp [dA] at hx;subst hx;simp [dP]
   |1,hx=>simp [dA] at hx;subst hx;simp [dP]
   |i+2,hx=>simp [dA] at hx
 | hang n r=>
  have e:i=0:=by
   cases i with
   |zero=>rfl
   |succ i=>simp [dA] at hx
  subst e
  simp [dA] at hx
  subst hx
  simp [dP,dM]
 |either rs=>
  have hx':(rs.map fun r=>(r,b,m))[i]? =some x:=hx
  rw [List.getElem?_map] at hx'
  obtain⟨r,hr,rfl⟩:=Option.map_eq_some_iff.mp hx'
  rw [dM.eq_def]
  simp only [dP,if_true,List.cons_append,List.nil_append]
  rw [if_pos (by omega)]
  exact xJ (by simpa using hr)
def rB(W:Int)(GR:Bool->Int->List Pc->Frt->Frt)(r:List Pc):Prop:=∀(b:Bool) (m:Int) (R:List Int->Str->Prop) (F:Frt),0<=m->m+12*depR r<=200->Good W R F->Good W (Aft R (setR b m r)) (GR b m r F)
theorem zm7{W:Int}{GR:Bool->Int->List Pc->Frt->Frt}{R:List Int->Str->Prop}{b:Bool}{m:Int}{p:Pc}{F:Frt}(hF:Good W R F):∀(xs:List (List Pc×Bool×Int)) (n:Nat) (A:Frt),(∀(i:Nat) x,xs[i]? =some x->(dA b m p)[n+i]? =some x)->(∀x∈xs,0<=x.2.2/\x.2.2+12*depR x.1<=200/\rB W GR x.1)->
  Good W (Aft R (dM b m p)) A->Good W (Aft R (dM b m p)) (frW GR (dP b p) F n xs A)
 |[],n,A,_,_,hA=>hA
 | x::xs,n,A,hi,hx,hA=>by
  rw [frW]
  refine zm7 hF xs (n+1) _ (fun i y hy=>by have:=hi (i+1) y (by simpa using hy);rwa [show n+1+i=n+(i+1) by omega]) (fun y hy=>hx y (List.mem_cons_of_mem _ hy)) (tU hA ?_)
  obtain⟨h0,h1,hG⟩:=hx x List.mem_cons_self
  have hw:=fun c t=>xn7 (hi 0 x rfl) c t
  rw [Nat.add_zero] at hw
  by_cases tk:dP b p=true
  ·rw [if_pos tk]
   simp only [tk,if_true] at hw
   intro q hq
   obtain⟨t,⟨c0,t0,c1,⟨c,r1,rfl⟩,e1,e2⟩,hc⟩:=(hG x.2.1 x.2.2 _ _ h0 h1 (zd0 hF n)).hit q hq
   exact⟨t,⟨c,t0,n::c1,r1,by rw [e1];simp,by rw [<-e2,<-hw];rfl⟩,hc⟩
  ·rw [if_neg tk]
   simp only [tk,Bool.false_eq_true,if_false,List.nil_append] at hw
   intro q hq
   obtain⟨t,⟨c0,t0,c1,r1,e1,e2⟩,hc⟩:=(hG x.2.1 x.2.2 _ _ h0 h1 hF).hit q hq
   exact⟨t,⟨c0,t0,c1,r1,e1,by rw [<-e2,<-hw]⟩,hc⟩
theorem zv4{b:Bool}{m:Int}{p:Pc}{x:List Pc×Bool×Int}{k:Nat}(ho:okP p)(h0:0<=m)(h1:m+12*eD p<=200)(hk:eD p<=k)(hx:x∈dA b m p):0<=x.2.2/\x.2.2+12*depR x.1<=200/\depR x.1<k/\okR x.1:=by
 cases p with
 |leaf l=>simp [dA] at hx
 | group r=>
  rw [eD] at h1 hk
  have hr:okR r:=ho
  have:x.1=r/\x.2.2=m:=by
   cases b<;>simp [dA] at hx
   ·subst hx;exact⟨rfl,rfl⟩
   ·rcases hx with e|e<;>subst e<;>exact⟨rfl,rfl⟩
  rw [this.1,this.2]
  exact⟨h0,by omega,by omega,hr⟩
 |hang n r=>
  rw [eD] at h1 hk
  have hr:(0<=n/\n<=12)/\okR r:=ho
  simp [dA] at hx
  subst hx
  exact⟨by show 0<=m+n;omega,by show m+n+12*(depR r:Int)<=200;omega,by show depR r<k;omega,hr.2⟩
 |either rs=>
  rw [eD] at h1 hk
  have hr:(2<=rs.length/\rs.length<=4)/\okRs rs:=ho
  obtain⟨r,hm,rfl⟩:=List.mem_map.mp (show x∈rs.map fun r=>(r,b,m) from hx)
  obtain⟨i,hi⟩:=List.getElem?_of_mem hm
  have:=sQ hi
  exact⟨h0,by show m+12*(depR r:Int)<=200;omega,by show depR r<k;omega,zY hr.2 hi⟩
theorem zd2{W:Int}{GR:Bool->Int->List Pc->Frt->Frt}{k:Nat}(hG:∀r,depR r<k->okR r->rB W GR r){R:List Int->Str->Prop}{b:Bool}{m:Int}{p:Pc}{F:Frt}(hk:eD p<=k)(ho:okP p)(h0:0<=m)(h1:m+12*eD p<=200)(hF:Good W R F):Good W (Aft R (dM b m p)) (frP W GR b m F p):=by
 have hold:Good W (Aft R (dM b m p)) (frW GR (dP b p) F 0 (dA b m p) []):=zm7 hF _ 0 [] (fun i x h=>by rwa [Nat.zero_add]) (fun x hx=>by
  obtain⟨a1,a2,a3,a4⟩:=zv4 ho h0 h1 hk hx
  exact⟨a1,a2,hG x.1 a3 a4⟩) .nil
 cases p with
 |leaf l=>exact zd1 ho h0 (by rw [eD] at h1;omega) hF.hit .nil
 |group r=>exact hold
 |hang n r=>exact hold
 |either rs=>exact hold
theorem zm8{W:Int}{GR:Bool->Int->List Pc->Frt->Frt}{k:Nat}(hG:∀r,depR r<k->okR r->rB W GR r){b:Bool}{m:Int}(h0:0<=m):∀{r:List Pc} {R:List Int->Str->Prop} {F:Frt},depR r<=k->okR r->m+12*depR r<=200->Good W R F->Good W (Aft R (setR b m r)) (r.foldl (fun F p=>frP W GR b m F p) F)
 |[],R,F,_,_,_,hF=>hF.mono fun c t h=>⟨c,t,[],h,by simp,by rw [setR]⟩
 |p::r,R,F,hk,ho,h1,hF=>by
  rw [depR] at hk h1
  have hp:=zd2 hG (b:=b) (show eD p<=k by omega) ho.1 h0 (by omega) hF
  refine(zm8 hG h0 (r:=r) (by omega) ho.2 (by omega) hp).mono fun c t=> ?_
  rintro⟨c0,t0,c2,⟨d0,s0,c1,r1,rfl,e1⟩,rfl,e2⟩
  refine⟨d0,s0,c1++c2,r1,by simp,?_⟩
  rw [setR,zm4 c2 e1]
  exact e2
theorem za0{W:Int}:∀(n:Nat) (r:List Pc),depR r<n->okR r->rB W (frN W n) r
 |0,_,h,_=>absurd h (Nat.not_lt_zero _)
 |n+1,r,h,ho=>fun b m R F h0 h1 hF=>by
  rw [frN]
  exact zm8 (fun q h1 h2=>za0 n q h1 h2) h0 (by omega) ho h1 hF
theorem zd3{W:Int}{n:Nat}{r:List Pc}(hW:0<=W)(hd:depR r<n)(ho:okR r)(h1:12*(depR r:Int)<=200):Good W (fun cs t=>setR true 0 r cs ⟨#[]⟩=some ([],t)) (frN W n true 0 r [(0,((1,0),[]))]):=by
 have g0:Good W (fun cs t=>cs=[]/\t=⟨#[]⟩) [(0,((1,0),[]))]:=⟨by simp,fun p hp=>by
  rw [List.mem_singleton.mp hp];exact⟨_,⟨rfl,rfl⟩,zv2 hW⟩⟩
 refine(za0 n r hd ho true 0 _ _ (Int.le_refl _) (by omega) g0).mono fun c t=> ?_
 rintro⟨c0,t0,c1,⟨rfl,rfl⟩,rfl,e⟩
 exact e
abbrev nsF:List Str:=["steps","best"]
def bW(W:Int):D:= .obj false "WithinWidth" ["width"] [.int W]
def wyD(x:Way):D:= .tup [.tup [.int x.1.1,.int x.1.2],.tup (bE x.2)]
def cI(F:Frt):List Key:=F.map fun p=> .inl (p.1:Int)
def dX(F:Frt):List D:=F.map fun p=>wyD p.2
def aI(o:Bool)(W:Int)(F:Frt):D:= .obj o "Front" nsF [bW W,.dic o (cI F) (dX F)]
theorem uN(x:Way):(wyD x).imm=true:=by
 have:=fY x.2
 simp! [jR,eQ,D.key,lA,jZ,nI,wyD,this]
theorem rS:∀F:Frt,D.imms (dX F)=true
 |[]=>rfl
 |p::F=>by
  show(D.imm (wyD p.2)&&D.imms (dX F))=true
  rw [uN,rS F];rfl
theorem xM(W:Int)(F:Frt):(aI false W F).imm=true:=by
 have:=rS F
 simp! [jR,eQ,D.key,lA,jZ,nI,aI,bW,this]
theorem zv5(F:Frt):(cI F).length=F.length:=List.length_map _
theorem qP:∀(F:Frt) (k:Nat),iR (cI F) (dX F) (.inl (k:Int))=(eS F k).map wyD
 |[],_=>rfl
 |p::F,k=>by
  show iR (.inl (p.1:Int)::cI F) (wyD p.2::dX F) _=_
  rw [iR,eS]
  by_cases e:p.1=k
  ·rw [if_pos e,if_pos (by rw [e])];rfl
  ·rw [if_neg e,if_neg (fun z=>e (by have:=Sum.inl.inj z;omega)),qP F k]
theorem zd4:∀(F:Frt) (k:Nat) (x:Way),qF (cI F) (dX F) (.inl (k:Int)) (wyD x)=dX (iB F k x)
 |[],_,_=>rfl
 |p::F,k,x=>by
  show qF (.inl (p.1:Int)::cI F) (wyD p.2::dX F) _ _=_
  rw [qF,zd4 F,iB]
  by_cases e:p.1=k
  ·rw [if_pos e,if_pos (by rw [e])];rfl
  ·rw [if_neg e,if_neg (fun z=>e (by have:=Sum.inl.inj z;omega))];rfl
theorem zm9(F:Frt)(k:Nat)(x:Way):cI (iB F k x)=cI F:=by
 unfold cI
 have:=congrArg (List.map fun(k:Nat)=>(Sum.inl (k:Int):Key)) (sR F k x)
 rw [List.map_map,List.map_map] at this
 exact this
theorem xn8(x y:Way):zy5 (wyD x) (wyD y)=some (.bl (ltW x y)):=by
 unfold wyD zy5 ltW
 simp! [jR,eQ,D.key,lA,jZ,nI,D.intss,D.ints,zv0]
abbrev kS:tz7:=gE 2 0 (bQ [true,false]) qG
theorem xv0(W:Int):kS [.obj true "Front" [] [],bW W]=some (.non,[aI true W [],bW W]):=by
 have e:aI true W []= .obj true "Front" nsF [bW W,.dic true [] []]:=rfl
 have h:(bW W).imm=true:=rfl
 rw [e]
 generalize bW W=w at h|-
 simp! [jR,eQ,D.key,lA,jZ,nI,qG,h]
theorem vJ{p:PSt}{f:tz2}{W:Int}(h:f p=some (bW W)):eT "Front" (cK [.im f]) kS p=some (aI true W []):=by
 have hi:(bW W).imm=true:=rfl
 have i:=xv0 W
 generalize kS=G at i|-
 generalize aI true W []=X at i|-
 generalize bW W=w at h hi i|-
 unfold eT
 rw [dD h hi fO,Option.bind_some,i]
 rfl
abbrev lU:tz7:=gE 3 0 (bQ [true,false,false]) kR
theorem xv1{W:Int}{F:Frt}{k:Nat}{x:Way}(hl:F.length<=900):lU [aI true W F,.int (k:Int),wyD x]=some (.non,[aI true W (eG F k x),.int (k:Int),wyD x]):=by
 have g:=qP F k
 have hx:=uN x
 have hv:=rS F
 have hz:(cI F).length<sizeLine:=by rw [zv5];exact sz1 (by omega)
 unfold eG
 cases e:eS F k with
 | none=>
  rw [e] at g
  have e1:aI true W (F++[(k,x)])= .obj true "Front" nsF [bW W,.dic true (cI F++[.inl (k:Int)]) (dX F++[wyD x])]:=by
   unfold aI cI dX
   rw [List.map_append,List.map_append];rfl
  simp only
  rw [e1]
  unfold aI
  generalize cI F=ks at*
  generalize dX F=vs at*
  generalize wyD x=X at*
  generalize bW W=w at*
  simp only [Option.map_none] at g
  simp! [jR,eQ,D.key,lA,jZ,nI,kR,g,hx,hv,hz]
 | some y=>
  rw [e] at g
  have l:=xn8 x y
  have pv:=zd4 F k x
  have ks:=zm9 F k x
  simp only [Option.map_some] at g
  by_cases c:ltW x y=true
  ·rw [c] at l
   simp only [c,if_true]
   have e1:aI true W (iB F k x)= .obj true "Front" nsF [bW W,.dic true (cI F) (dX (iB F k x))]:=by unfold aI;rw [ks]
   rw [e1,<-pv]
   unfold aI
   generalize cI F=ks at*
   generalize dX F=vs at*
   generalize wyD x=X at*
   generalize wyD y=Y at*
   generalize bW W=w at*
   simp! [jR,eQ,D.key,lA,jZ,nI,kR,g,hx,hv,hz,l]
  ·rw [Bool.not_eq_true] at c
   rw [c] at l
   simp only [c,Bool.false_eq_true,if_false]
   unfold aI
   generalize cI F=ks at*
   generalize dX F=vs at*
   generalize wyD x=X at*
   generalize wyD y=Y at*
   generalize bW W=w at*
   simp! [jR,eQ,D.key,lA,jZ,nI,kR,g,hx,hv,hz,l]
theorem yt5{g:tz7}{m:Str}{W:Int}{F:Frt}{ys:List D}{N v:D}(hm:cN nsF m=none)(h:g (aI true W F::ys)=some (v,N::ys)):iK "Front" m g ys (aI true W F)=some (v,N):=by
 show(if (("Front":Str)="Front"/\cN nsF m=none) then(g (aI true W F::ys)).bind _ else none)=_
 rw [if_pos ⟨rfl,hm⟩,h]
 show(if ys.length=ys.length then some (v,N) else none)=_
 rw [if_pos rfl]
theorem zv6:∀(F:Frt) (k:Nat) (x:Way),(iB F k x).length=F.length
 |[],_,_=>rfl
 |p::F,k,x=>by rw [iB,List.length_cons,List.length_cons,zv6 F]
theorem oE(F:Frt)(k:Nat)(x:Way):(eG F k x).length<=F.length+1:=by
 unfold eG
 cases eS F k with
 |none=>simp
 |some y=>
  simp only
  split
  ·rw [zv6];omega
  ·omega
theorem zd5:∀(G F:Frt),(lJ F G).length<=F.length+G.length
 |[],F=>Nat.le_refl _
 |p::G,F=>by
  have h1:=zd5 G (eG F p.1 p.2)
  have h2:=oE F p.1 p.2
  show(lJ (eG F p.1 p.2) G).length<=_
  rw [List.length_cons];omega
theorem hJ:∀{F:Frt} {p:Nat×Way},(F.map (·.1)).Nodup->p∈F->eS F p.1=some p.2
 |[],_,_,h=>by cases h
 | q::F,p,nd,h=>by
  rw [List.map_cons,List.nodup_cons] at nd
  rw [eS]
  rcases List.mem_cons.mp h with e|e
  ·rw [e,if_pos rfl]
  ·rw [if_neg (fun z=>nd.1 (by rw [z];exact List.mem_map_of_mem e))]
   exact hJ nd.2 e
theorem za1{p:PSt}{f:tz2}{o:Bool}{W:Int}{F:Frt}(h:f p=some (aI o W F)):cU "Front" "best" f p=some (.dic o (cI F) (dX F)):=by
 unfold cU
 rw [h,Option.bind_some]
 unfold aI
 generalize bW W=w
 simp [zy3,cN,fN]
theorem sS{p:PSt}{f:tz2}{o:Bool}{W:Int}{F:Frt}(h:f p=some (aI o W F)):cU "Front" "steps" f p=some (bW W):=by
 unfold cU
 rw [h,Option.bind_some]
 unfold aI
 generalize bW W=w
 simp [zy3,cN,fN]
def zf5(F:Frt):List D:=F.map fun q=> .int (q.1:Int)
theorem yt6(F:Frt):(cI F).map yl2=zf5 F:=by
 unfold cI zf5
 rw [List.map_map];rfl
theorem ye0(F:Frt):(D.dic false (cI F) (dX F)).imm=true:=by
 have:=rS F
 simp [D.imm,this]
theorem zh9{p:PSt}{f:tz2}{W:Int}{F:Frt}(h:f p=some (aI false W F)):uV (aQ (cU "Front" "best" f)) p=some (zf5 F):=by
 unfold uV
 rw [bL (za1 h) (ye0 F),Option.bind_some,<-yt6];rfl
theorem zv7{p:PSt}{f g:tz2}{W:Int}{F:Frt}{k:Nat}{x:Way}(h:f p=some (aI false W F))(hg:g p=some (.int (k:Int)))(hx:eS F k=some x):f2 eQ (cU "Front" "best" f) g p=some (wyD x):=by
 refine aP (za1 h) hg ?_
 show(some (Sum.inl (k:Int):Key)).bind _=_
 rw [Option.bind_some,qP,hx];rfl
theorem ye1{j:Nat}{g:tz3}{h:List D->D->Option (D×D)}{p:PSt}{d0 d0' r:D}{ys:List D}(h0:p[j]? =some (some d0))(hg:g p=some ys)(hh:h ys d0=some (r,d0')):dI j bU g h p=some (r,p.set j (some d0')):=by
 unfold dI bU
 rw [h0]
 simp only [Option.join_some,Option.bind_some,hg,eP,hh]
theorem yJ{j:Nat}{p:PSt}{f g:tz2}{W:Int}{F:Frt}{k:Nat}{x:Way}(h0:p[j]? =some (some (aI true W F)))(hf:f p=some (.int (k:Int)))(hg:g p=some (wyD x))(hl:F.length<=900):
  cM (dI j bU (cK [.im f,.im g]) (iK "Front" "add" lU)) p=some (.nx,p.set j (some (aI true W (eG F k x)))):=
 kH (ye1 h0 (dD hf rfl (dD hg (uN x) fO)) (yt5 (by simp [cN,fN]) (xv1 hl)))
theorem yK{i N:Nat}{f:tz1}(S:Nat->Frt->PSt->Prop)(st:Frt->Nat×Way->Frt):∀{L:Frt} {p:PSt} {n:Nat} {A:Frt},n+L.length<=N->S n A p->(∀n A p q,n<N->q∈L->S n A p->∃p',f (p.set i (some (.int (q.1:Int))))=some (.nx,p')/\S (n+1) (st A q) p')->∃p',cX i f (zf5 L) p=some (.nx,p')/\S (n+L.length) (L.foldl st A) p'
 |[],p,n,A,_,h,_=>⟨p,rfl,h⟩
 |q::L,p,n,A,hn,h,hs=>by
  rw [List.length_cons] at hn
  obtain⟨p1,e1,h1⟩:=hs n A p q (by omega) List.mem_cons_self h
  obtain⟨p2,e2,h2⟩:=yK S st (L:=L) (n:=n+1) (by omega) h1 fun n A p r h1 hr=>hs n A p r h1 (List.mem_cons_of_mem _ hr)
  refine⟨p2,?_,by rw [List.length_cons,show n+(L.length+1)=n+1+L.length by omega];exact h2⟩
  show cX i f (.int (q.1:Int)::zf5 L) p=_
  rw [cX,e1]
  exact e2
theorem uO{i:Nat}{fi:tz3}{f:tz1}{p p':PSt}{ds:List D}(h:fi p=some ds)(e:cX i f ds p=some (.nx,p')):fJ i fi f p=some (.nx,p'):=by
 unfold fJ
 rw [h];exact e
abbrev yl7:tz7:=gE 2 1 (bQ [true,false]) (jM lU)
theorem xv2{W:Int}{F G:Frt}(nd:(G.map (·.1)).Nodup)(hl:F.length+G.length<=800):yl7 [aI true W F,aI false W G]=some (.non,[aI true W (lJ F G),aI false W G]):=by
 obtain⟨p',e,_,z,rfl⟩:=yK (i:=2) (N:=G.length) (f:=cM (dI 0 bU (cK [.im (aA 2),.im (f2 eQ (cU "Front" "best" (aA 1)) (aA 2))]) (iK "Front" "add" lU)))
  (fun n A p=>A.length<=F.length+n/\∃z,p=[some (aI true W A),some (aI false W G),z]) (fun A q=>eG A q.1 q.2) (L:=G) (p:=[some (aI true W F),some (aI false W G),none]) (n:=0) (A:=F) (by omega) ⟨Nat.le_refl _,none,rfl⟩
  (by
   rintro n A p q hn hq ⟨hA,z,rfl⟩
   refine⟨_,yJ (j:=0) (F:=A) (W:=W) (k:=q.1) (x:=q.2) rfl rfl (zv7 (F:=G) (W:=W) rfl rfl (hJ nd hq)) (by omega),?_,_,rfl⟩
   have:=oE A q.1 q.2
   omega)
 have e2:=uO (i:=2) (zh9 (f:=aA 1) (W:=W) (F:=G) (p:=[some (aI true W F),some (aI false W G),none]) rfl) e
 show gE 2 1 _ (jM lU) _=_
 have e3:jM lU ([aI true W F,aI false W G].map some++List.replicate 1 none)=some (.nx,[some (aI true W (lJ F G)),some (aI false W G),z]):=e2
 unfold gE
 rw [if_pos (show [aI true W F,aI false W G].length=2 from rfl),e3]
 rfl
theorem lM{np n:Nat}{f:tz1}{ds:List D}{d:D}(hl:ds.length=np)(h:∃q,f (ds.map some++List.replicate n none)=some (.ret d,q)):gP np n f ds=some d:=h.elim fun _ e=>gM hl e
theorem uP{f g:tz1}{p:PSt}{d:D}(h:∃q,f p=some (.ret d,q)):∃q,aU f g p=some (.ret d,q):=h.elim fun q e=>⟨q,dH e⟩
theorem yj6(F:Frt)(n:Int):lT F n=F.foldl (fun A q=>eG A q.1 (q.2.1,q.2.2++[n])) []:=by
 unfold lT lJ
 rw [List.foldl_map];rfl
theorem ye2{p:PSt}{i:Nat}{x:Way}(h:p[i]? =some (some (wyD x))):f2 dIx (aA i) (fC (.int 0)) p=some (.tup [.int x.1.1,.int x.1.2]):=aP (mK h) rfl (kG _ _)
theorem ye3{p:PSt}{i:Nat}{x:Way}(h:p[i]? =some (some (wyD x))):f2 dIx (aA i) (fC (.int 1)) p=some (.tup (bE x.2)):=aP (mK h) rfl (gQ _ _ _)
theorem za2{p:PSt}{f g:tz2}{x:Way}(h1:f p=some (.tup [.int x.1.1,.int x.1.2]))(h2:g p=some (.tup (bE x.2))):bN (aB f (aB g aE)) p=some (wyD x):=
 dW (aD h1 (aD h2 rfl)) (uN x) (by simp)
theorem xb5{p:PSt}{i j:Nat}{x:Way}{n:Int}(h:p[i]? =some (some (wyD x)))(hn:p[j]? =some (some (.int n)))(hl:x.2.length<=900):bN (aB (aQ (f2 dIx (aA i) (fC (.int 0)))) (aB (f2 bP (f2 dIx (aA i) (fC (.int 1))) (bN (aB (aQ (aA j)) aE))) aE)) p=some (wyD (x.1,x.2++[n])):=by
 refine za2 (x:=(x.1,x.2++[n])) (bL (ye2 (x:=x) h) rfl) (aP (ye3 (x:=x) h) (dW (aD (bL (mK hn) rfl) rfl) rfl (by simp)) ?_)
 show(if (bE x.2).length+[D.int n].length<=sizeLine then some (D.tup (bE x.2++[.int n])) else none)=_
 rw [if_pos (by rw [pE];exact sz (by show x.2.length+1<=1000;omega)),xK];rfl
abbrev zf6:tz6:=gP 2 3 (sA kS lU)
theorem xb6{W:Int}{F:Frt}{n:Int}(nd:(F.map (·.1)).Nodup)(hl:F.length<=800)(hc:∀q∈F,q.2.2.length<=900):zf6 [aI false W F,.int n]=some (aI true W (lT F n)):=by
 have s1:aT 2 (aH (eT "Front" (cK [.im (cU "Front" "steps" (aA 0))]) kS)) [some (aI false W F),some (.int n),none,none,none]=some (.nx,[some (aI false W F),some (.int n),some (aI true W []),none,none]):=bJ (vJ (sS (f:=aA 0) (F:=F) rfl))
 obtain⟨p',e,_,y,z,rfl⟩:=yK (i:=3) (N:=F.length) (f:=aU (aT 4 (aH (aQ (f2 eQ (cU "Front" "best" (aA 0)) (aA 3))))) (cM (dI 2 bU (cK [.im (aA 3),.im (bN (aB (aQ (f2 dIx (aA 4) (fC (.int 0)))) (aB (f2 bP (f2 dIx (aA 4) (fC (.int 1))) (bN (aB (aQ (aA 1)) aE))) aE)))]) (iK "Front" "add" lU))))
  (fun k A p=>A.length<=k/\∃y z,p=[some (aI false W F),some (.int n),some (aI true W A),y,z]) (fun A q=>eG A q.1 (q.2.1,q.2.2++[n])) (L:=F) (p:=[some (aI false W F),some (.int n),some (aI true W []),none,none]) (n:=0) (A:=[]) (by omega) ⟨Nat.le_refl _,none,none,rfl⟩
  (by
   rintro k A p q hk hq ⟨hA,y,z,rfl⟩
   refine⟨_,(aM (bJ (bL (zv7 (F:=F) (W:=W) (k:=q.1) rfl rfl (hJ nd hq)) (uN q.2)))).trans (yJ (j:=2) (F:=A) (W:=W) (k:=q.1) (x:=(q.2.1,q.2.2++[n])) rfl rfl (xb5 rfl rfl (hc q hq)) (by omega)),?_,_,_,rfl⟩
   have:=oE A q.1 (q.2.1,q.2.2++[n])
   omega)
 refine lM rfl (cV s1 (cV (uO (i:=3) (zh9 (f:=aA 0) (W:=W) (F:=F) rfl) e) ?_))
 rw [yj6]
 exact⟨_,rfl⟩
theorem yt7{i j:Int}(h1: -100000<=i)(h2:i<=100000):L2.nD i j=true:=by
 unfold L2.nD
 rw [decide_eq_true (show-(2^64)<i by omega),decide_eq_true (show i<2^64 by omega)];rfl
abbrev xf5:tz6:=gP 2 0 mQ
theorem zn0{p:PSt}{f:tz2}{W:Int}(h:f p=some (bW W)):cU "WithinWidth" "width" f p=some (.int W):=by
 unfold cU
 rw [h,Option.bind_some]
 simp [bW,zy3,cN]
theorem xv3{W:Int}{k:Nat}(hW0:0<=W)(hW:W<=40)(hk:k<=1000):xf5 [bW W,.int (k:Int)]=some (.int ((W-k)*(W-k))):=by
 have e:f2 iY (cU "WithinWidth" "width" (aA 0)) (aA 1) [some (bW W),some (.int (k:Int))]=some (.int (W-k)):=aP (zn0 rfl) rfl rfl
 exact gM (p:=[some (bW W),some (.int (k:Int))]) rfl (cD (aP e e (if_pos (yt7 (by omega) (by omega)))))
theorem xb7(k:Nat)(w:Str)(hz:w.length<=1000):zi9 [.int (k:Int),.str w]=some (.int ((if lfB w=true then w.length-1 else k+w.length:Nat):Int)):=by
 have q:=yd7 w
 have hs:w.length<=sizeLine:=sz hz
 show gP 2 0 (gC yU) _=_
 unfold lfB
 generalize yU=G at q|-
 by_cases c:w.cps.toList[0]? =some 10
 ·rw [decide_eq_true c] at q|-
  have h1:1<=w.length:=by
   rw [mB]
   have:=(List.getElem?_eq_some_iff.mp c).1
   omega
  rw [if_pos rfl,show((w.length-1:Nat):Int)=(w.length:Int)-1 by omega]
  simp! [gC,q,hs]
 ·rw [decide_eq_false c] at q|-
  rw [if_neg Bool.false_ne_true]
  simp! [gC,q,hs]
def zq5:Option (Nat×(Int×Int))->D
 |none=> .non
 |some s=> .tup [.int (s.1:Int),.tup [.int s.2.1,.int s.2.2]]
abbrev zq6:tz6:=gP 5 2 (jC za5 zi9 yU xf5)
theorem xn9{W:Int}{b:Bool}{m:Int}{l:Leaf}{k:Nat}{c:Int×Int}(hW0:0<=W)(hW1:W<=40)(hl:eE l)(h0:0<=m)(h1:m<=200)(hk:k<=1000):zq6 [bW W,.int (k:Int),.tup [.int c.1,.int c.2],aZ l,aR b m]=some (zq5 (fK W b m l k c)):=by
 have q1:=yj5 l b m k hl h0 h1 (by omega)
 have s1:∀P5 P6,aT 5 (aH (aJ za5 (aB (aA 3) (aB (aA 4) (aB (aA 1) aE))))) [some (bW W),some (.int (k:Int)),some (.tup [.int c.1,.int c.2]),some (aZ l),some (aR b m),P5,P6]=some (.nx,[some (bW W),some (.int (k:Int)),some (.tup [.int c.1,.int c.2]),some (aZ l),some (aR b m),some (wrD (wr b m k l)),P6]):=fun _ _=>bJ (aY (aD rfl (aD rfl (aD rfl rfl))) q1)
 unfold fK
 cases e:wr b m k l with
 |none=>
  rw [e] at s1
  exact lM rfl (cV (s1 none none) (uP ⟨_,(bI (dQ (aP rfl rfl rfl))).trans (cD rfl)⟩))
 | some w=>
  rw [e] at s1
  obtain⟨_,hz⟩:=xh0 hl h0 h1 e
  have q2:=xb7 k w (by omega)
  have q3:=yd7 w
  have q4:=xv3 hW0 hW1 hk
  rw [Option.bind_some]
  generalize hK:(if lfB w=true then w.length-1 else k+w.length:Nat)=K at q2|-
  have s2:∀P6,fIf (aW (fB (f2 dIs (aA 5) (fC .non)))) (cA (aH (fC .non))) bO [some (bW W),some (.int (k:Int)),some (.tup [.int c.1,.int c.2]),some (aZ l),some (aR b m),some (.str w),P6]=some (.nx,[some (bW W),some (.int (k:Int)),some (.tup [.int c.1,.int c.2]),some (aZ l),some (aR b m),some (.str w),P6]):=fun _=>bA (dQ (aP rfl rfl rfl))
  have s3:aT 6 (aH (aJ zi9 (aB (aA 1) (aB (aA 5) aE)))) [some (bW W),some (.int (k:Int)),some (.tup [.int c.1,.int c.2]),some (aZ l),some (aR b m),some (.str w),none]=some (.nx,[some (bW W),some (.int (k:Int)),some (.tup [.int c.1,.int c.2]),some (aZ l),some (aR b m),some (.str w),some (.int (K:Int))]):=bJ (aY (aD rfl (aD rfl rfl)) q2)
  refine lM rfl (cV (s1 none none) (cV (s2 none) (cV s3 ?_)))
  ·have c1:fB (f2 dGt (aA 6) (cU "WithinWidth" "width" (aA 0))) [some (bW W),some (.int (k:Int)),some (.tup [.int c.1,.int c.2]),some (aZ l),some (aR b m),some (.str w),some (.int (K:Int))]=some (decide (W<(K:Int))):=dQ (aP rfl (zn0 rfl) rfl)
   by_cases hW:W<(K:Int)
   ·rw [if_pos hW]
    rw [decide_eq_true hW] at c1
    exact uP ⟨_,(bI c1).trans (cD rfl)⟩
   ·rw [if_neg hW]
    rw [decide_eq_false hW] at c1
    refine cV (bA c1) ?_
    have c2:fT (aJ yU (aB (aA 5) aE)) [some (bW W),some (.int (k:Int)),some (.tup [.int c.1,.int c.2]),some (aZ l),some (aR b m),some (.str w),some (.int (K:Int))]=some (lfB w):=sP (aY (aD rfl rfl) q3)
    have x0:f2 dIx (aA 2) (fC (.int 0)) [some (bW W),some (.int (k:Int)),some (.tup [.int c.1,.int c.2]),some (aZ l),some (aR b m),some (.str w),some (.int (K:Int))]=some (.int c.1):=aP rfl rfl (kG _ _)
    have x1:f2 dIx (aA 2) (fC (.int 1)) [some (bW W),some (.int (k:Int)),some (.tup [.int c.1,.int c.2]),some (aZ l),some (aR b m),some (.str w),some (.int (K:Int))]=some (.int c.2):=aP rfl rfl (gQ _ _ _)
    cases lf:lfB w with
    | true=>
     rw [lf] at c2
     have x2:pI "WithinWidth" "rag_of" (aA 0) [some (bW W),some (.int (k:Int)),some (.tup [.int c.1,.int c.2]),some (aZ l),some (aR b m),some (.str w),some (.int (K:Int))]=some (bW W):=by
      show yQ "WithinWidth" "rag_of" (bW W)=_
      unfold yQ bW
      exact if_pos ⟨rfl,by simp [cN,fN]⟩
     have x3:=aY (h:=xf5) (aD x2 (aD (f:=aA 1) (g:=aE) (d:= .int (k:Int)) rfl rfl)) q4
     refine uP ⟨_,(bI c2).trans (cD (dW (aD (bL rfl rfl) (aD (dW (aD (aP x0 rfl rfl) (aD (aP x1 x3 rfl) rfl)) rfl (by simp)) rfl)) rfl (by simp)))⟩
    |false=>
     rw [lf] at c2
     exact cV (bA c2) ⟨_,cD (dW (aD (bL rfl rfl) (aD (bL rfl rfl) rfl)) rfl (by simp))⟩
abbrev yV:tz6:=gP 3 4 (qJ kS zq6 lU)
theorem yt8{W:Int}{F:Frt}{b:Bool}{m:Int}{l:Leaf}(hW0:0<=W)(hW1:W<=40)(hl:eE l)(h0:0<=m)(h1:m<=200)(nd:(F.map (·.1)).Nodup)(hF:F.length<=800)(hk:∀q∈F,q.1<=1000):
  yV [aI false W F,aZ l,aR b m]=some (aI true W (dZ W b m l F [])):=by
 have s1:aT 3 (aH (eT "Front" (cK [.im (cU "Front" "steps" (aA 0))]) kS)) [some (aI false W F),some (aZ l),some (aR b m),none,none,none,none]=some (.nx,[some (aI false W F),some (aZ l),some (aR b m),some (aI true W []),none,none,none]):=bJ (vJ (sS (f:=aA 0) (F:=F) rfl))
 obtain⟨p',e,_,x,y,z,rfl⟩:=yK (i:=4) (N:=F.length) (f:=aU (aT 5 (aH (aQ (f2 eQ (cU "Front" "best" (aA 0)) (aA 4)))))
  (aU (aT 6 (aH (aJ zq6 (aB (pI "WithinWidth" "state_behind" (cU "Front" "steps" (aA 0))) (aB (aA 4) (aB (f2 dIx (aA 5) (fC (.int 0))) (aB (aA 1) (aB (aA 2) aE))))))))
  (fIf (aW (fB (f2 xQ (aA 6) (fC .non)))) (cM (dI 3 bU (cK [.im (f2 dIx (aA 6) (fC (.int 0))),.im (bN (aB (aQ (f2 dIx (aA 6) (fC (.int 1)))) (aB (aQ (f2 dIx (aA 5) (fC (.int 1)))) aE)))]) (iK "Front" "add" lU))) bO)))
  (fun k A p=>A.length<=k/\∃x y z,p=[some (aI false W F),some (aZ l),some (aR b m),some (aI true W A),x,y,z]) (fun G p=>match fK W b m l p.1 p.2.1 with
   |none=>G
   |some s=>eG G s.1 (s.2,p.2.2)) (L:=F) (p:=[some (aI false W F),some (aZ l),some (aR b m),some (aI true W []),none,none,none]) (n:=0) (A:=[]) (by omega) ⟨Nat.le_refl _,none,none,none,rfl⟩
  (by
   rintro k A p q hn hq ⟨hA,x,y,z,rfl⟩
   have t1:aT 5 (aH (aQ (f2 eQ (cU "Front" "best" (aA 0)) (aA 4)))) [some (aI false W F),some (aZ l),some (aR b m),some (aI true W A),some (.int (q.1:Int)),y,z]=some (.nx,[some (aI false W F),some (aZ l),some (aR b m),some (aI true W A),some (.int (q.1:Int)),some (wyD q.2),z]):=bJ (bL (zv7 (F:=F) (W:=W) (k:=q.1) rfl rfl (hJ nd hq)) (uN q.2))
   have r1:pI "WithinWidth" "state_behind" (cU "Front" "steps" (aA 0)) [some (aI false W F),some (aZ l),some (aR b m),some (aI true W A),some (.int (q.1:Int)),some (wyD q.2),z]=some (bW W):=by
    unfold pI
    rw [sS (f:=aA 0) (o:=false) (W:=W) (F:=F) rfl,Option.bind_some]
    unfold yQ bW
    exact if_pos ⟨rfl,by simp [cN,fN]⟩
   have t2:aT 6 (aH (aJ zq6 (aB (pI "WithinWidth" "state_behind" (cU "Front" "steps" (aA 0))) (aB (aA 4) (aB (f2 dIx (aA 5) (fC (.int 0))) (aB (aA 1) (aB (aA 2) aE))))))) [some (aI false W F),some (aZ l),some (aR b m),some (aI true W A),some (.int (q.1:Int)),some (wyD q.2),z]=some (.nx,[some (aI false W F),some (aZ l),some (aR b m),some (aI true W A),some (.int (q.1:Int)),some (wyD q.2),some (zq5 (fK W b m l q.1 q.2.1))]):=
    bJ (aY (aD r1 (aD rfl (aD (ye2 rfl) (aD rfl (aD rfl rfl))))) (xn9 hW0 hW1 hl h0 h1 (hk q hq)))
   cases es:fK W b m l q.1 q.2.1 with
   |none=>
    rw [es] at t2
    exact⟨_,(aM t1).trans ((aM t2).trans (bA (dQ (aP rfl rfl rfl)))),Nat.le_succ_of_le hA,_,_,_,rfl⟩
   |some s=>
    rw [es] at t2
    have w0:f2 dIx (aA 6) (fC (.int 0)) [some (aI false W F),some (aZ l),some (aR b m),some (aI true W A),some (.int (q.1:Int)),some (wyD q.2),some (zq5 (some s))]=some (.int (s.1:Int)):=aP rfl rfl (kG _ _)
    have w1:f2 dIx (aA 6) (fC (.int 1)) [some (aI false W F),some (aZ l),some (aR b m),some (aI true W A),some (.int (q.1:Int)),some (wyD q.2),some (zq5 (some s))]=some (.tup [.int s.2.1,.int s.2.2]):=aP rfl rfl (gQ _ _ _)
    refine⟨_,(aM t1).trans ((aM t2).trans ((bI (dQ (aP rfl rfl rfl))).trans (yJ (j:=3) (F:=A) (W:=W) (k:=s.1) (x:=(s.2,q.2.2)) rfl w0 (za2 (x:=(s.2,q.2.2)) (bL w1 rfl) (bL (ye3 (x:=q.2) rfl) (fY q.2.2))) (by omega)))),?_,_,_,_,rfl⟩
    have:=oE A s.1 (s.2,q.2.2)
    show(eG A s.1 (s.2,q.2.2)).length<=_
    omega)
 exact lM rfl (cV s1 (cV (uO (i:=4) (zh9 (f:=aA 0) (W:=W) (F:=F) rfl) e) ⟨_,rfl⟩))
mutual
theorem zv8:∀{p:Pc} {b:Bool} {m:Int} {cs cs':List Int} {t t':Str},dM b m p cs t=some (cs',t')->cs.length<=cs'.length+(dE p).length
 | .leaf l,b,m,cs,cs',t,t',h=>by
  rw [dM] at h
  cases e:wr b m (col t) l with
  |none=>rw [e] at h;cases h
  |some w=>rw [e] at h;cases h;omega
 | .group r,b,m,cs,cs',t,t',h=>by
  rw [dM.eq_def] at h
  simp only at h
  have hl:(dE (.group r)).length=(toksR r).length+2:=by simp [dE]
  cases b with
  |false=>
   simp only [Bool.false_eq_true,if_false] at h
   have:=setR_len h
   omega
  | true=>
   cases cs with
   |nil=>simp at h
   | cons c cs=>
    simp only [if_true] at h
    rw [List.length_cons]
    by_cases c0:c=0
    ·simp only [c0,if_true] at h;have:=setR_len h;omega
    ·by_cases c1:c=1
     ·simp only [c1,if_true] at h;have:=setR_len h;omega
     ·simp [c0,c1] at h
 | .hang n r,b,m,cs,cs',t,t',h=>by
  rw [dM] at h
  have hl:(dE (.hang n r)).length=(toksR r).length+2:=by simp [dE]
  have:=setR_len h
  omega
 | .either rs,b,m,cs,cs',t,t',h=>by
  rw [dM.eq_def] at h
  have hl:(dE (.either rs)).length=(toksRows rs).length+2:=by simp [dE]
  cases cs with
  |nil=>cases h
  |cons c cs=>
   simp only at h
   rw [List.length_cons]
   by_cases c0:0<=c
   ·simp only [c0,if_true] at h;have:=setAt_len h;omega
   ·simp [c0] at h
theorem setR_len:∀{r:List Pc} {b:Bool} {m:Int} {cs cs':List Int} {t t':Str},setR b m r cs t=some (cs',t')->cs.length<=cs'.length+(toksR r).length
 |[],b,m,cs,cs',t,t',h=>by rw [setR] at h;cases h;omega
 | p::r,b,m,cs,cs',t,t',h=>by
  rw [setR] at h
  cases e:dM b m p cs t with
  |none=>rw [e] at h;cases h
  |some s=>
   obtain⟨c1,t1⟩:=s
   rw [e] at h
   have h1:=zv8 e
   have h2:=setR_len (cs:=c1) (t:=t1) h
   rw [toksR,List.length_append]
   omega
theorem setAt_len:∀{rs:List (List Pc)} {i:Nat} {b:Bool} {m:Int} {cs cs':List Int} {t t':Str},setAt b m rs i cs t=some (cs',t')->cs.length<=cs'.length+(toksRows rs).length
 |[],i,b,m,cs,cs',t,t',h=>by rw [setAt] at h;cases h
 |r::rs,0,b,m,cs,cs',t,t',h=>by
  rw [setAt] at h
  have:=setR_len h
  rw [toksRows,List.length_append]
  omega
 | r::rs,i+1,b,m,cs,cs',t,t',h=>by
  rw [setAt] at h
  have h1:=setAt_len h
  rw [toksRows,List.length_append]
  cases rs with
  |nil=>rw [setAt] at h;cases h
  |cons q qs=>
   rw [toksRows,List.length_append] at h1
   rw [toksMore,List.length_cons,List.length_append]
   omega
end
def Few(N:Nat)(R:List Int->Str->Prop):Prop:=∀c t,R c t->c.length<=N
theorem xb8{N:Nat}{R:List Int->Str->Prop}{b:Bool}{m:Int}{p:Pc}(h:Few N R):Few (N+(dE p).length) (Aft R (dM b m p)):=by
 rintro c t ⟨c0,t0,c1,r,rfl,e⟩
 have h1:=h c0 t0 r
 have h2:=zv8 e
 rw [List.length_nil] at h2
 rw [List.length_append];omega
theorem yt9{N:Nat}{R:List Int->Str->Prop}{n:Int}(h:Few N R):Few (N+1) (xi4 R n):=by
 rintro c t ⟨c0,r,rfl⟩
 have:=h c0 t r
 rw [List.length_append]
 show c0.length+1<=_
 omega
theorem zv9:∀{n:Nat} {l:List Nat},l.Nodup->(∀x∈l,x<n)->l.length<=n
 |0,l,_,h=>by
  cases l with
  |nil=>exact Nat.le_refl _
  |cons a l=>exact absurd (h a List.mem_cons_self) (Nat.not_lt_zero _)
 | n+1,l,nd,h=>by
  have h2:=zv9 (n:=n) (nd.erase n) fun x hx=>by
   have h3:=h x (List.mem_of_mem_erase hx)
   have h4:x≠n:=fun z=>by
    rw [z] at hx
    exact absurd hx nd.not_mem_erase
   omega
  by_cases hm:n∈l
  ·rw [List.length_erase_of_mem hm] at h2;omega
  ·rw [List.erase_of_not_mem hm] at h2;omega
theorem Good.key{W:Int}{R:List Int->Str->Prop}{F:Frt}(h:Good W R F)(hW:W<=40){q:Nat×Way}(hq:q∈F):q.1<=40:=by
 obtain⟨t,_,xs,y,_,h2,h3,_⟩:=h.hit q hq
 have:=h2 y (by simp)
 omega
theorem Good.len{W:Int}{R:List Int->Str->Prop}{F:Frt}(h:Good W R F)(hW:W<=40):F.length<=41:=by
 have:=zv9 (n:=41) h.nd fun x hx=>by
  obtain⟨q,hq,rfl⟩:=List.mem_map.mp hx
  have:=h.key hW hq
  omega
 rwa [List.length_map] at this
theorem Good.few{W:Int}{R:List Int->Str->Prop}{F:Frt}{N:Nat}(h:Good W R F)(hN:Few N R){q:Nat×Way}(hq:q∈F):q.2.2.length<=N:=by
 obtain⟨t,r,_⟩:=h.hit q hq
 exact hN _ _ r
theorem yu0(W:Int)(F:Frt):yl5 (aI true W F)=some (aI false W F):=by
 have h:=rS F
 unfold aI yl5
 exact if_pos ⟨rfl,h⟩
theorem zd6{f:tz2}{p:PSt}{W:Int}{F:Frt}(h:f p=some (aI true W F)):lP f p=some (aI false W F):=by
 unfold lP
 rw [h,Option.bind_some,yu0]
abbrev pZ(GR:tz6):tz6:=gP 3 4 (pM kS zq4 xV zf6 yl7 GR)
def zq7(GR:tz6):tz1:=aU (aT 6 (aH (aQ (aA 0))))
 (aU (fIf (aW (fT (aJ xV (aB (aA 1) (aB (aA 2) aE))))) (aT 6 (aH (lP (aJ zf6 (aB (aA 0) (aB (aA 4) aE)))))) bO)
 (cM (dI 3 bU (cK [.im (aJ GR (aB (aA 6) (aB (f2 dIx (aA 5) (fC (.int 0))) (aB (f2 dIx (aA 5) (fC (.int 1))) aE))))]) (iK "Front" "add_all" yl7))))
theorem yu1{GR:tz6}{W:Int}{F A Z:Frt}{p:Pc}{b:Bool}{m:Int}{n:Nat}{x:List Pc×Bool×Int}{y:Option D}(hp:pY p=true)(nd:(F.map (·.1)).Nodup)(hF:F.length<=41)(hc:∀q∈F,q.2.2.length<=900)
  (hG:GR [aI false W (if dP b p=true then lT F n else F),.tup (pcsD x.1),aR x.2.1 x.2.2]=some (aI false W Z)) (ndZ:(Z.map (·.1)).Nodup) (hZ:A.length+Z.length<=800):
  ∃z,zq7 GR [some (aI false W F),some (pcD p),some (aR b m),some (aI true W A),some (.int (n:Int)),some (eR x),y]=some (.nx,[some (aI false W F),some (pcD p),some (aR b m),some (aI true W (lJ A Z)),some (.int (n:Int)),some (eR x),z]):=by
 have t1:aT 6 (aH (aQ (aA 0))) [some (aI false W F),some (pcD p),some (aR b m),some (aI true W A),some (.int (n:Int)),some (eR x),y]=some (.nx,[some (aI false W F),some (pcD p),some (aR b m),some (aI true W A),some (.int (n:Int)),some (eR x),some (aI false W F)]):=bJ (bL rfl (xM W F))
 have q2:=xb0 p b m hp
 have c2:fT (aJ xV (aB (aA 1) (aB (aA 2) aE))) [some (aI false W F),some (pcD p),some (aR b m),some (aI true W A),some (.int (n:Int)),some (eR x),some (aI false W F)]=some (dP b p):=sP (aY (aD rfl (aD rfl rfl)) q2)
 have t2:fIf (aW (fT (aJ xV (aB (aA 1) (aB (aA 2) aE))))) (aT 6 (aH (lP (aJ zf6 (aB (aA 0) (aB (aA 4) aE)))))) bO [some (aI false W F),some (pcD p),some (aR b m),some (aI true W A),some (.int (n:Int)),some (eR x),some (aI false W F)]=some (.nx,[some (aI false W F),some (pcD p),some (aR b m),some (aI true W A),some (.int (n:Int)),some (eR x),some (aI false W (if dP b p=true then lT F n else F))]):=by
  cases tk:dP b p with
  |true=>
   rw [tk] at c2
   exact(bI c2).trans (bJ (zd6 (aY (aD rfl (aD rfl rfl)) (xb6 nd (by omega) hc))))
  |false=>
   rw [tk] at c2
   exact bA c2
 generalize (if dP b p=true then lT F n else F)=F' at hG t2
 have x0:f2 dIx (aA 5) (fC (.int 0)) [some (aI false W F),some (pcD p),some (aR b m),some (aI true W A),some (.int (n:Int)),some (eR x),some (aI false W F')]=some (.tup (pcsD x.1)):=aP rfl rfl (kG _ _)
 have x1:f2 dIx (aA 5) (fC (.int 1)) [some (aI false W F),some (pcD p),some (aR b m),some (aI true W A),some (.int (n:Int)),some (eR x),some (aI false W F')]=some (aR x.2.1 x.2.2):=aP rfl rfl (gQ _ _ _)
 have x2:=aY (h:=GR) (aD (f:=aA 6) (d:=aI false W F') rfl (aD x0 (aD (g:=aE) x1 rfl))) hG
 exact⟨_,(aM t1).trans ((aM t2).trans (kH (ye1 (j:=3) rfl (dD x2 (xM W Z) fO) (yt5 (by simp [cN,fN]) (xv2 ndZ hZ)))))⟩
theorem zn1{GR:tz6}{GA:Bool->Int->List Pc->Frt->Frt}{W:Int}{F:Frt}{p:Pc}{b:Bool}{m:Int}(hp:pY p=true)(nd:(F.map (·.1)).Nodup)(hF:F.length<=41)(hc:∀q∈F,q.2.2.length<=900):∀(xs:List (List Pc×Bool×Int)) (n:Nat) (A:Frt) (y4 y5 y6:Option D),
  (∀(i:Nat) x,xs[i]? =some x->∃Z,Z=GA x.2.1 x.2.2 x.1 (if dP b p=true then lT F (n+i:Nat) else F)/\GR [aI false W (if dP b p=true then lT F (n+i:Nat) else F),.tup (pcsD x.1),aR x.2.1 x.2.2]=some (aI false W Z)/\(Z.map (·.1)).Nodup/\Z.length<=41)->A.length+41*xs.length<=400->
  ∃z4 z5 z6,lG [4,5] (zq7 GR) (lB n (xs.map eR)) [some (aI false W F),some (pcD p),some (aR b m),some (aI true W A),y4,y5,y6]=some (.nx,[some (aI false W F),some (pcD p),some (aR b m),some (aI true W (frW GA (dP b p) F n xs A)),z4,z5,z6])
 |[],n,A,y4,y5,y6,_,_=>⟨y4,y5,y6,rfl⟩
 | x::xs,n,A,y4,y5,y6,hG,hA=>by
  rw [List.length_cons] at hA
  obtain⟨Z,e1,e2,e3,e4⟩:=hG 0 x rfl
  rw [Nat.add_zero] at e1 e2
  obtain⟨z,t⟩:=yu1 (m:=m) (A:=A) (y:=y6) hp nd hF hc e2 e3 (by omega)
  have hl:=zd5 Z A
  obtain⟨z4,z5,z6,ih⟩:=zn1 (m:=m) hp nd hF hc xs (n+1) (lJ A Z) (some (.int (n:Int))) (some (eR x)) z (fun i y hy=>by
   have:=hG (i+1) y (by simpa using hy)
   rwa [show n+(i+1)=n+1+i by omega] at this) (by omega)
  refine⟨z4,z5,z6,?_⟩
  rw [List.map_cons,lB,lG]
  show(some [D.int (n:Int),eR x]).bind _=_
  rw [Option.bind_some,if_pos (show [D.int (n:Int),eR x].length=[4,5].length from rfl)]
  show(zq7 GR [some (aI false W F),some (pcD p),some (aR b m),some (aI true W A),some (.int (n:Int)),some (eR x),y6]).bind _=_
  rw [frW,<-e1]
  rw [t,Option.bind_some]
  exact ih
theorem xb9{GR:tz6}{GA:Bool->Int->List Pc->Frt->Frt}{W:Int}{F:Frt}{p:Pc}{b:Bool}{m:Int}(hp:pY p=true)(ho:okP p)(nd:(F.map (·.1)).Nodup)(hF:F.length<=41)(hc:∀q∈F,q.2.2.length<=900)
  (hG:∀(i:Nat) x,(dA b m p)[i]? =some x->∃Z,Z=GA x.2.1 x.2.2 x.1 (if dP b p=true then lT F i else F)/\GR [aI false W (if dP b p=true then lT F i else F),.tup (pcsD x.1),aR x.2.1 x.2.2]=some (aI false W Z)/\(Z.map (·.1)).Nodup/\Z.length<=41):
  pZ GR [aI false W F,pcD p,aR b m]=some (aI true W (frW GA (dP b p) F 0 (dA b m p) [])):=by
 have h4:(dA b m p).length<=4:=by
  cases p with
  |leaf l=>simp [dA]
  |group r=>cases b<;>simp [dA]
  |hang k r=>simp [dA]
  |either rs=>have:=ho.1.2;simpa [dA] using this
 have hn:xi3 p<=1000:=by
  cases p with
  |either rs=>have:=ho.1.2;show rs.length<=1000;omega
  |_=>exact Nat.zero_le _
 have q1:=xn3 p b m hp hn
 have him:D.imms ((dA b m p).map eR)=true:=by
  generalize dA b m p=xs
  induction xs with
  |nil=>rfl
  |cons x xs ih=>
   show(D.imm (eR x)&&D.imms (xs.map eR))=true
   rw [zh7,ih];rfl
 have s1:aT 3 (aH (eT "Front" (cK [.im (cU "Front" "steps" (aA 0))]) kS)) [some (aI false W F),some (pcD p),some (aR b m),none,none,none,none]=some (.nx,[some (aI false W F),some (pcD p),some (aR b m),some (aI true W []),none,none,none]):=bJ (vJ (sS (f:=aA 0) (F:=F) rfl))
 obtain⟨z4,z5,z6,e⟩:=zn1 (m:=m) hp nd hF hc (dA b m p) 0 [] none none none (fun i x hx=>by rw [Nat.zero_add];exact hG i x hx) (by show 0+_<=_;omega)
 have s2:zq1 [4,5] (zq2 (aJ zq4 (aB (aA 1) (aB (aA 2) aE)))) (zq7 GR) [some (aI false W F),some (pcD p),some (aR b m),some (aI true W []),none,none,none]=some (.nx,[some (aI false W F),some (pcD p),some (aR b m),some (aI true W (frW GA (dP b p) F 0 (dA b m p) [])),z4,z5,z6]):=by
  unfold zq1 zq2
  rw [aY (h:=zq4) (aD (f:=aA 1) (d:=pcD p) rfl (aD (f:=aA 2) (d:=aR b m) (g:=aE) rfl rfl)) q1,Option.bind_some]
  show((if D.imms ((dA b m p).map eR)=true then some ((dA b m p).map eR) else none).map (lB 0)).bind _=_
  rw [if_pos him]
  exact e
 exact lM rfl (cV s1 (cV s2 ⟨_,rfl⟩))
def wC:Nat->tz6
 |0=>fun _=>none
 |n+1=>gP 3 2 (nL xU (pZ (wC n)) yV)
def xW(GH:tz6):tz1:=fIf (aW (fT (aJ xU (aB (aA 4) aE))))
 (aT 3 (aH (lP (aJ GH (aB (aA 3) (aB (aA 4) (aB (aA 2) aE)))))))
 (aT 3 (aH (lP (aJ yV (aB (aA 3) (aB (aA 4) (aB (aA 2) aE)))))))
def xf6(W:Int)(GR:tz6)(GA:Bool->Int->List Pc->Frt->Frt)(r:List Pc):Prop:=∀(b:Bool) (m:Int) (R:List Int->Str->Prop) (F:Frt) (N:Nat),0<=m->m+12*depR r<=200->Good W R F->Few N R->N+(toksR r).length<=900->
 GR [aI false W F,.tup (pcsD r),aR b m]=some (aI false W (GA b m r F))
theorem yj7{b:Bool}{m:Int}{p:Pc}{x:List Pc×Bool×Int}(hx:x∈dA b m p):(toksR x.1).length+1<=(dE p).length:=by
 cases p with
 |leaf l=>simp [dA] at hx
 | group r=>
  have:x.1=r:=by
   cases b<;>simp [dA] at hx
   ·subst hx;rfl
   ·rcases hx with e|e<;>subst e<;>rfl
  rw [this];simp [dE]
 |hang n r=>
  simp [dA] at hx
  subst hx;simp [dE]
 |either rs=>
  obtain⟨r,hm,rfl⟩:=List.mem_map.mp (show x∈rs.map fun r=>(r,b,m) from hx)
  have:=zG hm
  simp [dE];omega
theorem xo0{W:Int}{GR:tz6}{GA:Bool->Int->List Pc->Frt->Frt}{k:Nat}(hW0:0<=W)(hW1:W<=40)(hG:∀r,depR r<k->okR r->rB W GA r)(hD:∀r,depR r<k->okR r->xf6 W GR GA r)
  {b:Bool} {m:Int} {R:List Int->Str->Prop} {F:Frt} {N:Nat} {p:Pc} {Y0 Y1:Option D} (hk:eD p<=k) (ho:okP p) (h0:0<=m) (h1:m+12*eD p<=200) (hF:Good W R F) (hN:Few N R) (hT:N+(dE p).length<=900):
  xW (pZ GR) [Y0,Y1,some (aR b m),some (aI false W F),some (pcD p)]=some (.nx,[Y0,Y1,some (aR b m),some (aI false W (frP W GA b m F p)),some (pcD p)]):=by
 have c1:fT (aJ xU (aB (aA 4) aE)) [Y0,Y1,some (aR b m),some (aI false W F),some (pcD p)]=some (pY p):=sP (aY (aD rfl rfl) (xa9 p))
 have hl:=hF.len hW1
 have hc:∀q∈F,q.2.2.length<=900:=fun q hq=>by have:=hF.few hN hq;omega
 have hold:pY p=true->xW (pZ GR) [Y0,Y1,some (aR b m),some (aI false W F),some (pcD p)]=some (.nx,[Y0,Y1,some (aR b m),some (aI false W (frW GA (dP b p) F 0 (dA b m p) [])),some (pcD p)]):=fun hp=>by
  rw [hp] at c1
  refine(bI c1).trans (bJ (zd6 (aY (aD rfl (aD rfl (aD rfl rfl))) (xb9 (GA:=GA) hp ho hF.nd hl hc fun i x hx=> ?_))))
  have hm:=List.mem_of_getElem? hx
  obtain⟨a1,a2,a3,a4⟩:=zv4 ho h0 h1 hk hm
  have ht:=yj7 hm
  have gg:∀(R':List Int->Str->Prop) (F':Frt),Good W R' F'->Few (N+1) R'->∃Z,Z=GA x.2.1 x.2.2 x.1 F'/\GR [aI false W F',.tup (pcsD x.1),aR x.2.1 x.2.2]=some (aI false W Z)/\(Z.map (·.1)).Nodup/\Z.length<=41:=fun R' F' hR hf=>by
   have g:=hG x.1 a3 a4 x.2.1 x.2.2 R' F' a1 a2 hR
   exact⟨_,rfl,hD x.1 a3 a4 x.2.1 x.2.2 R' F' (N+1) a1 a2 hR hf (by omega),g.nd,g.len hW1⟩
  by_cases tk:dP b p=true
  ·rw [if_pos tk]
   exact gg _ _ (zd0 hF i) (yt9 hN)
  ·rw [if_neg tk]
   exact gg _ _ hF fun c t h=>Nat.le_succ_of_le (hN c t h)
 cases p with
 |leaf l=>
  have hm:m<=200:=by rw [eD] at h1;omega
  exact(fU (dF c1)).trans (bJ (zd6 (aY (aD rfl (aD rfl (aD rfl rfl))) (yt8 hW0 hW1 ho h0 hm hF.nd (by omega) fun q hq=>by have:=hF.key hW1 hq;omega))))
 |group r=>exact hold rfl
 |hang n r=>exact hold rfl
 |either rs=>exact hold rfl
theorem yu2{W:Int}{GR:tz6}{GA:Bool->Int->List Pc->Frt->Frt}{k:Nat}(hW0:0<=W)(hW1:W<=40)(hG:∀r,depR r<k->okR r->rB W GA r)(hD:∀r,depR r<k->okR r->xf6 W GR GA r){b:Bool}{m:Int}{Y0 Y1:Option D}(h0:0<=m):∀(r:List Pc) (R:List Int->Str->Prop) (F:Frt) (N:Nat) (y:Option D),depR r<=k->okR r->m+12*depR r<=200->Good W R F->Few N R->N+(toksR r).length<=900->
  ∃z,cX 4 (xW (pZ GR)) (pcsD r) [Y0,Y1,some (aR b m),some (aI false W F),y]=some (.nx,[Y0,Y1,some (aR b m),some (aI false W (r.foldl (fun F p=>frP W GA b m F p) F)),z])
 |[],R,F,N,y,_,_,_,_,_,_=>⟨y,rfl⟩
 |p::r,R,F,N,y,hk,ho,h1,hF,hN,hT=>by
  rw [depR] at hk h1
  rw [toksR,List.length_append] at hT
  have q1:=xo0 hW0 hW1 hG hD (b:=b) (Y0:=Y0) (Y1:=Y1) (show eD p<=k by omega) ho.1 h0 (by omega) hF hN (by omega)
  obtain⟨z,e⟩:=yu2 hW0 hW1 hG hD h0 r _ _ _ (some (pcD p)) (by omega) ho.2 (by omega) (zd2 hG (b:=b) (show eD p<=k by omega) ho.1 h0 (by omega) hF) (xb8 hN) (by omega)
  refine⟨z,?_⟩
  show cX 4 _ (pcD p::pcsD r) _=_
  rw [cX]
  show((xW (pZ GR) [Y0,Y1,some (aR b m),some (aI false W F),some (pcD p)]).bind _)=_
  rw [q1];exact e
theorem ye4{W:Int}(hW0:0<=W)(hW1:W<=40):∀(n:Nat) (r:List Pc),depR r<n->okR r->xf6 W (wC n) (frN W n) r
 |0,_,h,_=>absurd h (Nat.not_lt_zero _)
 |n+1,r,hd,ho=>fun b m R F N h0 h1 hF hN hT=>by
  obtain⟨z,e⟩:=yu2 (GR:=wC n) (GA:=frN W n) (k:=n) (Y0:=some (aI false W F)) (Y1:=some (.tup (pcsD r))) hW0 hW1 (fun q h2 h3=>za0 n q h2 h3) (fun q h2 h3=>ye4 hW0 hW1 n q h2 h3) h0 r R F N none (by omega) ho h1 hF hN hT
  have s1:aT 3 (aH (aQ (aA 0))) [some (aI false W F),some (.tup (pcsD r)),some (aR b m),none,none]=some (.nx,[some (aI false W F),some (.tup (pcsD r)),some (aR b m),some (aI false W F),none]):=bJ (bL rfl (xM W F))
  have s2:fJ 4 (eL (aA 1)) (xW (pZ (wC n))) [some (aI false W F),some (.tup (pcsD r)),some (aR b m),some (aI false W F),none]=some (.nx,[some (aI false W F),some (.tup (pcsD r)),some (aR b m),some (aI false W (frN W (n+1) b m r F)),z]):=uO rfl e
  show gP 3 2 (nL xU (pZ (wC n)) yV) _=_
  exact lM rfl (cV s1 (cV s2 ⟨_,rfl⟩))
abbrev xX:tz7:=gE 2 0 (bQ [true,false]) jU
theorem xv4(W:Int):xX [.obj true "WithinWidth" [] [],.int W]=some (.non,[.obj true "WithinWidth" ["width"] [.int W],.int W]):=by
 simp [gE,jU,mP,uU,cN,aQ,aA,bU,eP,za4,bQ,D.imm]
theorem yu3{p:PSt}{f:tz2}{W:Int}(h:f p=some (.int W)):lE (eT "WithinWidth" (cK [.im f]) xX) p=some (bW W):=by
 have i:=xv4 W
 unfold lE
 have e:eT "WithinWidth" (cK [.im f]) xX p=some (.obj true "WithinWidth" ["width"] [.int W]):=by
  unfold eT
  rw [dD h rfl fO,Option.bind_some,i];rfl
 rw [e];rfl
abbrev sH:tz6:=gP 1 0 wP
abbrev zq8:tz6:=gP 2 0 (sZ sH)
abbrev zz2:tz6:=gP 2 2 (vY zq8 sH)
theorem yu4:sH [.str ""]=some (.lst true [.str ""]):=by kernel_rfl
theorem wa9{W:Int}(hW:0<=W):zq8 [.str "",.int W]=some (.bl true):=by
 have q:=yu4
 have e:("":Str).length=0:=by decide+kernel
 show gP 2 0 (sZ sH) _=_
 generalize sH=G at q|-
 have z:(0:Nat)<=sizeLine:=Nat.zero_le _
 have z1:1<=sizeLine:=sz (by decide)
 simp! [sZ,gR,q,fA,qE,gI,yk8,D.bools,e,hW,z,z1]
theorem xv5{W:Int}(hW:0<=W):zz2 [.str "",.int W]=some (.tup [.int 1,.int 0]):=by
 have q:=yu4
 have f:=wa9 hW
 show gP 2 2 (vY zq8 sH) _=_
 generalize zq8=G1 at f|-
 generalize sH=G2 at q|-
 have s1:fIf (aW (iS (fT (aJ G1 (aB (aA 0) (aB (aA 1) aE)))))) (cA (aH (fC .non))) bO [some (.str ""),some (.int W),none,none]=some (.nx,[some (.str ""),some (.int W),none,none]):=bA (mL (sP (aY (aD rfl (aD rfl rfl)) f)))
 have s2:aT 2 (aH (aJ G2 (aB (aA 0) aE))) [some (.str ""),some (.int W),none,none]=some (.nx,[some (.str ""),some (.int W),some (.lst true [.str ""]),none]):=bJ (aY (aD rfl rfl) q)
 have e3:fSl (aA 2) iG (lN (fH (fC (.int 1)))) [some (.str ""),some (.int W),some (.lst true [.str ""]),none]=some (.lst true []):=by rfl
 have s3:aT 3 (aH (aJ yk9 (aB (gR [none,some 1] (eL (fSl (aA 2) iG (lN (fH (fC (.int 1)))))) gI (f2 gA (f2 iY (aA 1) (aJ cZ (aB (aA 0) aE))) (f2 iY (aA 1) (aJ cZ (aB (aA 0) aE))))) aE))) [some (.str ""),some (.int W),some (.lst true [.str ""]),none]=some (.nx,[some (.str ""),some (.int W),some (.lst true [.str ""]),some (.int 0)]):=by
  refine bJ (aY (aD (d:= .lst true []) ?_ rfl) rfl)
  unfold gR eL
  rw [e3]
  rfl
 refine lM rfl (cV s1 (cV s2 (cV s3 ⟨_,cD (dW (aD (d:= .int 1) ?_ (aD (bL rfl rfl) rfl)) rfl (by simp))⟩)))
 exact aY (aD (g:=aE) rfl rfl) rfl
abbrev zz3:tz6:=gP 1 2 (sB kS xX zz2 lU)
theorem xc0{W:Int}(hW:0<=W):zz3 [.int W]=some (aI true W [(0,((1,0),[]))]):=by
 have p0:=xv5 hW
 have s1:aT 1 (aH (eT "Front" (cK [.im (lE (eT "WithinWidth" (cK [.im (aA 0)]) xX))]) kS)) [some (.int W),none,none]=some (.nx,[some (.int W),some (aI true W []),none]):=bJ (vJ (yu3 rfl))
 have s2:aT 2 (aH (aJ zz2 (aB (fC (.str "")) (aB (aA 0) aE)))) [some (.int W),some (aI true W []),none]=some (.nx,[some (.int W),some (aI true W []),some (.tup [.int 1,.int 0])]):=bJ (aY (aD rfl (aD rfl rfl)) p0)
 have s3:fIf (aW (fB (f2 xQ (aA 2) (fC .non)))) (cM (dI 1 bU (cK [.im (fC (.int 0)),.im (bN (aB (aQ (aA 2)) (aB (bN aE) aE)))]) (iK "Front" "add" lU))) bO [some (.int W),some (aI true W []),some (.tup [.int 1,.int 0])]=some (.nx,[some (.int W),some (aI true W [(0,((1,0),[]))]),some (.tup [.int 1,.int 0])]):=
  (bI (dQ (aP rfl rfl rfl))).trans (yJ (j:=1) (F:=[]) (W:=W) (k:=0) (x:=((1,0),[])) rfl rfl (za2 (x:=((1,0),[])) (bL rfl rfl) (dW rfl rfl (Nat.zero_le _))) (by simp))
 exact lM rfl (cV s1 (cV s2 (cV s3 ⟨_,rfl⟩)))
abbrev zj0(n:Nat):tz6:=gP 2 0 (pN (wC n) yw7)
def eM(W:Int)(n:Nat)(r:List Pc):Frt:=frN W n true 0 r [(0,((1,0),[]))]
theorem yj8{W:Int}(hW:0<=W):Good W (fun cs t=>cs=[]/\t=⟨#[]⟩) [(0,((1,0),[]))]:=⟨by simp,fun p hp=>by
 rw [List.mem_singleton.mp hp];exact⟨_,⟨rfl,rfl⟩,zv2 hW⟩⟩
theorem yu5{W:Int}{n:Nat}{r:List Pc}(hW0:0<=W)(hW1:W<=40)(hd:depR r<n)(h8:depR r<=16)(ho:okR r)(hl:(toksR r).length<=800):zj0 n [aI false W [(0,((1,0),[]))],.tup (pcsD r)]=some (aI false W (eM W n r)):=by
 have q:=ye4 hW0 hW1 n r hd ho true 0 _ _ 0 (Int.le_refl _) (by omega) (yj8 hW0) (fun c t h=>by rw [h.1];exact Nat.le_refl _) (by omega)
 exact lM rfl ⟨_,cD (aY (aD rfl (aD rfl (aD (aY rfl xb1) rfl))) q)⟩
def aV(q:Nat×Way):D:= .tup [.int (q.1:Int),.int q.2.1.1,.int q.2.1.2,.tup (bE q.2.2)]
def lV(F:Frt)(k:Int):Option (Nat×Way):=(eS F k.toNat).map fun x=>(k.toNat,x)
def fD(F:Frt):List Int:=F.map fun q=>(q.1:Int)
def rdL(F:Frt):List (Nat×Way):=(PySem.W.sortI (fD F)).filterMap (lV F)
def zz4:tz2:=f2 bP (f2 bP (bN (aB (aQ (aA 0)) aE)) (f2 dIx (f2 eQ (aA 1) (aA 0)) (fC (.int 0)))) (bN (aB (aQ (f2 dIx (f2 eQ (aA 1) (aA 0)) (fC (.int 1)))) aE))
theorem xv6{F:Frt}{q:Nat×Way}(nd:(F.map (·.1)).Nodup)(hq:q∈F)(hc:q.2.2.length<=900):zz4 [some (.int (q.1:Int)),some (.dic false (cI F) (dX F))]=some (aV q):=by
 have g:f2 eQ (aA 1) (aA 0) [some (.int (q.1:Int)),some (.dic false (cI F) (dX F))]=some (wyD q.2):=aP rfl rfl (by
  show(some (Sum.inl (q.1:Int):Key)).bind _=_
  rw [Option.bind_some,qP,hJ nd hq];rfl)
 have g0:f2 dIx (f2 eQ (aA 1) (aA 0)) (fC (.int 0)) [some (.int (q.1:Int)),some (.dic false (cI F) (dX F))]=some (.tup [.int q.2.1.1,.int q.2.1.2]):=aP g rfl (kG _ _)
 have g1:f2 dIx (f2 eQ (aA 1) (aA 0)) (fC (.int 1)) [some (.int (q.1:Int)),some (.dic false (cI F) (dX F))]=some (.tup (bE q.2.2)):=aP g rfl (gQ _ _ _)
 have z:(3:Nat)<=sizeLine:=sz (by decide)
 have z4:(4:Nat)<=sizeLine:=sz (by decide)
 have im:=fY q.2.2
 have a1:bN (aB (aQ (aA 0)) aE) [some (.int (q.1:Int)),some (.dic false (cI F) (dX F))]=some (.tup [.int (q.1:Int)]):=dW (aD (bL (d:= .int (q.1:Int)) rfl rfl) rfl) rfl (by simp)
 have d1:bP (.tup [.int (q.1:Int)]) (.tup [.int q.2.1.1,.int q.2.1.2])=some (.tup [.int (q.1:Int),.int q.2.1.1,.int q.2.1.2]):=by
  show(if 3<=sizeLine then _ else none)=_
  rw [if_pos z];rfl
 have d2:bP (.tup [.int (q.1:Int),.int q.2.1.1,.int q.2.1.2]) (.tup [.tup (bE q.2.2)])=some (aV q):=by
  show(if 4<=sizeLine then _ else none)=_
  rw [if_pos z4];rfl
 have a2:bN (aB (aQ (f2 dIx (f2 eQ (aA 1) (aA 0)) (fC (.int 1)))) aE) [some (.int (q.1:Int)),some (.dic false (cI F) (dX F))]=some (.tup [.tup (bE q.2.2)]):=dW (aD (bL g1 im) rfl) (by simp [D.imms,D.imm,im]) (by simp)
 exact aP (aP a1 g0 d1) a2 d2
theorem zn2{F:Frt}(nd:(F.map (·.1)).Nodup)(hc:∀q∈F,q.2.2.length<=900)(x:Option D):∀ks:List Int,(∀k∈ks,∃q∈F,k=(q.1:Int))->fA [x,some (.dic false (cI F) (dX F))] gI zz4 (ks.map .int)=some ((ks.filterMap (lV F)).map aV)
 |[],_=>rfl
 |k::ks,h=>by
  obtain⟨q,hq,rfl⟩:=h k List.mem_cons_self
  have ih:=zn2 nd hc x ks fun j hj=>h j (List.mem_cons_of_mem _ hj)
  have e:=xv6 nd hq (hc q hq)
  have p:lV F (q.1:Int)=some q:=by unfold lV;rw [Int.toNat_natCast,hJ nd hq];rfl
  rw [List.map_cons,fA,List.filterMap_cons_some p,List.map_cons]
  show(some true).bind (fun b=>if b=true then(zz4 [some (.int (q.1:Int)),some (.dic false (cI F) (dX F))]).bind _ else _)=_
  rw [Option.bind_some,if_pos rfl,e,Option.bind_some,ih];rfl
theorem tW:∀F:Frt,vW (cI F)=some (fD F)
 |[]=>rfl
 |q::F=>by
  show(vW (cI F)).map ((q.1:Int)::·)=_
  rw [tW F];rfl
abbrev uW(n:Nat):tz6:=gP 2 1 (zf2 (zj0 n) zz3)
theorem zw0{W:Int}{n:Nat}{r:List Pc}(hW0:0<=W)(hW1:W<=40)(hd:depR r<n)(h8:depR r<=16)(ho:okR r)(hl:(toksR r).length<=800):uW n [.tup (pcsD r),.int W]=some (.lst true ((rdL (eM W n r)).map aV)):=by
 have g:Good W (fun cs t=>setR true 0 r cs ⟨#[]⟩=some ([],t)) (eM W n r):=zd3 (n:=n) hW0 hd ho (by omega)
 have hlen:=g.len hW1
 have hfew:∀q∈eM W n r,q.2.2.length<=900:=fun q hq=>by
  obtain⟨t,e,_⟩:=g.hit q hq
  have:=setR_len e
  rw [List.length_nil] at this
  omega
 have q:=yu5 hW0 hW1 hd h8 ho hl
 have s1:aT 2 (aH (aQ (cU "Front" "best" (aJ (zj0 n) (aB (lP (aJ zz3 (aB (aA 1) aE))) (aB (aA 0) aE)))))) [some (.tup (pcsD r)),some (.int W),none]=some (.nx,[some (.tup (pcsD r)),some (.int W),some (.dic false (cI (eM W n r)) (dX (eM W n r)))]):=
  bJ (bL (za1 (aY (aD (zd6 (aY (aD rfl rfl) (xc0 hW0))) (aD rfl rfl)) q)) (ye0 _))
 have nl:(fD (eM W n r)).length<=41:=by unfold fD;rw [List.length_map];exact hlen
 have e1:aJ pH (aB (aA 2) aE) [some (.tup (pcsD r)),some (.int W),some (.dic false (cI (eM W n r)) (dX (eM W n r)))]=some (.lst true ((PySem.W.sortI (fD (eM W n r))).map .int)):=by
  refine aY (aD rfl rfl) ?_
  show(vW (cI (eM W n r))).bind _=_
  rw [tW,Option.bind_some,if_pos (by omega)]
 have c:=zn2 g.nd hfew none (PySem.W.sortI (fD (eM W n r))) fun k hk=>by
  have hk':=(PySem.W.sortI_perm _).mem_iff.mp hk
  obtain⟨q,hq,e⟩:=List.mem_map.mp hk'
  exact⟨q,hq,e.symm⟩
 have im:∀ks:List Int,D.imms (ks.map .int)=true:=fun ks=>fY ks
 have sl:((PySem.W.sortI (fD (eM W n r))).map D.int).length<=sizeLine:=by
  rw [List.length_map,(PySem.W.sortI_perm _).length_eq];exact sz (by omega)
 have e2:gR [none,some 2] (eL (aJ pH (aB (aA 2) aE))) gI zz4 [some (.tup (pcsD r)),some (.int W),some (.dic false (cI (eM W n r)) (dX (eM W n r)))]=some (.lst true ((rdL (eM W n r)).map aV)):=by
  unfold gR eL
  rw [e1,Option.bind_some]
  show((if D.imms ((PySem.W.sortI (fD (eM W n r))).map D.int)=true then some ((PySem.W.sortI (fD (eM W n r))).map D.int) else none).bind _)=_
  rw [if_pos (im _),Option.bind_some,if_pos sl]
  show(fA [none,some (.dic false (cI (eM W n r)) (dX (eM W n r)))] gI zz4 _).bind _=_
  rw [c];rfl
 exact lM rfl (cV s1 ⟨_,cD e2⟩)
theorem zi0{F:Frt}(nd:(F.map (·.1)).Nodup){q:Nat×Way}:q∈rdL F↔q∈F:=by
 unfold rdL
 rw [List.mem_filterMap]
 constructor
 ·rintro⟨k,hk,e⟩
  have hk':=(PySem.W.sortI_perm _).mem_iff.mp hk
  obtain⟨p,hp,rfl⟩:=List.mem_map.mp hk'
  unfold lV at e
  rw [Int.toNat_natCast,hJ nd hp] at e
  cases e
  exact hp
 ·intro hq
  refine⟨(q.1:Int),(PySem.W.sortI_perm _).mem_iff.mpr (List.mem_map_of_mem (f:=fun q:Nat×Way=>(q.1:Int)) hq),?_⟩
  unfold lV
  rw [Int.toNat_natCast,hJ nd hq];rfl
theorem xc1{F:Frt}(nd:(F.map (·.1)).Nodup):(rdL F).map (fun q=>(q.1:Int))=PySem.W.sortI (fD F):=by
 unfold rdL
 have key:∀ks:List Int,(∀k∈ks,∃q∈F,k=(q.1:Int))->(ks.filterMap (lV F)).map (fun q=>(q.1:Int))=ks:=by
  intro ks
  induction ks with
  |nil=>intro _;rfl
  |cons k ks ih=>
   intro h
   obtain⟨q,hq,rfl⟩:=h k List.mem_cons_self
   have p:lV F (q.1:Int)=some q:=by unfold lV;rw [Int.toNat_natCast,hJ nd hq];rfl
   rw [List.filterMap_cons_some p,List.map_cons,ih fun j hj=>h j (List.mem_cons_of_mem _ hj)]
 refine key _ fun k hk=> ?_
 have hk':=(PySem.W.sortI_perm _).mem_iff.mp hk
 obtain⟨q,hq,e⟩:=List.mem_map.mp hk'
 exact⟨q,hq,e.symm⟩
theorem zw1{F:Frt}(nd:(F.map (·.1)).Nodup):((rdL F).map fun q=>(q.1:Int)).Pairwise (·<·):=by
 rw [xc1 nd]
 have h1:=PySem.W.sortI_rises (fD F)
 have h2:(PySem.W.sortI (fD F)).Nodup:=by
  rw [(PySem.W.sortI_perm (fD F)).nodup_iff]
  have e:fD F=(F.map (·.1)).map fun(k:Nat)=>(k:Int):=by unfold fD;rw [List.map_map];rfl
  rw [e]
  exact List.Pairwise.map _ (fun a b hab hh=>hab (by exact Int.ofNat.inj hh)) nd
 refine(h1.and h2).imp fun h=> ?_
 obtain⟨a1,a2⟩:=h
 omega
def sD(t:Str)(cs:List Int)(n:Nat):D:= .lst true [.str t,.lst true (bE cs),.int n]
theorem wb0:ixN 3 0=some 0:=by decide
abbrev qS:tz7:=gE 2 0 (bQ [true,false]) xT
theorem ye5{t:Str}{cs:List Int}{n:Nat}{m:Int}(h0:0<=m)(h1:m<=200)(ht:t.length<=1000000):qS [sD t cs n,.int m]=some (.non,[sD (t++nlw m) cs n,.int m]):=by
 have q:=zp3 m (by omega) (by omega)
 have hs:sizeLine=16777216:=sizeLine_eq
 have e1:bP (.str t) (.str "\n")=some (.str (t++(⟨#[10]⟩:Str))):=by
  rw [zc7,bP,if_pos]
  show t.length+1<=_;omega
 have e2:bP (.str (t++(⟨#[10]⟩:Str))) (.str (Txt.mul " " m))=some (.str (t++nlw m)):=by
  rw [bP,if_pos,xn5];rfl
  rw [dO,iF];show t.length+1+_<=_;omega
 have i0:=wb0
 simp only [gE,xT,sD]
 simp only [List.length_cons,List.length_nil,if_pos,List.map_cons,List.map_nil,List.cons_append,List.nil_append,List.replicate_zero,fL,f2,aA,fC,dIx,kG,Option.bind_some,List.getElem?_cons_zero,List.getElem?_cons_succ,Option.join_some,e1,q,e2]
 simp! [ze7,yj0,xg7,fE2,fTE,xh7,lO,i0]
abbrev zj1:tz6:=gP 1 0 tZ
theorem zn3{t:Str}{cs:List Int}{n:Nat}(ht:t.length<=1000000):zj1 [sD t cs n]=some (.int (col t)):=by
 have hs:sizeLine=16777216:=sizeLine_eq
 have hz:t.length<=sizeLine:=by omega
 have e:=yt1 t
 rw [<-zc7] at e
 simp! [ze7,yj0,xg7,fE2,fTE,xh7,lO,tZ,sD,hz,ze9,e]
theorem xc2(n:Nat):∃s:Int,atI [D.int 1,.int 12,.int 144,.int 1728,.int 20736,.int 248832,.int 2985984,.int 35831808] ((n:Int) % 8)=some (.int s)/\0<s/\s<1073741824:=by
 have h0:=Int.emod_nonneg (n:Int) (show(8:Int)≠0 by decide)
 have h1:=Int.emod_lt_of_pos (n:Int) (show(0:Int)<8 by decide)
 obtain⟨d,hd,e⟩:=qY [D.int 1,.int 12,.int 144,.int 1728,.int 20736,.int 248832,.int 2985984,.int 35831808] ((n:Int) % 8) h0 (by simpa using h1)
 simp only [List.mem_cons,List.not_mem_nil,or_false] at hd
 rcases hd with rfl|rfl|rfl|rfl|rfl|rfl|rfl|rfl<;>exact⟨_,e,by decide,by decide⟩
abbrev wD(GM GC:tz6):tz7:=gE 4 2 (bQ [false,true,false,false]) (tG GM GC)
section
variable{GM GC:tz6}{S:D}
theorem xo1{t:Str}{cs:List Int}{n many:Nat}{salt:Int}(hM:∀j s:Int,0<=j->j<1000->0<=s->s<1000->∃a,GM [S,.int j,.int s]=some (.int a)/\0<=a)(hC:∀j:Int,0<=j->j<1000->∃a,GC [S,.int j]=some (.int a))(hn:n<=900)(h0:0<=salt)(h1:salt<1000)(hm:0<many)(hl:cs.length<=900):
  ∃d:Int,wD GM GC [S,sD t cs n,.int salt,.int many]=some (.int d,[S,sD t (cs++[d]) (n+1),.int salt,.int many])/\0<=d/\d<many:=by
 obtain⟨a,qa,ha⟩:=hM ((n:Int)+40) salt (by omega) (by omega) h0 h1
 obtain⟨b,qb⟩:=hC (40+(n:Int)/8) (by omega) (by omega)
 obtain⟨s,qs,s0,s1⟩:=xc2 n
 have hm':(0:Int)<(many:Int):=by omega
 have hz:(bE cs).length<sizeLine:=by rw [pE];exact sz1 (by omega)
 have r:=fun x:Int=>And.intro (Int.emod_nonneg x (show(many:Int)≠0 by omega)) (Int.emod_lt_of_pos x hm')
 have i1:∀d:Int,bE [d]=[.int d]:=fun _=>rfl
 have v2:∀x4 x5,f2 dIx (aA 1) (fC (.int 2)) [some S,some (sD t cs n),some (.int salt),some (.int many),x4,x5]=some (.int n):=fun _ _=>aP rfl rfl (zu6 _ _ _ _)
 have s1':aT 4 (aH (aJ GM (aB (aA 0) (aB (f2 bP (f2 dIx (aA 1) (fC (.int 2))) (fC (.int 40))) (aB (aA 2) aE))))) [some S,some (sD t cs n),some (.int salt),some (.int many),none,none]=some (.nx,[some S,some (sD t cs n),some (.int salt),some (.int many),some (.int a),none]):=bJ (aY (aD rfl (aD (aP (v2 _ _) rfl rfl) (aD rfl rfl))) qa)
 have fin:∀(x:Int) (x5:Option D),∃q,aU (fL 1 bU (fC (.int 2)) (f2 bP (f2 dIx (aA 1) (fC (.int 2))) (fC (.int 1)))) (aU (cM (dI 1 (eU 1 bU (fC (.int 1))) (aB (f2 dG (aA 4) (aA 3)) aE) cW)) (cA (aH (f2 dG (aA 4) (aA 3))))) [some S,some (sD t cs n),some (.int salt),some (.int many),some (.int x),x5]=some (.ret (.int (x % many)),[some S,some (sD t (cs++[x % many]) (n+1)),some (.int salt),some (.int many),some (.int x),x5])/\q=x5:=fun x x5=>by
  have md:∀s,f2 dG (aA 4) (aA 3) [some S,s,some (.int salt),some (.int many),some (.int x),x5]=some (.int (x % many)):=fun s=>aP rfl rfl ((gU _ _).trans (if_pos hm'))
  have a1:fL 1 bU (fC (.int 2)) (f2 bP (f2 dIx (aA 1) (fC (.int 2))) (fC (.int 1))) [some S,some (sD t cs n),some (.int salt),some (.int many),some (.int x),x5]=some (.nx,[some S,some (sD t cs (n+1)),some (.int salt),some (.int many),some (.int x),x5]):=by
   unfold fL
   rw [aP (v2 _ _) rfl rfl]
   rfl
  have a2:cM (dI 1 (eU 1 bU (fC (.int 1))) (aB (f2 dG (aA 4) (aA 3)) aE) cW) [some S,some (sD t cs (n+1)),some (.int salt),some (.int many),some (.int x),x5]=some (.nx,[some S,some (sD t (cs++[x % many]) (n+1)),some (.int salt),some (.int many),some (.int x),x5]):=by
   refine kH (d:= .non) ?_
   unfold dI
   rw [aD (md _) rfl]
   show((eP (cW [.int (x % many)]) (sD t cs (n+1)) [.ix 1]).bind _)=_
   have e:eP (cW [.int (x % many)]) (sD t cs (n+1)) [.ix 1]=some (.non,sD t (cs++[x % many]) (n+1)):=by
    show((cW [.int (x % many)] (.lst true (bE cs))).bind _)=_
    rw [show cW [.int (x % many)] (.lst true (bE cs))=some (.non,.lst true (bE cs++[.int (x % many)])) from if_pos hz]
    unfold sD
    rw [xK,i1];rfl
   rw [e];rfl
  exact⟨_,(aM a1).trans ((aM a2).trans (cD (md _))),rfl⟩
 have out:∀(d:Int) (p4 p5:Option D),tG GM GC [some S,some (sD t cs n),some (.int salt),some (.int many),none,none]=some (.ret (.int d),[some S,some (sD t (cs++[d]) (n+1)),some (.int salt),some (.int many),p4,p5])->wD GM GC [S,sD t cs n,.int salt,.int many]=some (.int d,[S,sD t (cs++[d]) (n+1),.int salt,.int many]):=fun d p4 p5 h=>by
  unfold wD gE
  refine(if_pos rfl).trans ?_
  show(tG GM GC [some S,some (sD t cs n),some (.int salt),some (.int many),none,none]).bind _=_
  rw [h];rfl
 have t1:fB (f2 dEq (aA 2) (fC (.int 1))) [some S,some (sD t cs n),some (.int salt),some (.int many),some (.int a),none]=some (decide (salt=1)):=dQ (aP rfl rfl rfl)
 by_cases c:salt=1
 ·refine⟨(b/s) % many,out _ (some (.int (b/s))) (some (.int s)) ?_,(r _).1,(r _).2⟩
  rw [decide_eq_true c] at t1
  have s2:aT 5 (aH (f2 dIx (cT (fKs [.int 1,.int 12,.int 144,.int 1728,.int 20736,.int 248832,.int 2985984,.int 35831808])) (f2 dG (f2 dIx (aA 1) (fC (.int 2))) (fC (.int 8))))) [some S,some (sD t cs n),some (.int salt),some (.int many),some (.int a),none]=some (.nx,[some S,some (sD t cs n),some (.int salt),some (.int many),some (.int a),some (.int s)]):=bJ (aP (fG rfl (Nat.le_of_ble_eq_true rfl)) (aP (v2 _ _) rfl ((gU _ _).trans (if_pos (by decide)))) qs)
  have s3:aT 4 (aH (f2 fP (aJ GC (aB (aA 0) (aB (f2 bP (fC (.int 40)) (f2 fP (f2 dIx (aA 1) (fC (.int 2))) (fC (.int 8)))) aE))) (aA 5))) [some S,some (sD t cs n),some (.int salt),some (.int many),some (.int a),some (.int s)]=some (.nx,[some S,some (sD t cs n),some (.int salt),some (.int many),some (.int (b/s)),some (.int s)]):=bJ (aP (aY (aD rfl (aD (aP rfl (aP (v2 _ _) rfl ((mJ _ _).trans (if_pos (by decide)))) rfl) rfl)) qb) rfl ((mJ _ _).trans (if_pos ⟨s0,s1⟩)))
  obtain⟨_,f,_⟩:=fin (b/s) (some (.int s))
  exact(aM s1').trans ((aM ((bI t1).trans ((aM s2).trans s3))).trans f)
 ·refine⟨a % many,out _ (some (.int a)) none ?_,(r _).1,(r _).2⟩
  rw [decide_eq_false c] at t1
  obtain⟨_,f,_⟩:=fin a none
  exact(aM s1').trans ((aM (bA t1)).trans f)
end
theorem xc3{f:tz8}{p p':PSt}{d:D}(h:f p=some (d,p')):cA f p=some (.ret d,p'):=by unfold cA;rw [h];rfl
theorem zw2{i:Nat}{f:tz8}{p p':PSt}{d:D}(h:f p=some (d,p')):aT i f p=some (.nx,p'.set i (some d)):=by unfold aT;rw [h];rfl
theorem yu6{i:Nat}{fe:tz2}{y a:D}{l:List D}{p:PSt}(h:fe p=some y)(hp:p[i]? =some (some (.lst true (a::l)))):fL i bU (fC (.int 0)) fe p=some (.nx,p.set i (some (.lst true (y::l)))):=by
 have e:ixN (l.length+1) 0=some 0:=xu5 _
 simp [fL,h,hp,bU,fC,eP,rX,e]
abbrev tM:tz7:=gE 3 0 (bQ [true,false,false]) (tI zj1 qS)
abbrev qA:tz7:=gE 4 0 (bQ [false,false,false,true]) (lR tM qS)
theorem yL{t:Str}{c:Int}(c0:0<=c)(c1:c<=200):(t++nlw c).length<=t.length+201:=by
 unfold nlw
 rw [dO,dO,iF];show _+(1+_)<=_;omega
def zj2(f:Option (D×List D))(g:Str->List D)(flat:Bool)(m:Int)(l:Leaf)(t:Str):Prop:=∃ok t',f=some (.bl ok,g t')/\(ok=true->∃w,wr (!flat) m (col t) l=some w/\t'=t++w)/\(ok=false->wr (!flat) m (col t) l=none/\flat=true)/\t'.length<=t.length+201
theorem xc4{t:Str}{cs:List Int}{n:Nat}{flat:Bool}{m c:Int}(hc:0<=c/\c<=40)(ht:t.length<=900000):zj2 (tM [sD t cs n,.bl flat,.int c]) (fun t'=>[sD t' cs n,.bl flat,.int c]) flat m (.stop c) t:=by
 have hs:sizeLine=16777216:=sizeLine_eq
 have past:fB (f2 dGt (aJ zj1 (aB (aA 0) aE)) (aA 2)) [some (sD t cs n),some (.bl flat),some (.int c)]=some (decide (c<(col t:Int))):=dQ (aP (aY (aD rfl rfl) (zn3 (by omega))) rfl rfl)
 have bl:∀t':Str,t'.length<=1000000->(col t':Int)<=c->fL 0 bU (fC (.int 0)) (f2 bP (f2 dIx (aA 0) (fC (.int 0))) (f2 gA (fC (.str " ")) (f2 iY (aA 2) (aJ zj1 (aB (aA 0) aE))))) [some (sD t' cs n),some (.bl flat),some (.int c)]=some (.nx,[some (sD (t'++Txt.mul " " (c-(col t':Int))) cs n),some (.bl flat),some (.int c)]):=fun t' h hk=>
  yu6 (aP (aP rfl rfl (kG _ _)) (aP rfl (aP rfl (aY (aD rfl rfl) (zn3 h)) rfl) (zp3 _ (by omega) (by omega))) (by rw [bP,if_pos];rw [iF];omega)) rfl
 have out:∀(ok:Bool) (t':Str),tI zj1 qS [some (sD t cs n),some (.bl flat),some (.int c)]=some (.ret (.bl ok),[some (sD t' cs n),some (.bl flat),some (.int c)])->tM [sD t cs n,.bl flat,.int c]=some (.bl ok,[sD t' cs n,.bl flat,.int c]):=fun ok t' h=>by
  unfold tM gE
  refine(if_pos rfl).trans ?_
  show(tI zj1 qS [some (sD t cs n),some (.bl flat),some (.int c)]).bind _=_
  rw [h];rfl
 delta zj2
 by_cases hk:(col t:Int)<=c
 ·rw [decide_eq_false (by omega)] at past
  exact⟨true,t++Txt.mul " " (c-(col t:Int)),out _ _ ((aM (bA past)).trans ((aM (bl t (by omega) hk)).trans rfl)),fun _=>⟨_,if_pos hk,rfl⟩,(nomatch ·),by rw [dO,iF];omega⟩
 ·rw [decide_eq_true (by omega)] at past
  cases flat with
  |true=>exact⟨false,t,out _ _ (dH ((bI past).trans (dH (bI rfl)))),(nomatch ·),fun _=>⟨(if_neg hk).trans rfl,rfl⟩,by omega⟩
  | false=>
   have l0:=yL (t:=t) (c:=0) (by omega) (by omega)
   have c0:col (t++nlw 0)=0:=by
    unfold nlw
    rw [zu9 (zc8 0),iF];rfl
   have q:=bl (t++nlw 0) (by omega) (by rw [c0];exact hc.1)
   have e:t++nlw c=(t++nlw 0)++Txt.mul " " (c-((0:Nat):Int)):=by
    refine rQ ?_
    unfold nlw
    simp only [cC,rR]
    simp
   rw [c0,<-e] at q
   have ln:cM (fIO [.io 0,.im (fC (.int 0))] qS) [some (sD t cs n),some (.bl false),some (.int c)]=some (.nx,[some (sD (t++nlw 0) cs n),some (.bl false),some (.int c)]):=kH (pD (mM (j:=0) rfl (dD (f:=fC (.int 0)) rfl rfl fO)) (ye5 (Int.le_refl _) (by decide) (by omega)) rfl)
   exact⟨true,t++nlw c,out _ _ ((aM ((bI past).trans ((aM (bA rfl)).trans ln))).trans ((aM q).trans rfl)),fun _=>⟨nlw c,(if_neg hk).trans rfl,rfl⟩,(nomatch ·),yL hc.1 (by omega)⟩
theorem yu7{t:Str}{cs:List Int}{n:Nat}{flat:Bool}{m:Int}{l:Leaf}(hl:eE l)(h0:0<=m)(h1:m<=200)(ht:t.length<=900000):zj2 (qA [aZ l,.bl flat,.int m,sD t cs n]) (fun t'=>[aZ l,.bl flat,.int m,sD t' cs n]) flat m l t:=by
 have hs:sizeLine=16777216:=sizeLine_eq
 have out:∀(ok:Bool) (t':Str),lR tM qS [some (aZ l),some (.bl flat),some (.int m),some (sD t cs n)]=some (.ret (.bl ok),[some (aZ l),some (.bl flat),some (.int m),some (sD t' cs n)])->qA [aZ l,.bl flat,.int m,sD t cs n]=some (.bl ok,[aZ l,.bl flat,.int m,sD t' cs n]):=fun ok t' h=>by
  unfold qA gE
  refine(if_pos rfl).trans ?_
  show(lR tM qS [some (aZ l),some (.bl flat),some (.int m),some (sD t cs n)]).bind _=_
  rw [h];rfl
 have add:∀x:Str,x.length<=1000->bP (.str t) (.str x)=some (.str (t++x)):=fun x hx=>by rw [bP,if_pos];omega
 have wrote:∀(d0:D) (x:Str),x.length<=1000->f2 dIx (aA 0) (fC (.int 1)) [some d0,some (.bl flat),some (.int m),some (sD t cs n)]=some (.str x)->fL 3 bU (fC (.int 0)) (f2 bP (f2 dIx (aA 3) (fC (.int 0))) (f2 dIx (aA 0) (fC (.int 1)))) [some d0,some (.bl flat),some (.int m),some (sD t cs n)]=some (.nx,[some d0,some (.bl flat),some (.int m),some (sD (t++x) cs n)]):=fun d0 x hx h=>
  yu6 (aP (aP rfl rfl (kG _ _)) h (add x hx)) rfl
 have line:∀d0:D,cM (fIO [.io 3,.im (aA 2)] qS) [some d0,some (.bl flat),some (.int m),some (sD t cs n)]=some (.nx,[some d0,some (.bl flat),some (.int m),some (sD (t++nlw m) cs n)]):=fun d0=>kH (pD (mM (j:=3) rfl (dD (f:=aA 2) rfl rfl fO)) (ye5 h0 h1 (by omega)) rfl)
 cases l with
 |word x=>
  have hx:x.length<=12:=hl.2.1
  delta zj2
  exact⟨true,t++x,out _ _ ((aM (bA (eV (i:=0) (k:="word") rfl (by decide)))).trans ((aM ((bI (wa8 (eV (i:=0) (k:="word") rfl (by decide)))).trans (wrote (aZ (.word x)) x (by omega) (aP rfl rfl (gQ _ _ _))))).trans rfl)),fun _=>⟨x,rfl,rfl⟩,(nomatch ·),by rw [dO];omega⟩
 | gap x=>
  have hx:x.length<=1:=by
   rcases(hl:x=""\/x=" ") with rfl|rfl
   ·show(0:Nat)<=1;decide
   ·show(1:Nat)<=1;decide
  have e0:fIf (aW (kdT 0 "stop")) (cA (fIO [.io 3,.im (aA 1),.im (f2 dIx (aA 0) (fC (.int 1)))] tM)) bO [some (aZ (.gap x)),some (.bl flat),some (.int m),some (sD t cs n)]=some (.nx,[some (aZ (.gap x)),some (.bl flat),some (.int m),some (sD t cs n)]):=bA (eV (k:="gap") rfl (by decide))
  have e1:kdT 0 "word" [some (aZ (.gap x)),some (.bl flat),some (.int m),some (sD t cs n)]=some false:=eV (k:="gap") rfl (by decide)
  have e2:kdT 0 "gap" [some (aZ (.gap x)),some (.bl flat),some (.int m),some (sD t cs n)]=some true:=eV (k:="gap") rfl (by decide)
  delta zj2
  cases flat with
  |true=>exact⟨true,t++x,out _ _ ((aM e0).trans ((aM ((bI (zp1 e1 (iX e2 rfl))).trans (wrote _ x (by omega) (aP rfl rfl (gQ _ _ _))))).trans rfl)),fun _=>⟨x,rfl,rfl⟩,(nomatch ·),by rw [dO];omega⟩
  |false=>exact⟨true,t++nlw m,out _ _ ((aM e0).trans ((aM ((fU (dF (zp1 e1 (iX e2 rfl)))).trans ((fU (dF rfl)).trans (line _)))).trans rfl)),fun _=>⟨_,rfl,rfl⟩,(nomatch ·),yL h0 h1⟩
 |fin=>
  have e0:fIf (aW (kdT 0 "stop")) (cA (fIO [.io 3,.im (aA 1),.im (f2 dIx (aA 0) (fC (.int 1)))] tM)) bO [some (aZ .fin),some (.bl flat),some (.int m),some (sD t cs n)]=some (.nx,[some (aZ .fin),some (.bl flat),some (.int m),some (sD t cs n)]):=bA (eV (k:="end") rfl (by decide))
  have e1:kdT 0 "word" [some (aZ .fin),some (.bl flat),some (.int m),some (sD t cs n)]=some false:=eV (k:="end") rfl (by decide)
  have e2:kdT 0 "gap" [some (aZ .fin),some (.bl flat),some (.int m),some (sD t cs n)]=some false:=eV (k:="end") rfl (by decide)
  delta zj2
  cases flat with
  |true=>exact⟨false,t,out _ _ ((aM e0).trans (dH ((fU (dF (zp1 e1 (jN e2)))).trans ((bI rfl).trans rfl)))),(nomatch ·),fun _=>⟨rfl,rfl⟩,by omega⟩
  |false=>exact⟨true,t++nlw m,out _ _ ((aM e0).trans ((aM ((fU (dF (zp1 e1 (jN e2)))).trans ((fU (dF rfl)).trans (line _)))).trans rfl)),fun _=>⟨_,rfl,rfl⟩,(nomatch ·),yL h0 h1⟩
 |stop c=>
  obtain⟨ok,t',q,e⟩:=xc4 (t:=t) (cs:=cs) (n:=n) (flat:=flat) (m:=m) (c:=c) hl ht
  refine⟨ok,t',out _ _ (dH ((bI (eV (i:=0) (k:="stop") rfl (by decide))).trans ?_)),e⟩
  have e1:f2 dIx (aA 0) (fC (.int 1)) [some (aZ (.stop c)),some (.bl flat),some (.int m),some (sD t cs n)]=some (.int c):=aP rfl rfl (gQ _ _ _)
  exact xc3 (pD (mM (j:=3) rfl (dD (f:=aA 1) rfl rfl (dD e1 rfl fO))) q rfl)
abbrev nxS(GS:tz7)(f1 f2 f3:tz2):tz1:=aT 7 (fIO [.im (aA 0),.im f1,.im f2,.im f3,.io 4,.im (aA 5)] GS)
abbrev grS(GN GS:tz7):tz1:=aU (aT 8 (aH (aQ (aA 2))))
 (aU (fIf (aW (dN (iS (fT (aA 2))) (fB (f2 dGt (aA 5) (fC (.int 0))))))
  (aT 8 (fE2 dEq (fIO [.im (aA 0),.io 4,.im (aA 5),.im (fC (.int 2))] GN) (fC (.int 0))))
  (fIf (aW (iS (fT (aA 2)))) (cM (dI 4 (eU 4 bU (fC (.int 1))) (aB (fC (.int 1)) aE) cW)) bO))
 (nxS GS (f2 dIx (aA 6) (fC (.int 1))) (aA 8) (aA 3)))
abbrev eiS(GN GS:tz7):tz1:=aU (aT 9 (fIO [.im (aA 0),.io 4,.im (f2 bP (aA 5) (f2 gA (fC (.int 9)) (aJ lO (aB (f2 dEq (aA 5) (fC (.int 0))) aE)))),.im (aJ cZ (aB (f2 dIx (aA 6) (fC (.int 1))) aE))] GN))
 (nxS GS (f2 dIx (f2 dIx (aA 6) (fC (.int 1))) (aA 9)) (aA 2) (aA 3))
abbrev haS(GS:tz7):tz1:=nxS GS (f2 dIx (aA 6) (fC (.int 2))) (aA 2) (f2 bP (aA 3) (f2 dIx (aA 6) (fC (.int 1))))
abbrev wh4:tz1:=fIf (aW (iS (fT (aA 7)))) (cA (aH (fC (.bl false)))) bO
def oU(GN GS:tz7):tz1:=aU (aT 7 (aH (fC (.bl true))))
 (aU (fIf (aW (kdT 6 "group")) (grS GN GS) (fIf (aW (kdT 6 "hang")) (haS GS) (fIf (aW (kdT 6 "either")) (eiS GN GS) (aT 7 (fIO [.im (aA 6),.im (aA 2),.im (aA 3),.io 4] qA))))) wh4)
section
variable{GM GC:tz6}{S:D}
def Fit(n c l w:Nat):Prop:=n+w<=900/\c+w<=900/\l+201*w<=900000
def oK(n n' l l':Nat)(ds:List Int)(w:Nat):Prop:=(n'<=n+w/\l'<=l+201*w/\ds.length<=w)/\∀d∈ds,0<=d/\d<4
theorem zd7{n c l w w':Nat}(h:Fit n c l w)(hw:w'<=w):Fit n c l w':=by unfold Fit at*;omega
theorem yM{n n' l l' w w':Nat}{ds:List Int}(h:oK n n' l l' ds w)(hw:w<=w'):oK n n' l l' ds w':=⟨by have:=h.1;omega,h.2⟩
theorem xo2{n l w:Nat}{cs:List Int}(h:Fit n cs.length l (w+2))(d:Int):Fit n (cs++[d]).length l w:=by
 rw [List.length_append]
 unfold Fit at*
 show _/\_+1+_<=_/\_
 omega
theorem zw3{n l w:Nat}{cs:List Int}(h:Fit n cs.length l (w+2))(d:Int):Fit (n+1) (cs++[d]).length l w:=by
 rw [List.length_append]
 unfold Fit at*
 show _/\_+1+_<=_/\_
 omega
theorem zd8{n c l w:Nat}(h:Fit n c l w):n<=900/\c<=900:=by unfold Fit at h;omega
theorem xc5{n n' l l' w:Nat}{ds:List Int}(g:oK n n' l l' ds w)(d:Int)(hd:0<=d/\d<4):oK n n' l l' (d::ds) (w+2):=⟨by have:=g.1;rw [List.length_cons];omega,List.forall_mem_cons.mpr ⟨hd,g.2⟩⟩
theorem zn4{n n' l l' w:Nat}{ds:List Int}(g:oK (n+1) n' l l' ds w)(d:Int)(hd:0<=d/\d<4):oK n n' l l' (d::ds) (w+2):=⟨by have:=g.1;rw [List.length_cons];omega,List.forall_mem_cons.mpr ⟨hd,g.2⟩⟩
theorem xc6{n n1 l l1 a b:Nat}{cs ds:List Int}(h:Fit n cs.length l (a+b))(g:oK n n1 l l1 ds a):Fit n1 (cs++ds).length l1 b:=by
 have:=g.1
 rw [List.length_append]
 unfold Fit at*
 omega
theorem yj9{n n1 n2 l l1 l2 a b:Nat}{ds es:List Int}(g:oK n n1 l l1 ds a)(h:oK n1 n2 l1 l2 es b):oK n n2 l l2 (ds++es) (a+b):=
 ⟨by have:=g.1;have:=h.1;rw [List.length_append];omega,fun d hd=>(List.mem_append.mp hd).elim (g.2 d) (h.2 d)⟩
theorem zp4{m:Int}{x:Nat}(h:m+12*((x+1:Nat):Int)<=200):m+12*(x:Int)<=200:=by omega
theorem zw4{m:Int}{x y:Nat}(h:m+12*(y:Int)<=200)(hx:x<=y):m+12*(x:Int)<=200:=by omega
def za6(S:D)(GS:tz7)(r:List Pc):Prop:=∀(flat:Bool) (m:Int) (t:Str) (cs:List Int) (n:Nat) (salt:Int),0<=m->m+12*depR r<=200->0<=salt->salt<=900->Fit n cs.length t.length (toksR r).length->
 ∃ok t' ds n',GS [S,.tup (pcsD r),.bl flat,.int m,sD t cs n,.int salt]=some (.bl ok,[S,.tup (pcsD r),.bl flat,.int m,sD t' (cs++ds) n',.int salt])/\(ok=true->∀x,setR (!flat) m r (ds++x) t=some (x,t'))/\(ok=false->∀x,setR (!flat) m r (ds++x) t=none)/\(salt=0->flat=false->ok=true)/\oK n n' t.length t'.length ds (toksR r).length
def za7(S:D)(GN GS:tz7)(p:Pc)(R:Option D)(flat:Bool)(m:Int)(t:Str)(cs:List Int)(n:Nat)(salt:Int)(x7 x8 x9:Option D):Prop:=∃ok t' ds n' y7 y8 y9,oU GN GS [some S,R,some (.bl flat),some (.int m),some (sD t cs n),some (.int salt),some (pcD p),x7,x8,x9]=some (if ok=true then .nx else .ret (.bl false),[some S,R,some (.bl flat),some (.int m),some (sD t' (cs++ds) n'),some (.int salt),some (pcD p),y7,y8,y9])/\
  (ok=true->∀x,dM (!flat) m p (ds++x) t=some (x,t'))/\(ok=false->∀x,dM (!flat) m p (ds++x) t=none)/\(salt=0->flat=false->ok=true)/\oK n n' t.length t'.length ds (dE p).length
def zz5(S:D)(GN GS:tz7)(p:Pc):Prop:=∀(R:Option D) (flat:Bool) (m:Int) (t:Str) (cs:List Int) (n:Nat) (salt:Int) (x7 x8 x9:Option D),0<=m->m+12*eD p<=200->0<=salt->salt<=900->Fit n cs.length t.length (dE p).length->za7 S GN GS p R flat m t cs n salt x7 x8 x9
def yW(S:D)(GN:tz7):Prop:=∀(t:Str) (cs:List Int) (n many:Nat) (salt:Int),n<=900->0<=salt->salt<1000->0<many->cs.length<=900->∃d:Int,GN [S,sD t cs n,.int salt,.int many]=some (.int d,[S,sD t (cs++[d]) (n+1),.int salt,.int many])/\0<=d/\d<many
theorem xc7(cs ds:List Int)(d:Int):cs++[d]++ds=cs++(d::ds):=by simp
theorem rA{GN GS:tz7}{k:String}{ds:List D}{S m s0 s1 salt:D}{R x7 x8 x9 y8 y9 fl:Option D}{ok:Bool}{F:tz1}
  (hp:∀p:PSt,p[6]? =some (some (.tup (.str k::ds)))->fIf (aW (kdT 6 "group")) (grS GN GS) (fIf (aW (kdT 6 "hang")) (haS GS) (fIf (aW (kdT 6 "either")) (eiS GN GS) (aT 7 (fIO [.im (aA 6),.im (aA 2),.im (aA 3),.io 4] qA)))) p=F p)
  (h:F [some S,R,fl,some m,some s0,some salt,some (.tup (.str k::ds)),some (.bl true),x8,x9]=some (.nx,[some S,R,fl,some m,some s1,some salt,some (.tup (.str k::ds)),some (.bl ok),y8,y9])):
  oU GN GS [some S,R,fl,some m,some s0,some salt,some (.tup (.str k::ds)),x7,x8,x9]=some (if ok=true then .nx else .ret (.bl false),[some S,R,fl,some m,some s1,some salt,some (.tup (.str k::ds)),some (.bl ok),y8,y9]):=by
 refine(aM (bJ rfl)).trans ((aM ((hp _ rfl).trans h)).trans ?_)
 cases ok<;>rfl
theorem rT{GS:tz7}{r:List Pc}{b flat ok:Bool}{m m' salt:Int}{s0 s1 d6:D}{R x7 x8 x9:Option D}{f1 f2 f3:tz2}(hS:S.imm=true)(e1:f1 [some S,R,some (.bl flat),some (.int m),some s0,some (.int salt),some d6,x7,x8,x9]=some (.tup (pcsD r)))(e2:f2 [some S,R,some (.bl flat),some (.int m),some s0,some (.int salt),some d6,x7,x8,x9]=some (.bl b))(e3:f3 [some S,R,some (.bl flat),some (.int m),some s0,some (.int salt),some d6,x7,x8,x9]=some (.int m'))
  (q:GS [S,.tup (pcsD r),.bl b,.int m',s0,.int salt]=some (.bl ok,[S,.tup (pcsD r),.bl b,.int m',s1,.int salt])):
  nxS GS f1 f2 f3 [some S,R,some (.bl flat),some (.int m),some s0,some (.int salt),some d6,x7,x8,x9]=some (.nx,[some S,R,some (.bl flat),some (.int m),some s1,some (.int salt),some d6,some (.bl ok),x8,x9]):=
 zw2 (pD (dD (f:=aA 0) rfl hS (dD e1 (pcs_imm r) (dD e2 rfl (dD e3 rfl (mM (j:=4) rfl (dD (f:=aA 5) rfl rfl fO)))))) q rfl)
theorem bit{d:Int}(h0:0<=d)(h1:d<((2:Nat):Int)):d=0\/d=1:=by omega
theorem yu8{GN GS:tz7}{r:List Pc}(hS:S.imm=true)(hN:yW S GN)(hr:za6 S GS r):zz5 S GN GS (.group r):=by
 intro R flat m t cs n salt x7 x8 x9 h0 h1 hs0 hs1 hft
 have hd:eD (.group r)=depR r+1:=by rw [eD]
 have htk:(dE (.group r)).length=(toksR r).length+2:=by simp [dE]
 have pi:=pcs_imm r
 rw [hd] at h1
 rw [htk] at hft
 have set_eq:∀cs' t0,dM true m (.group r) cs' t0=(match cs' with|[]=>none|c::cs=>if c=0 then setR false m r cs t0 else if c=1 then setR true m r cs t0 else none):=fun cs' t0=>by rw [dM.eq_def];cases cs'<;>simp
 cases flat with
 |true=>
  obtain⟨ok,t',ds,n',q,e1,e2,e3,e4⟩:=hr true m t cs n salt h0 (zp4 h1) hs0 hs1 (zd7 hft (Nat.le_add_right _ 2))
  have se:∀cs' t0,dM (!true) m (.group r) cs' t0=setR (!true) m r cs' t0:=fun cs' t0=>by rw [dM.eq_def];simp
  delta za7
  rw [htk]
  refine⟨ok,t',ds,n',some (.bl ok),some (.bl true),x9,?_,fun h x=>by rw [se];exact e1 h x,fun h x=>by rw [se];exact e2 h x,fun _ h=>(by cases h),yM e4 (Nat.le_add_right _ 2)⟩
  refine rA (k:="group") (ds:=[.tup (pcsD r)]) (fun p hp=>bI (eV hp (by decide))) ?_
  exact(aM (bJ (bL rfl rfl))).trans ((aM ((fU (dF (jN rfl))).trans (bA rfl))).trans (rT hS (aP rfl rfl (gQ _ _ _)) rfl rfl q))
 | false=>
  by_cases hz:salt=0
  ·subst hz
   obtain⟨ok,t',ds,n',q,e1,e2,e3,e4⟩:=hr false m t (cs++[1]) n 0 h0 (zp4 h1) hs0 hs1 (xo2 hft 1)
   have hok:=e3 rfl rfl
   subst hok
   delta za7
   rw [htk]
   refine⟨true,t',1::ds,n',some (.bl true),some (.bl false),x9,?_,fun _ x=>by rw [show(!false)=true from rfl,set_eq];simpa using e1 rfl x,(nomatch ·),fun _ _=>rfl,xc5 e4 1 (by decide)⟩
   rw [xc7] at q
   have hl:(bE cs).length<sizeLine:=by rw [pE];exact sz1 (Nat.le_trans (zd8 hft).2 (by decide))
   have ei:bE (cs++[1])=bE cs++[.int 1]:=by rw [xK];rfl
   have ap:cM (dI 4 (eU 4 bU (fC (.int 1))) (aB (fC (.int 1)) aE) cW) [some S,R,some (.bl false),some (.int m),some (sD t cs n),some (.int 0),some (pcD (.group r)),some (.bl true),some (.bl false),x9]=some (.nx,[some S,R,some (.bl false),some (.int m),some (sD t (cs++[1]) n),some (.int 0),some (pcD (.group r)),some (.bl true),some (.bl false),x9]):=by
    unfold sD
    rw [ei]
    simp [cM,dI,eU,bU,fC,iZ,yj0,aB,aE,eP,cW,hl]
   refine rA (ok:=true) (k:="group") (ds:=[.tup (pcsD r)]) (fun p hp=>bI (eV hp (by decide))) ?_
   exact(aM (bJ (bL rfl rfl))).trans ((aM ((fU (dF (iX rfl rfl))).trans ((bI rfl).trans ap))).trans (rT hS (aP rfl rfl (gQ _ _ _)) rfl rfl q))
  ·have hp:0<salt:=by omega
   obtain⟨d,qd,d0,d1⟩:=hN t cs n 2 salt (zd8 hft).1 hs0 (Int.lt_of_le_of_lt hs1 (by decide)) (by decide) (zd8 hft).2
   obtain⟨ok,t',ds,n',q,e1,e2,e3,e4⟩:=hr (decide (d=0)) m t (cs++[d]) (n+1) salt h0 (zp4 h1) hs0 hs1 (zw3 hft d)
   have se:∀x,dM (!false) m (.group r) (d::ds++x) t=setR (!decide (d=0)) m r (ds++x) t:=fun x=>by
    rw [show(!false)=true from rfl,set_eq]
    rcases(bit d0 d1) with rfl|rfl<;>simp
   delta za7
   rw [htk]
   refine⟨ok,t',d::ds,n',some (.bl ok),some (.bl (decide (d=0))),x9,?_,fun h x=>by rw [se];exact e1 h x,fun h x=>by rw [se];exact e2 h x,fun h=>absurd h hz,zn4 e4 d ⟨d0,Int.lt_trans d1 (by decide)⟩⟩
   rw [xc7] at q
   have qd':GN [S,sD t cs n,.int salt,.int 2]=some (.int d,[S,sD t (cs++[d]) (n+1),.int salt,.int 2]):=qd
   have dr:aT 8 (fE2 dEq (fIO [.im (aA 0),.io 4,.im (aA 5),.im (fC (.int 2))] GN) (fC (.int 0))) [some S,R,some (.bl false),some (.int m),some (sD t cs n),some (.int salt),some (pcD (.group r)),some (.bl true),some (.bl false),x9]=some (.nx,[some S,R,some (.bl false),some (.int m),some (sD t (cs++[d]) (n+1)),some (.int salt),some (pcD (.group r)),some (.bl true),some (.bl (decide (d=0))),x9]):=by
    unfold aT fE2
    rw [pD (dD (f:=aA 0) rfl hS (mM (j:=4) rfl (dD (f:=aA 5) rfl rfl (dD (f:=fC (.int 2)) rfl rfl fO)))) qd' rfl]
    rfl
   have gt:dN (iS (fT (aA 2))) (fB (f2 dGt (aA 5) (fC (.int 0)))) [some S,R,some (.bl false),some (.int m),some (sD t cs n),some (.int salt),some (pcD (.group r)),some (.bl true),some (.bl false),x9]=some true:=iX rfl (dQ (aP rfl rfl (show some (D.bl (decide (0<salt)))=_ by rw [decide_eq_true hp])))
   refine rA (k:="group") (ds:=[.tup (pcsD r)]) (fun p hp=>bI (eV hp (by decide))) ?_
   exact(aM (bJ (bL rfl rfl))).trans ((aM ((bI gt).trans dr)).trans (rT hS (aP rfl rfl (gQ _ _ _)) rfl rfl q))
theorem wb1{m k:Int}{x:Nat}(h:m+12*((x+1:Nat):Int)<=200)(hk:k<=12):m+k+12*(x:Int)<=200:=by omega
theorem xc8{GN GS:tz7}{k:Int}{r:List Pc}(hS:S.imm=true)(hk:0<=k/\k<=12)(hr:za6 S GS r):zz5 S GN GS (.hang k r):=by
 intro R flat m t cs n salt x7 x8 x9 h0 h1 hs0 hs1 hft
 have hd:eD (.hang k r)=depR r+1:=by rw [eD]
 have htk:(dE (.hang k r)).length=(toksR r).length+2:=by simp [dE]
 have pi:=pcs_imm r
 rw [hd] at h1
 rw [htk] at hft
 obtain⟨ok,t',ds,n',q,e1,e2,e3,e4⟩:=hr flat (m+k) t cs n salt (Int.add_nonneg h0 hk.1) (wb1 h1 hk.2) hs0 hs1 (zd7 hft (Nat.le_add_right _ 2))
 have se:∀cs' t0,dM (!flat) m (.hang k r) cs' t0=setR (!flat) (m+k) r cs' t0:=fun cs' t0=>by rw [dM]
 delta za7
 rw [htk]
 refine⟨ok,t',ds,n',some (.bl ok),x8,x9,?_,fun h x=>by rw [se];exact e1 h x,fun h x=>by rw [se];exact e2 h x,e3,yM e4 (Nat.le_add_right _ 2)⟩
 refine rA (k:="hang") (ds:=[.int k,.tup (pcsD r)]) (fun p hp=>(fU (dF (eV hp (by decide)))).trans (bI (eV hp (by decide)))) ?_
 exact rT hS (aP rfl rfl (zu6 _ _ _ _)) rfl (aP rfl (aP rfl rfl (gQ _ _ _)) rfl) q
theorem zw5:∀{rs:List (List Pc)} {i:Nat} {r:List Pc},rs[i]? =some r->(rowsD rs)[i]? =some (.tup (pcsD r))
 |[],i,_,h=>by simp at h
 |q::rs,0,_,h=>by simp at h;subst h;rfl
 |q::rs,i+1,_,h=>by show(rowsD rs)[i]? =_;exact zw5 (by simpa using h)
theorem yk0{GN GS:tz7}{rs:List (List Pc)}(hS:S.imm=true)(hN:yW S GN)(hl:0<rs.length/\rs.length<=4)(hr:∀r∈rs,za6 S GS r):zz5 S GN GS (.either rs):=by
 intro R flat m t cs n salt x7 x8 x9 h0 h1 hs0 hs1 hft
 have hd:eD (.either rs)=depRs rs+1:=by rw [eD]
 have htk:(dE (.either rs)).length=(toksRows rs).length+2:=by simp [dE]
 rw [hd] at h1
 rw [htk] at hft
 obtain⟨s',hs',hs2,hs3⟩:∃s':Int,salt+9*(if decide (salt=0)=true then 1 else 0)=s'/\0<=s'/\s'<1000:=by
  refine⟨_,rfl,?_,?_⟩<;>by_cases h:salt=0<;>simp [h]<;>omega
 obtain⟨d,qd,d0,d1⟩:=hN t cs n rs.length s' (zd8 hft).1 hs2 hs3 hl.1 (zd8 hft).2
 obtain⟨r,hg⟩:∃r,rs[d.toNat]? =some r:=⟨_,List.getElem?_eq_getElem (by omega)⟩
 have hdr:=sQ hg
 have htr:=zG (List.mem_of_getElem? hg)
 have pi:=pcs_imm r
 obtain⟨ok,t',ds,n',q,e1,e2,e3,e4⟩:=hr r (List.mem_of_getElem? hg) flat m t (cs++[d]) (n+1) salt h0 (zw4 (zp4 h1) hdr) hs0 hs1 (zd7 (zw3 hft d) htr)
 have se:∀x,dM (!flat) m (.either rs) (d::ds++x) t=setR (!flat) m r (ds++x) t:=fun x=>by
  rw [dM.eq_def]
  simp only [List.cons_append]
  rw [if_pos d0,xJ hg]
 delta za7
 rw [htk]
 refine⟨ok,t',d::ds,n',some (.bl ok),x8,some (.int d),?_,fun h x=>by rw [se];exact e1 h x,fun h x=>by rw [se];exact e2 h x,e3,zn4 (yM e4 htr) d ⟨d0,Int.lt_of_lt_of_le d1 (Int.ofNat_le.mpr hl.2)⟩⟩
 rw [xc7] at q
 have qx:atI (rowsD rs) d=some (.tup (pcsD r)):=by
  have:=mE (zw5 hg)
  rwa [Int.toNat_of_nonneg d0] at this
 have hrl:(rowsD rs).length=rs.length:=jB rs
 have hmul:nD 9 (if decide (salt=0)=true then 1 else 0)=true:=by by_cases h:salt=0<;>simp [h]<;>decide
 have hmul':gA (.int 9) (.int (if decide (salt=0)=true then 1 else 0))=some (.int (9*(if decide (salt=0)=true then 1 else 0))):=by rw [gA,if_pos hmul]
 have hm2:f2 bP (aA 5) (f2 gA (fC (.int 9)) (aJ lO (aB (f2 dEq (aA 5) (fC (.int 0))) aE))) [some S,R,some (.bl flat),some (.int m),some (sD t cs n),some (.int salt),some (.tup [.str "either",.tup (rowsD rs)]),some (.bl true),x8,x9]=some (.int s'):=by
  rw [<-hs']
  refine aP rfl (aP rfl (d:= .int (9*(if decide (salt=0)=true then 1 else 0))) ?_ hmul') rfl
  exact aY (aD (aP rfl rfl rfl) rfl) rfl
 have ln:aJ cZ (aB (f2 dIx (aA 6) (fC (.int 1))) aE) [some S,R,some (.bl flat),some (.int m),some (sD t cs n),some (.int salt),some (.tup [.str "either",.tup (rowsD rs)]),some (.bl true),x8,x9]=some (.int rs.length):=by
  rw [<-hrl]
  exact aY (aD (aP rfl rfl (gQ _ _ _)) rfl) rfl
 have dr:aT 9 (fIO [.im (aA 0),.io 4,.im (f2 bP (aA 5) (f2 gA (fC (.int 9)) (aJ lO (aB (f2 dEq (aA 5) (fC (.int 0))) aE)))),.im (aJ cZ (aB (f2 dIx (aA 6) (fC (.int 1))) aE))] GN) [some S,R,some (.bl flat),some (.int m),some (sD t cs n),some (.int salt),some (.tup [.str "either",.tup (rowsD rs)]),some (.bl true),x8,x9]=some (.nx,[some S,R,some (.bl flat),some (.int m),some (sD t (cs++[d]) (n+1)),some (.int salt),some (.tup [.str "either",.tup (rowsD rs)]),some (.bl true),x8,some (.int d)]):=by
  unfold aT
  rw [pD (dD (f:=aA 0) rfl hS (mM (j:=4) rfl (dD hm2 rfl (dD ln rfl fO)))) qd rfl]
  rfl
 refine rA (k:="either") (ds:=[.tup (rowsD rs)]) (fun p hp=>(fU (dF (eV hp (by decide)))).trans ((fU (dF (eV hp (by decide)))).trans (bI (eV hp (by decide))))) ?_
 exact(aM dr).trans (rT hS (aP (aP rfl rfl (gQ _ _ _)) rfl qx) rfl rfl q)
theorem yu9{GN GS:tz7}{l:Leaf}(hl:eE l):zz5 S GN GS (.leaf l):=by
 intro R flat m t cs n salt x7 x8 x9 h0 h1 hs0 hs1 hft
 have hd:eD (.leaf l)=0:=by rw [eD]
 have htk:(dE (.leaf l)).length=1:=by simp [dE]
 rw [hd] at h1
 rw [htk] at hft
 obtain⟨ok,t',q,e1,e2,e3⟩:=yu7 (t:=t) (cs:=cs) (n:=n) (flat:=flat) hl h0 (by omega) (Nat.le_trans (Nat.le_add_right _ _) hft.2.2)
 delta za7
 rw [htk]
 refine⟨ok,t',[],n,some (.bl ok),x8,x9,?_,fun h x=> ?_,fun h x=> ?_,fun _ hf=> ?_,⟨⟨Nat.le_add_right _ _,e3,Nat.zero_le _⟩,fun _ h=>absurd h (List.not_mem_nil)⟩⟩
 ·rw [List.append_nil]
  obtain⟨k,ds,el,ek⟩:∃k ds,aZ l= .tup (.str (k:String)::ds)/\(decide (k="group")=false/\decide (k="hang")=false/\decide (k="either")=false):=by
   cases l with
   |word x=>exact⟨"word",_,rfl,by decide⟩
   |gap x=>exact⟨"gap",_,rfl,by decide⟩
   |fin=>exact⟨"end",_,rfl,by decide⟩
   |stop c=>exact⟨"stop",_,rfl,by decide⟩
  have li:=zu5 l
  show oU GN GS [some S,R,some (.bl flat),some (.int m),some (sD t cs n),some (.int salt),some (aZ l),x7,x8,x9]=some (_,[some S,R,some (.bl flat),some (.int m),some (sD t' cs n),some (.int salt),some (aZ l),some (.bl ok),x8,x9])
  rw [el] at q li|-
  exact rA (fun p hp=>(fU (dF (eV hp ek.1))).trans ((fU (dF (eV hp ek.2.1))).trans (fU (dF (eV hp ek.2.2))))) (zw2 (pD (dD (f:=aA 6) rfl li (dD (f:=aA 2) rfl rfl (dD (f:=aA 3) rfl rfl (mM (j:=4) rfl fO)))) q rfl))
 ·obtain⟨w,hw,rfl⟩:=e1 h
  rw [dM,hw];rfl
 ·rw [dM,(e2 h).1];rfl
 ·cases ok with
  |true=>rfl
  |false=>have:=(e2 rfl).2;rw [hf] at this;cases this
theorem yv0{GN GS:tz7}{k:Nat}(hS:S.imm=true)(hN:yW S GN)(hG:∀r,depR r<k->okR r->za6 S GS r){p:Pc}(hd:eD p<=k)(ho:okP p):zz5 S GN GS p:=by
 cases p with
 |leaf l=>exact yu9 ho
 |group r=>rw [eD] at hd;exact yu8 hS hN (hG r (by omega) ho)
 |hang n r=>rw [eD] at hd;exact xc8 hS ho.1 (hG r (by omega) ho.2)
 |either rs=>
  rw [eD] at hd
  have ho':(2<=rs.length/\rs.length<=4)/\okRs rs:=ho
  refine yk0 hS hN ⟨by omega,ho'.1.2⟩ fun r hr=> ?_
  obtain⟨i,hi⟩:=List.getElem?_of_mem hr
  have:=sQ hi
  exact hG r (by omega) (zY ho'.2 hi)
def zz6(S:D)(GN GS:tz7)(R:Option D)(flat:Bool)(m salt:Int)(r:List Pc)(t:Str)(cs:List Int)(n:Nat)(x6 x7 x8 x9:Option D):Prop:=∃ok t' ds n' y6 y7 y8 y9,cX 6 (oU GN GS) (pcsD r) [some S,R,some (.bl flat),some (.int m),some (sD t cs n),some (.int salt),x6,x7,x8,x9]=some (if ok=true then .nx else .ret (.bl false),[some S,R,some (.bl flat),some (.int m),some (sD t' (cs++ds) n'),some (.int salt),y6,y7,y8,y9])/\
   (ok=true->∀x,setR (!flat) m r (ds++x) t=some (x,t'))/\(ok=false->∀x,setR (!flat) m r (ds++x) t=none)/\(salt=0->flat=false->ok=true)/\oK n n' t.length t'.length ds (toksR r).length
theorem zw6{GN GS:tz7}{k:Nat}{R:Option D}{flat:Bool}{m salt:Int}(hS:S.imm=true)(hN:yW S GN)(hG:∀r,depR r<k->okR r->za6 S GS r)(h0:0<=m)(hs0:0<=salt)(hs1:salt<=900):∀(r:List Pc) (t:Str) (cs:List Int) (n:Nat) (x6 x7 x8 x9:Option D),depR r<=k->okR r->
  m+12*depR r<=200->Fit n cs.length t.length (toksR r).length->zz6 S GN GS R flat m salt r t cs n x6 x7 x8 x9
 |[],t,cs,n,x6,x7,x8,x9,_,_,_,_=>show zz6 S GN GS R flat m salt [] t cs n x6 x7 x8 x9 by delta zz6;exact⟨true,t,[],n,x6,x7,x8,x9,by rw [List.append_nil];rfl,fun _ x=>by rw [setR];rfl,(nomatch ·),fun _ _=>rfl,⟨⟨Nat.le_refl _,Nat.le_refl _,Nat.le_refl _⟩,fun _ h=>absurd h (List.not_mem_nil)⟩⟩
 | p::r,t,cs,n,x6,x7,x8,x9,hd,ho,h1,hft=>by
  rw [okR] at ho
  rw [depR] at hd h1
  have htk:(toksR (p::r)).length=(dE p).length+(toksR r).length:=by rw [toksR,List.length_append]
  rw [htk] at hft
  obtain⟨ok,t1,d1,n1,y7,y8,y9,q,e1,e2,e3,e4⟩:=yv0 hS hN hG (p:=p) (Nat.le_trans (Nat.le_max_left _ _) hd) ho.1 R flat m t cs n salt x7 x8 x9 h0 (zw4 h1 (Nat.le_max_left _ _)) hs0 hs1 (zd7 hft (Nat.le_add_right _ _))
  have st:∀(Y:Fl×PSt),oU GN GS [some S,R,some (.bl flat),some (.int m),some (sD t cs n),some (.int salt),some (pcD p),x7,x8,x9]=some Y->cX 6 (oU GN GS) (pcsD (p::r)) [some S,R,some (.bl flat),some (.int m),some (sD t cs n),some (.int salt),x6,x7,x8,x9]=(match Y with
    |(.nx,p)=>cX 6 (oU GN GS) (pcsD r) p
    |(.ct,p)=>cX 6 (oU GN GS) (pcsD r) p
    |(.bk,p)=>some (.nx,p)
    |(.ret d,p)=>some (.ret d,p)):=fun Y hY=>by
   show cX 6 _ (pcD p::pcsD r) _=_
   rw [cX]
   show((oU GN GS [some S,R,some (.bl flat),some (.int m),some (sD t cs n),some (.int salt),some (pcD p),x7,x8,x9]).bind _)=_
   rw [hY];rfl
  cases ok with
  |false=>
   delta zz6
   rw [htk]
   refine⟨false,t1,d1,n1,_,y7,y8,y9,st _ q,(nomatch ·),fun _ x=>by rw [setR,e2 rfl x];rfl,fun a b=>(by have:=e3 a b;cases this),yM e4 (Nat.le_add_right _ _)⟩
  |true=>
   obtain⟨ok,t2,d2,n2,z6,z7,z8,z9,q2,f1,f2,f3,f4⟩:=zw6 (R:=R) (flat:=flat) hS hN hG h0 hs0 hs1 r t1 (cs++d1) n1 (some (pcD p)) y7 y8 y9 (Nat.le_trans (Nat.le_max_right _ _) hd) ho.2 (zw4 h1 (Nat.le_max_right _ _)) (xc6 hft e4)
   rw [List.append_assoc] at q2
   delta zz6
   rw [htk]
   refine⟨ok,t2,d1++d2,n2,z6,z7,z8,z9,(st _ q).trans q2,fun h x=> ?_,fun h x=> ?_,f3,yj9 e4 f4⟩
   ·rw [setR,List.append_assoc,e1 rfl];exact f1 h x
   ·rw [setR,List.append_assoc,e1 rfl];exact f2 h x
def qT(GN:tz7):Nat->tz7
 |0=>fun _=>none
 |n+1=>gE 6 4 (bQ [false,false,false,false,true,false]) (wA GN (qT GN n) qA)
theorem ye6{GN:tz7}(hS:S.imm=true)(hN:yW S GN):∀(k:Nat) (r:List Pc),depR r<k->okR r->za6 S (qT GN k) r
 |0,_,h,_=>absurd h (Nat.not_lt_zero _)
 | k+1,r,hd,ho=>fun flat m t cs n salt h0 h1 hs0 hs1 hft=>by
  obtain⟨ok,t',ds,n',y6,y7,y8,y9,q,e⟩:=zw6 (GS:=qT GN k) (k:=k) (R:=some (.tup (pcsD r))) (flat:=flat) hS hN (fun s hs hk=>ye6 hS hN k s hs hk) h0 hs0 hs1 r t cs n none none none none (Nat.le_of_lt_succ hd) ho h1 hft
  refine⟨ok,t',ds,n',?_,e⟩
  show gE 6 4 _ (wA GN (qT GN k) qA) _=_
  have s1:fJ 6 (eL (aA 1)) (oU GN (qT GN k)) [some S,some (.tup (pcsD r)),some (.bl flat),some (.int m),some (sD t cs n),some (.int salt),none,none,none,none]=_:=q
  have z:wA GN (qT GN k) qA ([S,.tup (pcsD r),.bl flat,.int m,sD t cs n,.int salt].map some++List.replicate 4 none)=some (.ret (.bl ok),[some S,some (.tup (pcsD r)),some (.bl flat),some (.int m),some (sD t' (cs++ds) n'),some (.int salt),y6,y7,y8,y9]):=by
   cases ok with
   |true=>exact(aM s1).trans rfl
   |false=>exact dH s1
  unfold gE
  refine(if_pos rfl).trans ?_
  rw [z];rfl
end
section
variable{S:D}{GN:tz7}
abbrev zz7(GS:tz7):tz6:=gP 3 1 (zf3 GS)
theorem xc9{GS:tz7}{r:List Pc}{salt:Int}(hS:S.imm=true)(hL:za6 S GS r)(hd:depR r<=16)(hl:(toksR r).length<=800)(h0:0<=salt)(h1:salt<=900):
  ∃C t,zz7 GS [S,.tup (pcsD r),.int salt]=some (.tup [.str t,.tup (bE C)])/\setR true 0 r C ⟨#[]⟩=some ([],t)/\C.length<=(toksR r).length/\t.length<=900000/\∀c∈C,0<=c/\c<4:=by
 have pi:=pcs_imm r
 have run:∀s:Int,0<=s->s<=900->∃ok t' ds n',GS [S,.tup (pcsD r),.bl false,.int 0,sD ⟨#[]⟩ [] 0,.int s]=some (.bl ok,[S,.tup (pcsD r),.bl false,.int 0,sD t' ds n',.int s])/\(ok=true->setR true 0 r ds ⟨#[]⟩=some ([],t'))/\(s=0->ok=true)/\ds.length<=(toksR r).length/\t'.length<=900000/\∀c∈ds,0<=c/\c<4:=fun s s0 s1=>by
  obtain⟨ok,t',ds,n',q,e1,e2,e3,⟨_,e5,e6⟩,e7⟩:=hL false 0 ⟨#[]⟩ [] 0 s (Int.le_refl _) (by omega) s0 s1 ⟨by omega,by show 0+_<=_;omega,by show 0+_<=_;omega⟩
  exact⟨ok,t',ds,n',q,fun h=>by have:=e1 h [];rwa [List.append_nil] at this,fun h=>e3 h rfl,e6,(by have e5':t'.length<=0+201*(toksR r).length:=e5;omega),e7⟩
 have st0:cT (aB (fC (.str "")) (aB (cT aE) (aB (fC (.int 0)) aE)))=fun _=>some (sD ⟨#[]⟩ [] 0):=by
  funext p
  refine fG (aD rfl (aD (d:= .lst true []) rfl (aD rfl rfl))) (by simp)|>.trans ?_
  rw [xa8];rfl
 have fin:∀(t':Str) (ds:List Int) (n':Nat),cA (aH (bN (aB (aQ (f2 dIx (aA 3) (fC (.int 0)))) (aB (aJ gB (aB (f2 dIx (aA 3) (fC (.int 1))) aE)) aE)))) [some S,some (.tup (pcsD r)),some (.int salt),some (sD t' ds n')]=some (.ret (.tup [.str t',.tup (bE ds)]),[some S,some (.tup (pcsD r)),some (.int salt),some (sD t' ds n')]):=fun t' ds n'=>by
  have hi:=fY ds
  refine cD ?_
  simp! [sD,hi]
 have call:∀(s:Int) (f5:tz2) (ok:Bool) (t':Str) (ds:List Int) (n':Nat),f5 [some S,some (.tup (pcsD r)),some (.int salt),some (sD ⟨#[]⟩ [] 0)]=some (.int s)->GS [S,.tup (pcsD r),.bl false,.int 0,sD ⟨#[]⟩ [] 0,.int s]=some (.bl ok,[S,.tup (pcsD r),.bl false,.int 0,sD t' ds n',.int s])->
   fIO [.im (aA 0),.im (aA 1),.im (fC (.bl false)),.im (fC (.int 0)),.io 3,.im f5] GS [some S,some (.tup (pcsD r)),some (.int salt),some (sD ⟨#[]⟩ [] 0)]=some (.bl ok,[some S,some (.tup (pcsD r)),some (.int salt),some (sD t' ds n')]):=fun s f5 ok t' ds n' h5 q=>by
  generalize sD ⟨#[]⟩ [] 0=s0 at h5 q|-
  generalize sD t' ds n'=s1 at q|-
  simp [fIO,cK,aQ,aA,fC,hS,pi,D.imm,D.imms,h5,q,hU]
 obtain⟨ok,t',ds,n',q,e1,_,e6⟩:=run salt h0 h1
 have s0:∀x,aT 3 (aH (cT (aB (fC (.str "")) (aB (cT aE) (aB (fC (.int 0)) aE))))) [some S,some (.tup (pcsD r)),some (.int salt),x]=some (.nx,[some S,some (.tup (pcsD r)),some (.int salt),some (sD ⟨#[]⟩ [] 0)]):=fun x=>by rw [st0];rfl
 have c1:fTE (fIO [.im (aA 0),.im (aA 1),.im (fC (.bl false)),.im (fC (.int 0)),.io 3,.im (aA 2)] GS) [some S,some (.tup (pcsD r)),some (.int salt),some (sD ⟨#[]⟩ [] 0)]=some (ok,[some S,some (.tup (pcsD r)),some (.int salt),some (sD t' ds n')]):=by
  unfold fTE
  rw [call salt (aA 2) ok t' ds n' rfl q];rfl
 cases ok with
 |true=>exact⟨ds,t',gM rfl ((aM (s0 _)).trans (dH ((xg8 c1).trans (fin t' ds n')))),e1 rfl,e6⟩
 | false=>
  obtain⟨ok2,t2,d2,n2,q2,f1,f2,f6⟩:=run 0 (Int.le_refl _) (by decide)
  have hok:=f2 rfl
  subst hok
  have c2:cM (fIO [.im (aA 0),.im (aA 1),.im (fC (.bl false)),.im (fC (.int 0)),.io 3,.im (fC (.int 0))] GS) [some S,some (.tup (pcsD r)),some (.int salt),some (sD ⟨#[]⟩ [] 0)]=some (.nx,[some S,some (.tup (pcsD r)),some (.int salt),some (sD t2 d2 n2)]):=by
   unfold cM
   rw [call 0 (fC (.int 0)) true t2 d2 n2 rfl q2];rfl
  exact⟨d2,t2,gM rfl ((aM (s0 _)).trans ((aM ((fU c1).trans rfl)).trans ((aM (s0 _)).trans ((aM c2).trans (fin t2 d2 n2))))),f1 rfl,f6⟩
end
theorem nA:ixN 4 3=some 3:=by decide
theorem nB:ixN 4 2=some 2:=by decide
theorem iD{α:Type}(a b c d:α):atI [a,b,c,d] 3=some d:=rfl
abbrev zf7:tz7:=gE 1 5 (bQ [true]) pS
theorem we2{N:List D}{a b c d:D}:mD [1,2,3,4] (dI 0 bU aE nF) [some (.lst true (N++[.lst true [a,b,c,d]])),none,none,none,none,none]=some (.nx,[some (.lst true N),some a,some b,some c,some d,none]):=by
 simp! [nF,lN,iG,fSl,mD,vV,nG,nA,nB,iD]
theorem kd1{p:PSt}{k w:String}{b:Bool}(hp:p[1]? =some (some (.str k)))(h:decide (k=w)=b):fB (f2 dEq (aA 1) (fC (.str w))) p=some b:=by
 refine dQ (aP (mK hp) rfl ?_)
 show some (D.bl (decide ((k:Str)=(w:Str))))=_
 rw [<-h]
 congr 2
 exact decide_eq_decide.mpr (by rw [fN])
theorem xd0{f g:Gm}{fs:List Gm}(hk:1<=f.kd/\f.kd<=3)(hf:f.kd≠3->f.full=[])(hfl:f.full.length<=3)(hg:g.parts.length<=900):zf7 [.lst true (bX (f::g::fs))]=some (.non,[.lst true (bX (jV g (fV f)::fs))]):=by
 obtain⟨kd,n,full,parts⟩:=f
 have hfl':full.length<=3:=hfl
 have hz:(pcsD g.parts).length<sizeLine:=by rw [vG];exact sz1 (by omega)
 have s2:∀K x0,aT 3 (aH (f2 bP (aA 3) (cT (aB (aJ gB (aB (aA 4) aE)) aE)))) [x0,some K,some (.int n),some (.lst true (rowsD full)),some (.lst true (pcsD parts)),none]=some (.nx,[x0,some K,some (.int n),some (.lst true (rowsD (full++[parts]))),some (.lst true (pcsD parts)),none]):=fun K x0=>by
  refine bJ (aP rfl (fG (aD (aY (aD rfl rfl) (if_pos (pcs_imm parts))) rfl) (Nat.le_of_ble_eq_true rfl)) ?_)
  rw [xI]
  refine ys6 (rows_imm full) (rows_imm [parts]) ?_
  rw [jB];show full.length+1<=1000;omega
 have s4:∀K x0 x4 (r0:List Pc) rs,aT 5 (aH (bN (aB (fC (.str "group")) (aB (aQ (f2 dIx (aA 3) (fC (.int 0)))) aE)))) [x0,some K,some (.int n),some (.lst true (rowsD (r0::rs))),x4,none]=some (.nx,[x0,some K,some (.int n),some (.lst true (rowsD (r0::rs))),x4,some (pcD (.group r0))]):=fun K x0 x4 r0 rs=>
  bJ (dW (aD rfl (aD (bL (aP rfl rfl (kG _ _)) (pcs_imm r0)) rfl)) (xH (.group r0)) (Nat.le_of_ble_eq_true rfl))
 have s7:∀(pc:Pc) K x3 x4,cM (dI 0 (eU 0 (eU 0 bU (fH (fC (.int 1)))) (fC (.int 3))) (aB (aQ (aA 5)) aE) cW) [some (.lst true (bX fs++[gmD g])),K,some (.int n),x3,x4,some (pcD pc)]=some (.nx,[some (.lst true (bX fs++[gmD (jV g pc)])),K,some (.int n),x3,x4,some (pcD pc)]):=fun pc K x3 x4=>by
  have hi:=xH pc
  have e:gmD (jV g pc)= .lst true [.str (kdS g.kd),.int g.n,.lst true (rowsD g.full),.lst true (pcsD g.parts++[pcD pc])]:=by unfold gmD jV;rw [vF];rfl
  rw [e]
  unfold gmD
  generalize pcD pc=d at hi|-
  simp! [nF,lN,iG,fSl,mD,vV,nG,nA,nB,iD,hi,hz]
 suffices h:∃q1 q2 q3 q4 q5,pS [some (.lst true (bX (⟨kd,n,full,parts⟩::g::fs))),none,none,none,none,none]=some (.nx,[some (.lst true (bX fs++[gmD (jV g (fV ⟨kd,n,full,parts⟩))])),q1,q2,q3,q4,q5]) from by
  obtain⟨q1,q2,q3,q4,q5,hq⟩:=h
  unfold zf7 gE
  refine(if_pos rfl).trans ?_
  show(pS [some (.lst true (bX (⟨kd,n,full,parts⟩::g::fs))),none,none,none,none,none]).bind _=_
  rw [hq];rfl
 have s1:mD [1,2,3,4] (dI 0 bU aE nF) [some (.lst true (bX (⟨kd,n,full,parts⟩::g::fs))),none,none,none,none,none]=_:=we2
 have e:kd=1\/kd=2\/kd=3:=by have:1<=kd/\kd<=3:=hk;omega
 unfold pS
 rw [aM s1,aM (s2 _ _)]
 rcases e with rfl|rfl|rfl
 ·have e1:full=[]:=hf (by simp! [nF,lN,iG,fSl,mD,vV,nG,nA,nB,iD])
  subst e1
  exact⟨_,_,_,_,_,(aM (bA (jN (kd1 (k:="group") rfl (by decide))))).trans ((aM (s4 _ _ _ parts [])).trans ((aM (bA (kd1 (k:="group") rfl (by decide)))).trans ((aM (bA (kd1 (k:="group") rfl (by decide)))).trans (s7 _ _ _ _))))⟩
 ·have e1:full=[]:=hf (by simp! [nF,lN,iG,fSl,mD,vV,nG,nA,nB,iD])
  subst e1
  exact⟨_,_,_,_,_,(aM (bA (jN (kd1 (k:="hang") rfl (by decide))))).trans ((aM (s4 _ _ _ parts [])).trans ((aM ((bI (kd1 (k:="hang") rfl (by decide))).trans (bJ (dW (aD rfl (aD (bL rfl rfl) (aD (bL (d:= .tup (pcsD parts)) (aP rfl rfl (kG _ _)) (pcs_imm parts)) rfl))) (xH (.hang n parts)) (Nat.le_of_ble_eq_true rfl))))).trans ((aM (bA (kd1 (k:="hang") rfl (by decide)))).trans (s7 (.hang n parts) _ _ _))))⟩
 ·have fin:∀(r0:List Pc) (rs:List (List Pc)),oS ⟨3,n,full,parts⟩=r0::rs->∃q1 q2 q3 q4 q5,aU (aT 5 (aH (bN (aB (fC (.str "group")) (aB (aQ (f2 dIx (aA 3) (fC (.int 0)))) aE))))) (aU (fIf (aW (fB (f2 dEq (aA 1) (fC (.str "hang"))))) (aT 5 (aH (bN (aB (fC (.str "hang")) (aB (aQ (aA 2)) (aB (aQ (f2 dIx (aA 3) (fC (.int 0)))) aE)))))) bO)
    (aU (fIf (aW (fB (f2 dEq (aA 1) (fC (.str "either"))))) (aT 5 (aH (bN (aB (fC (.str "either")) (aB (aJ gB (aB (aA 3) aE)) aE))))) bO) (cM (dI 0 (eU 0 (eU 0 bU (fH (fC (.int 1)))) (fC (.int 3))) (aB (aQ (aA 5)) aE) cW)))) [some (.lst true (bX fs++[gmD g])),some (.str "either"),some (.int n),some (.lst true (rowsD (r0::rs))),some (.lst true (pcsD parts)),none]=some (.nx,[some (.lst true (bX fs++[gmD (jV g (fV ⟨3,n,full,parts⟩))])),q1,q2,q3,q4,q5]):=fun r0 rs he=>by
   have hs:fV ⟨3,n,full,parts⟩= .either (r0::rs):=by rw [<-he];rfl
   rw [hs]
   exact⟨_,_,_,_,_,(aM (s4 _ _ _ r0 rs)).trans ((aM (bA (kd1 rfl (by decide)))).trans ((aM ((bI (kd1 rfl (by decide))).trans (bJ (dW (aD rfl (aD (aY (aD rfl rfl) (if_pos (rows_imm (r0::rs)))) rfl)) (xH (.either (r0::rs))) (Nat.le_of_ble_eq_true rfl))))).trans (s7 (.either (r0::rs)) _ _ _)))⟩
  have lt:∀x0 x4,fB (f2 dLt (aJ cZ (aB (aA 3) aE)) (fC (.int 2))) [x0,some (.str "either"),some (.int n),some (.lst true (rowsD (full++[parts]))),x4,none]=some (decide ((((full++[parts]).length:Nat):Int)<2)):=fun x0 x4=>by
   refine dQ (aP (aY (aD rfl rfl) rfl) rfl ?_)
   show some (D.bl (decide ((((rowsD (full++[parts])).length:Nat):Int)<2)))=_
   rw [jB]
  cases full with
  | nil=>
   have s3:∀x0 x4,fIf (aW (dN (fB (f2 dEq (aA 1) (fC (.str "either")))) (fB (f2 dLt (aJ cZ (aB (aA 3) aE)) (fC (.int 2)))))) (aT 3 (aH (f2 bP (aA 3) (cT (aB (bN (aB (bN (aB (fC (.str "word")) (aB (fC (.str "or")) aE))) aE)) aE))))) bO [x0,some (.str "either"),some (.int n),some (.lst true (rowsD ([]++[parts]))),x4,none]=some (.nx,[x0,some (.str "either"),some (.int n),some (.lst true (rowsD [parts,tL])),x4,none]):=fun x0 x4=>
    (bI (iX (kd1 rfl (by decide)) (lt _ _))).trans (bJ (aP rfl (fG (aD (dW (aD (dW (aD rfl (aD rfl rfl)) rfl (Nat.le_of_ble_eq_true rfl)) rfl) rfl (Nat.le_of_ble_eq_true rfl)) rfl) (Nat.le_of_ble_eq_true rfl)) (ys6 (rows_imm [parts]) (rows_imm [tL]) (Nat.le_of_ble_eq_true rfl))))
   show ∃q1 q2 q3 q4 q5,aU _ _ [some (.lst true (bX fs++[gmD g])),some (.str "either"),some (.int n),some (.lst true (rowsD ([]++[parts]))),some (.lst true (pcsD parts)),none]=_
   rw [aM (s3 _ _)]
   exact fin parts [tL] rfl
  |cons r rs=>
   have lt':=lt (some (.lst true (bX fs++[gmD g]))) (some (.lst true (pcsD parts)))
   rw [decide_eq_false (by simp;omega)] at lt'
   show ∃q1 q2 q3 q4 q5,aU _ _ [some (.lst true (bX fs++[gmD g])),some (.str "either"),some (.int n),some (.lst true (rowsD (r::rs++[parts]))),some (.lst true (pcsD parts)),none]=_
   rw [aM (bA (iX (kd1 rfl (by decide)) lt'))]
   exact fin r (rs++[parts]) rfl
def ifR(GM:tz6)(GS:tz7)(GL:tz6):tz1:=
 (fIf (aW (dN (fB (f2 dLt (aA 7) (fC (.int 4)))) (fB (f2 dLe (aJ cZ (aB (aA 4) aE)) (aA 3)))))
  (aU (aT 9 (aH (f2 dIx (cT (fKs [.str "group",.str "group",.str "hang",.str "either"])) (aA 7))))
 (cM (dI 4 bU (aB (cT (aB (aQ (aA 9)) (aB (f2 dIx (cT (aB (fC (.int 1)) (aB (fC (.int 2)) (aB (fC (.int 4)) (aB (f2 dG (f2 fP (aA 6) (fC (.int 13))) (fC (.int 13))) aE))))) (f2 dG (f2 fP (aA 6) (fC (.int 169))) (fC (.int 4)))) (aB (cT aE) (aB (cT aE) aE))))) aE) cW)))
  (fIf (aW (dN (fB (f2 dEq (aA 7) (fC (.int 4)))) (fB (f2 dGt (aJ cZ (aB (aA 4) aE)) (fC (.int 1))))))
  (cM (fIO [.io 4] GS))
  (fIf (aW (dN (fB (f2 dLt (aA 7) (fC (.int 7)))) (dN (fB (f2 dEq (aA 8) (fC (.str "either")))) (fB (f2 dLt (aJ cZ (aB (f2 dIx (f2 dIx (aA 4) (fH (fC (.int 1)))) (fC (.int 2))) aE)) (fC (.int 3)))))))
  (aU (cM (dI 4 (eU 4 (eU 4 bU (fH (fC (.int 1)))) (fC (.int 2))) (aB (aJ gB (aB (f2 dIx (f2 dIx (aA 4) (fH (fC (.int 1)))) (fC (.int 3))) aE)) aE) cW))
 (fL 4 (eU 4 bU (fH (fC (.int 1)))) (fC (.int 3)) (cT aE)))
  (cM (dI 4 (eU 4 (eU 4 bU (fH (fC (.int 1)))) (fC (.int 3))) (aB (aJ GL (aB (aJ GM (aB (aA 0) (aB (aA 5) (aB (fC (.int 32)) aE)))) aE)) aE) cW)))))
def wE(GM:tz6)(GS:tz7)(GL:tz6):tz1:=
   (aU (aT 6 (aH (aJ GM (aB (aA 0) (aB (aA 5) (aB (fC (.int 31)) aE))))))
 (aU (aT 7 (aH (f2 dG (aA 6) (fC (.int 13)))))
 (aU (aT 8 (aH (aQ (f2 dIx (f2 dIx (aA 4) (fH (fC (.int 1)))) (fC (.int 0))))))
 (ifR GM GS GL))))
section
variable{GM:tz6}{GS:tz7}{GL:tz6}{S:D}{x1 x2 x6 x7 x8 x9:Option D}{nest:Nat}{f:Gm}{fs:List Gm}{i m:Int}
theorem yv1(hm:GM [S,.int i,.int 31]=some (.int m)):wE GM GS GL [some S,x1,x2,some (.int nest),some (.lst true (bX (f::fs))),some (.int i),x6,x7,x8,x9]
  =ifR GM GS GL [some S,x1,x2,some (.int nest),some (.lst true (bX (f::fs))),some (.int i),some (.int m),some (.int (m % 13)),some (.str (kdS f.kd)),x9]:=by
 unfold wE
 refine(aM (bJ (aY rfl hm))).trans ?_
 refine(aM (bJ (d:= .int (m % 13)) (by simp! [nA,nB,iD]))).trans ?_
 exact aM (bJ (d:= .str (kdS f.kd)) (by simp! [nA,nB,iD,bX,gmD]))
theorem xv7(a k:Int)(ha:0<=a/\a<=12):∃n:Int,atI [D.int 1,.int 2,.int 4,.int a] (k % 4)=some (.int n)/\0<=n/\n<=12:=by
 have h0:=Int.emod_nonneg k (show(4:Int)≠0 by decide)
 have h1:=Int.emod_lt_of_pos k (show(0:Int)<4 by decide)
 obtain⟨d,hd,e⟩:=qY [D.int 1,.int 2,.int 4,.int a] (k % 4) h0 (by simpa using h1)
 simp only [List.mem_cons,List.not_mem_nil,or_false] at hd
 rcases hd with rfl|rfl|rfl|rfl
 ·exact⟨_,e,by decide,by decide⟩
 ·exact⟨_,e,by decide,by decide⟩
 ·exact⟨_,e,by decide,by decide⟩
 ·exact⟨_,e,ha⟩
theorem xo3(m:Int)(h0:0<=m % 13)(h:m % 13<4):∃kd:Nat,atI [D.str (Str.ofString "group"),.str (Str.ofString "group"),.str (Str.ofString "hang"),.str (Str.ofString "either")] (m % 13)=some (.str (kdS kd))/\1<=kd/\kd<=3:=by
 have hn:m % 13=0\/m % 13=1\/m % 13=2\/m % 13=3:=by omega
 rcases hn with e|e|e|e<;>rw [e]
 ·exact⟨1,rfl,by decide,by decide⟩
 ·exact⟨1,rfl,by decide,by decide⟩
 ·exact⟨2,rfl,by decide,by decide⟩
 ·exact⟨3,rfl,by decide,by decide⟩
theorem zd9{a b:Prop}[Decidable a][Decidable b](h:¬(a/\b)):(decide a&&decide b)=false:=by
 by_cases ha:a
 ·rw [decide_eq_false (fun hb=>h ⟨ha,hb⟩),Bool.and_false]
 ·rw [decide_eq_false ha,Bool.false_and]
theorem ye7{a b:Prop}[Decidable a][Decidable b](ha:a)(hb:b):(decide a&&decide b)=true:=by rw [decide_eq_true ha,decide_eq_true hb];rfl
theorem ze0{f g:tz4}{p:PSt}{a b:Bool}(h1:f p=some a)(h2:g p=some b):dN f g p=some (a&&b):=by
 cases a with
 |true=>exact iX h1 h2
 |false=>exact jN h1
theorem yk1{N:List D}{w:Int}{x0 x5 x6:Option D}:dN (fB (f2 dLt (aA 7) (fC (.int 4)))) (fB (f2 dLe (aJ cZ (aB (aA 4) aE)) (aA 3))) [x0,x1,x2,some (.int nest),some (.lst true N),x5,x6,some (.int w),x8,x9]=some (decide (w<4)&&decide ((N.length:Int)<=(nest:Int))):=
 ze0 (dQ (aP rfl rfl rfl)) (dQ (aP (aY (aD rfl rfl) rfl) rfl rfl))
theorem xh3{N:List D}{w:Int}{x0 x3 x5 x6:Option D}:dN (fB (f2 dEq (aA 7) (fC (.int 4)))) (fB (f2 dGt (aJ cZ (aB (aA 4) aE)) (fC (.int 1)))) [x0,x1,x2,x3,some (.lst true N),x5,x6,some (.int w),x8,x9]=some (decide (w=4)&&decide ((1:Int)<(N.length:Int))):=
 ze0 (dQ (aP rfl rfl rfl)) (dQ (aP (aY (aD rfl rfl) rfl) rfl rfl))
theorem ye8{p:PSt}{j:Nat}{M:List D}{d:D}(hp:p[j]? =some (some (.lst true (M++[d])))):f2 dIx (aA j) (fH (fC (.int 1))) p=some d:=aP (mK hp) rfl (show atI (M++[d]) (-1)=_ from L2.zr9 _ _)
theorem xh4{M R:List D}{w:Int}{k:String}{a b c:D}{x0 x3 x5 x6:Option D}:dN (fB (f2 dLt (aA 7) (fC (.int 7)))) (dN (fB (f2 dEq (aA 8) (fC (.str "either")))) (fB (f2 dLt (aJ cZ (aB (f2 dIx (f2 dIx (aA 4) (fH (fC (.int 1)))) (fC (.int 2))) aE)) (fC (.int 3))))) [x0,x1,x2,x3,some (.lst true (M++[.lst true [a,b,.lst true R,c]])),x5,x6,some (.int w),some (.str k),x9]=some (decide (w<7)&&(decide (k="either")&&decide ((R.length:Int)<3))):=by
 refine ze0 (dQ (aP rfl rfl rfl)) (ze0 (dQ (aP rfl rfl ?_)) (dQ (aP (aY (aD (aP (ye8 (j:=4) rfl) rfl (zu6 _ _ _ _)) rfl) rfl) rfl rfl)))
 show some (D.bl (decide ((k:Str)=(("either":String):Str))))=_
 congr 2
 exact decide_eq_decide.mpr (by rw [fN])
theorem yv2{p:PSt}{j:Nat}{M:List D}{k n:Nat}{l:List D}(hp:p[j]? =some (some (.lst true (M++[.lst true l]))))(hk:ixN l.length (k:Int)=some n):eU j (eU j bU (fH (fC (.int 1)))) (fC (.int (k:Int))) p=some [.ix M.length,.ix n]:=by
 have e1:ixN (M++[D.lst true l]).length (-1)=some M.length:=by rw [List.length_append];exact zU _
 have e2:(M++[D.lst true l])[M.length]? =some (.lst true l):=by simp! [nA,nB,iD]
 simp! [nA,nB,iD,hp,e1,e2,hk]
theorem xd1{α:Type}{h:D->Option (α×D)}{M l:List D}{n:Nat}{d d':D}{r:α}(hl:l[n]? =some d)(e:h d=some (r,d')):eP h (.lst true (M++[.lst true l])) [.ix M.length,.ix n]=some (r,.lst true (M++[.lst true (l.set n d')])):=by
 have e2:(M++[D.lst true l])[M.length]? =some (.lst true l):=by simp! [nA,nB,iD]
 show(((M++[D.lst true l])[M.length]?).bind _)=_
 rw [e2,Option.bind_some]
 show(((l[n]?).bind _).bind _)=_
 rw [hl,Option.bind_some]
 show(((h d).bind _).bind _)=_
 rw [e]
 show some (r,D.lst true ((M++[D.lst true l]).set M.length _))=_
 rw [zV]
theorem zw7{p:PSt}{j k n:Nat}{M l xs:List D}{fe:tz2}{y:D}(hp:p[j]? =some (some (.lst true (M++[.lst true l]))))(hk:ixN l.length (k:Int)=some n)(hl:l[n]? =some (.lst true xs))(h:fe p=some y)(hz:xs.length<sizeLine):cM (dI j (eU j (eU j bU (fH (fC (.int 1)))) (fC (.int (k:Int)))) (aB fe aE) cW) p=some (.nx,p.set j (some (.lst true (M++[.lst true (l.set n (.lst true (xs++[y])))])))):=by
 refine kH (d:= .non) ?_
 unfold dI
 rw [hp,Option.join_some,Option.bind_some,yv2 hp hk,Option.bind_some,aD h rfl,Option.bind_some,xd1 hl (show cW [y] (.lst true xs)=_ from if_pos hz)]
 rfl
theorem yk2{p:PSt}{j k n:Nat}{M l:List D}{fe:tz2}{y:D}(hp:p[j]? =some (some (.lst true (M++[.lst true l]))))(hk:ixN l.length (k:Int)=some n)(h:fe p=some y):fL j (eU j bU (fH (fC (.int 1)))) (fC (.int (k:Int))) fe p=some (.nx,p.set j (some (.lst true (M++[.lst true (l.set n y)])))):=by
 have e1:ixN (M++[D.lst true l]).length (-1)=some M.length:=by rw [List.length_append];exact zU _
 have e2:(M++[D.lst true l])[M.length]? =some (.lst true l):=by simp! [nA,nB,iD]
 have ep:eU j bU (fH (fC (.int 1))) p=some [.ix M.length]:=by simp! [nA,nB,iD,hp,e1]
 unfold fL
 rw [h,Option.bind_some,hp,Option.join_some,Option.bind_some,ep,Option.bind_some]
 show((eP (rX (.int (k:Int)) y) (.lst true (M++[.lst true l])) [.ix M.length]).bind _)=_
 have em:eP (rX (.int (k:Int)) y) (.lst true (M++[.lst true l])) [.ix M.length]=some ((),.lst true (M++[.lst true (l.set n y)])):=by
  show(((M++[D.lst true l])[M.length]?).bind _)=_
  rw [e2,Option.bind_some]
  show(((ixN l.length (k:Int)).bind _).bind _)=_
  rw [hk]
  show some ((),D.lst true ((M++[D.lst true l]).set M.length _))=_
  rw [zV]
 rw [em];rfl
theorem yv3(hw:m % 13<4)(hl:(f::fs).length<=nest)(hz:(f::fs).length<=900):∃kd n y9,ifR GM GS GL [some S,x1,x2,some (.int nest),some (.lst true (bX (f::fs))),some (.int i),some (.int m),some (.int (m % 13)),x8,x9]
  =some (.nx,[some S,x1,x2,some (.int nest),some (.lst true (bX (⟨kd,n,[],[]⟩::f::fs))),some (.int i),some (.int m),some (.int (m % 13)),x8,y9])/\(1<=kd/\kd<=3)/\0<=n/\n<=12:=by
 have h0:=Int.emod_nonneg m (show(13:Int)≠0 by decide)
 have d0:=Int.emod_nonneg (m/13) (show(13:Int)≠0 by decide)
 have d1:=Int.emod_lt_of_pos (m/13) (show(0:Int)<13 by decide)
 obtain⟨kd,q1,hk1,hk2⟩:=xo3 m h0 hw
 obtain⟨n,q2,hn1,hn2⟩:=xv7 (m/13 % 13) (m/169) ⟨d0,Int.le_of_lt_add_one d1⟩
 have hz':(bX (f::fs)).length<sizeLine:=by rw [oB];exact sz1 (by omega)
 have hl':((bX (f::fs)).length:Int)<=(nest:Int):=by rw [oB];exact Int.ofNat_le.mpr hl
 refine⟨kd,n,some (.str (kdS kd)),?_,⟨hk1,hk2⟩,hn1,hn2⟩
 have e:bX (⟨kd,n,[],[]⟩::f::fs)=bX (f::fs)++[.lst true [.str (kdS kd),.int n,.lst true [],.lst true []]]:=rfl
 rw [e]
 generalize bX (f::fs)=N at hz' hl'|-
 unfold ifR
 refine(bI (yk1.trans (by rw [ye7 hw hl']))).trans ((aM (bJ (aP (fG rfl (Nat.le_of_ble_eq_true rfl)) rfl q1))).trans ?_)
 refine kH (d:= .non) ?_
 unfold dI
 rw [aD (fG (aD (bL (d:= .str (kdS kd)) rfl rfl) (aD (aP (fG (aD rfl (aD rfl (aD rfl (aD (aP (aP rfl rfl ((mJ _ _).trans (if_pos (by decide)))) rfl ((gU _ _).trans (if_pos (by decide)))) rfl)))) (Nat.le_of_ble_eq_true rfl)) (aP (aP rfl rfl ((mJ _ _).trans (if_pos (by decide)))) rfl ((gU _ _).trans (if_pos (by decide)))) q2) (aD (fG rfl (Nat.le_of_ble_eq_true rfl)) (aD (fG rfl (Nat.le_of_ble_eq_true rfl)) rfl)))) (Nat.le_of_ble_eq_true rfl)) rfl]
 show((cW [.lst true [.str (kdS kd),.int n,.lst true [],.lst true []]] (.lst true N)).bind _)=_
 rw [show cW [.lst true [.str (kdS kd),.int n,.lst true [],.lst true []]] (.lst true N)=_ from if_pos hz']
 rfl
theorem yv4{g:Gm}(q:GS [.lst true (bX (f::g::fs))]=some (.non,[.lst true (bX (jV g (fV f)::fs))]))(hw:m % 13=4):
  ifR GM GS GL [some S,x1,x2,some (.int nest),some (.lst true (bX (f::g::fs))),some (.int i),some (.int m),some (.int (m % 13)),x8,x9]
  =some (.nx,[some S,x1,x2,some (.int nest),some (.lst true (bX (jV g (fV f)::fs))),some (.int i),some (.int m),some (.int (m % 13)),x8,x9]):=by
 have hl:(1:Int)<((bX (f::g::fs)).length:Int):=by rw [oB];simp;omega
 unfold ifR
 exact(fU (dF (yk1.trans (by rw [zd9 (fun z=>by omega)])))).trans ((bI (xh3.trans (by rw [ye7 hw hl]))).trans (kH (pD (mM rfl fO) q rfl)))
theorem ye9(hw:¬(m % 13<4/\(f::fs).length<=nest))(hw4:¬(m % 13=4/\fs≠[])){F1 F2 F3:tz1}:fIf (aW (dN (fB (f2 dLt (aA 7) (fC (.int 4)))) (fB (f2 dLe (aJ cZ (aB (aA 4) aE)) (aA 3))))) F1 (fIf (aW (dN (fB (f2 dEq (aA 7) (fC (.int 4)))) (fB (f2 dGt (aJ cZ (aB (aA 4) aE)) (fC (.int 1)))))) F2 F3) [some S,x1,x2,some (.int nest),some (.lst true (bX (f::fs))),some (.int i),some (.int m),some (.int (m % 13)),x8,x9]
  =F3 [some S,x1,x2,some (.int nest),some (.lst true (bX (f::fs))),some (.int i),some (.int m),some (.int (m % 13)),x8,x9]:=by
 have hl:(bX (f::fs)).length=(f::fs).length:=oB _
 have hn:¬(m % 13=4/\(1:Int)<((f::fs).length:Int)):=fun z=>hw4 ⟨z.1,fun e=>by rw [e] at z;exact absurd z.2 (Int.lt_irrefl 1)⟩
 exact(fU (dF (yk1.trans (by rw [hl,zd9 (fun z=>hw ⟨z.1,Int.ofNat_le.mp z.2⟩)])))).trans (fU (dF (xh3.trans (by rw [hl,zd9 hn]))))
theorem xo4(hw:¬(m % 13<4/\(f::fs).length<=nest))(hw4:¬(m % 13=4/\fs≠[]))(hw7:m % 13<7)(hk:f.kd=3)(hf:f.full.length<3):
  ifR GM GS GL [some S,x1,x2,some (.int nest),some (.lst true (bX (f::fs))),some (.int i),some (.int m),some (.int (m % 13)),some (.str (kdS f.kd)),x9]
  =some (.nx,[some S,x1,x2,some (.int nest),some (.lst true (bX ({f with full:=f.full++[f.parts],parts:=[]}::fs))),some (.int i),some (.int m),some (.int (m % 13)),some (.str (kdS f.kd)),x9]):=by
 unfold ifR
 refine(ye9 hw hw4).trans ?_
 obtain⟨kd,n,full,parts⟩:=f
 have hk':kd=3:=hk
 subst hk'
 have hz:(rowsD full).length<sizeLine:=by rw [jB];exact sz1 (by have:full.length<3:=hf;omega)
 have hf':((rowsD full).length:Int)<3:=by rw [jB];exact Int.ofNat_lt.mpr hf
 have er:rowsD (full++[parts])=rowsD full++[.tup (pcsD parts)]:=by rw [xI];rfl
 have b3:(decide (m % 13<7)&&(decide (kdS 3="either")&&decide (((rowsD full).length:Int)<3)))=true:=by rw [decide_eq_true hw7,decide_eq_true hf'];rfl
 have s1:=zw7 (p:=[some S,x1,x2,some (.int nest),some (.lst true (bX (⟨3,n,full,parts⟩::fs))),some (.int i),some (.int m),some (.int (m % 13)),some (.str (kdS 3)),x9]) (j:=4) (k:=2) (n:=2) (M:=bX fs) (fe:=aJ gB (aB (f2 dIx (f2 dIx (aA 4) (fH (fC (.int 1)))) (fC (.int 3))) aE)) rfl rfl rfl (aY (aD (aP (ye8 (M:=bX fs) rfl) rfl (we1 _ _ _ _)) rfl) (if_pos (pcs_imm parts))) hz
 rw [<-er] at s1
 have s2:=yk2 (p:=[some S,x1,x2,some (.int nest),some (.lst true (bX fs++[.lst true [.str (kdS 3),.int n,.lst true (rowsD (full++[parts])),.lst true (pcsD parts)]])),some (.int i),some (.int m),some (.int (m % 13)),some (.str (kdS 3)),x9]) (j:=4) (k:=3) (n:=3) (M:=bX fs) (fe:=cT aE) (y:= .lst true []) rfl rfl (fG rfl (Nat.le_of_ble_eq_true rfl))
 exact(bI (xh4.trans (congrArg some b3))).trans ((aM s1).trans s2)
theorem yv5{l:Leaf}{m2:Int}(hm2:GM [S,.int i,.int 32]=some (.int m2))(hL:GL [.int m2]=some (aZ l))(hz:f.parts.length<=900)
  (hw:¬(m % 13<4/\(f::fs).length<=nest)) (hw4:¬(m % 13=4/\fs≠[])) (h3:¬(m % 13<7/\f.kd=3/\f.full.length<3)) (hkd:f.kd<=3):
  ifR GM GS GL [some S,x1,x2,some (.int nest),some (.lst true (bX (f::fs))),some (.int i),some (.int m),some (.int (m % 13)),some (.str (kdS f.kd)),x9]
  =some (.nx,[some S,x1,x2,some (.int nest),some (.lst true (bX (jV f (.leaf l)::fs))),some (.int i),some (.int m),some (.int (m % 13)),some (.str (kdS f.kd)),x9]):=by
 have hz':(pcsD f.parts).length<sizeLine:=by rw [vG];exact sz1 (by omega)
 have ep:pcsD (f.parts++[.leaf l])=pcsD f.parts++[aZ l]:=by rw [vF];rfl
 have b3:(decide (m % 13<7)&&(decide (kdS f.kd="either")&&decide (((rowsD f.full).length:Int)<3)))=false:=by
  by_cases a1:m % 13<7
  ·rw [zd9,Bool.and_false]
   intro ⟨z1,z2⟩
   rw [jB] at z2
   have hk:f.kd=0\/f.kd=1\/f.kd=2\/f.kd=3:=by omega
   rcases hk with e|e|e|e
   ·rw [e] at z1;exact absurd z1 (by decide)
   ·rw [e] at z1;exact absurd z1 (by decide)
   ·rw [e] at z1;exact absurd z1 (by decide)
   ·exact h3 ⟨a1,e,Int.ofNat_lt.mp z2⟩
  ·rw [decide_eq_false a1,Bool.false_and]
 unfold ifR
 refine(ye9 hw hw4).trans ((fU (dF (xh4.trans (by rw [b3])))).trans ?_)
 have e:bX (jV f (.leaf l)::fs)=bX fs++[.lst true [.str (kdS f.kd),.int f.n,.lst true (rowsD f.full),.lst true (pcsD f.parts++[aZ l])]]:=by rw [<-ep];rfl
 rw [e]
 have s1:=zw7 (p:=[some S,x1,x2,some (.int nest),some (.lst true (bX (f::fs))),some (.int i),some (.int m),some (.int (m % 13)),some (.str (kdS f.kd)),x9]) (j:=4) (k:=3) (n:=3) (M:=bX fs) (fe:=aJ GL (aB (aJ GM (aB (aA 0) (aB (aA 5) (aB (fC (.int 32)) aE)))) aE)) rfl rfl rfl (aY (aD (aY (aD rfl (aD rfl (aD rfl rfl))) hm2) rfl) hL) hz'
 exact s1
end
section
variable{GM:tz6}{GS:tz7}{GL:tz6}{S:D}{x1 x2 x6 x7 x8 x9:Option D}{nest k:Nat}{fs:List Gm}{i:Int}
theorem yk3{f:Gm}{fs:List Gm}(h:zz1 (f::fs)):f.kd<=3:=by
 cases fs with
 |nil=>have:f.kd=0:=h;omega
 |cons g fs=>exact h.1.2
theorem xo5(hS:∀(f g:Gm) (fs:List Gm),(1<=f.kd/\f.kd<=3)->(f.kd≠3->f.full=[])->f.full.length<=3->g.parts.length<=900->GS [.lst true (bX (f::g::fs))]=some (.non,[.lst true (bX (jV g (fV f)::fs))]))
  (hL:∀m,0<=m->∃l,GL [.int m]=some (aZ l)/\eE l) (hM:∀s:Int,s=31\/s=32->∃m,GM [S,.int i,.int s]=some (.int m)/\0<=m) (h:GInv nest k fs) (hk:4*k+4<=800) (hn:nest<=100):
  ∃fs' y6 y7 y8 y9,wE GM GS GL [some S,x1,x2,some (.int nest),some (.lst true (bX fs)),some (.int i),x6,x7,x8,x9]=some (.nx,[some S,x1,x2,some (.int nest),some (.lst true (bX fs')),some (.int i),y6,y7,y8,y9])/\GInv nest (k+1) fs':=by
 obtain⟨m,hm,hm0⟩:=hM 31 (.inl rfl)
 obtain⟨m2,hm2,hm20⟩:=hM 32 (.inr rfl)
 have hln:=h.len
 cases fs with
 |nil=>exact h.kinds.elim
 | cons f fs=>
  have hd:=yv1 (GS:=GS) (GL:=GL) (x1:=x1) (x2:=x2) (x6:=x6) (x7:=x7) (x8:=x8) (x9:=x9) (nest:=nest) (f:=f) (fs:=fs) hm
  by_cases c1:m % 13<4/\(f::fs).length<=nest
  ·obtain⟨kd,n,y9,q,h1,h2⟩:=yv3 (GM:=GM) (GS:=GS) (GL:=GL) (S:=S) (x1:=x1) (x2:=x2) (x8:=some (.str (kdS f.kd))) (x9:=x9) (i:=i) c1.1 c1.2 (by omega)
   exact⟨_,_,_,_,y9,hd.trans q,h.opener h1 h2 c1.2⟩
  ·by_cases c2:m % 13=4/\fs≠[]
   ·cases fs with
    |nil=>exact absurd rfl c2.2
    |cons g fs=>
     have hf:=h.each f List.mem_cons_self
     have hg:=h.parts (f:=g) (List.mem_cons_of_mem _ List.mem_cons_self)
     have q:=yv4 (GM:=GM) (GL:=GL) (S:=S) (x1:=x1) (x2:=x2) (x8:=some (.str (kdS f.kd))) (x9:=x9) (nest:=nest) (i:=i) (hS f g fs h.kinds.1 hf.2.2.2.1 hf.2.2.1 (by omega)) c2.1
     exact⟨_,_,_,_,_,hd.trans q,h.shut.more (by omega)⟩
   ·by_cases c3:m % 13<7/\f.kd=3/\f.full.length<3
    ·have q:=xo4 (GM:=GM) (GS:=GS) (GL:=GL) (S:=S) (x1:=x1) (x2:=x2) (x9:=x9) (i:=i) c1 c2 c3.1 c3.2.1 c3.2.2
     exact⟨_,_,_,_,_,hd.trans q,h.orr c3.2.2 c3.2.1⟩
    ·obtain⟨l,hl,hlk⟩:=hL m2 hm20
     have q:=yv5 (GM:=GM) (GS:=GS) (GL:=GL) (S:=S) (x1:=x1) (x2:=x2) (x9:=x9) (i:=i) hm2 hl (by have:=h.parts (f:=f) List.mem_cons_self;omega) c1 c2 c3 (yk3 h.kinds)
     exact⟨_,_,_,_,_,hd.trans q,h.leaf hlk⟩
theorem yf0(hS:∀(f g:Gm) (fs:List Gm),(1<=f.kd/\f.kd<=3)->(f.kd≠3->f.full=[])->f.full.length<=3->g.parts.length<=900->GS [.lst true (bX (f::g::fs))]=some (.non,[.lst true (bX (jV g (fV f)::fs))]))
  (hL:∀m,0<=m->∃l,GL [.int m]=some (aZ l)/\eE l) (hn:nest<=100):∀(l:List Int) (fs:List Gm) (k:Nat) (x5 x6 x7 x8 x9:Option D),(∀j∈l,∀s:Int,s=31\/s=32->∃m,GM [S,.int j,.int s]=some (.int m)/\0<=m)->GInv nest k fs->4*(k+l.length)+4<=800->
  ∃fs' y5 y6 y7 y8 y9,cX 5 (wE GM GS GL) (l.map .int) [some S,x1,x2,some (.int nest),some (.lst true (bX fs)),x5,x6,x7,x8,x9]=some (.nx,[some S,x1,x2,some (.int nest),some (.lst true (bX fs')),y5,y6,y7,y8,y9])/\GInv nest (k+l.length) fs'
 |[],fs,k,x5,x6,x7,x8,x9,_,h,_=>⟨fs,x5,x6,x7,x8,x9,by simp! [iD,cX],h⟩
 |j::l,fs,k,x5,x6,x7,x8,x9,hM,h,hk=>by
  rw [List.length_cons] at hk
  obtain⟨fs1,y6,y7,y8,y9,q,h1⟩:=xo5 (x1:=x1) (x2:=x2) (x6:=x6) (x7:=x7) (x8:=x8) (x9:=x9) hS hL (hM j List.mem_cons_self) h (by omega) hn
  obtain⟨fs2,z5,z6,z7,z8,z9,q2,h2⟩:=yf0 hS hL hn l fs1 (k+1) (some (.int j)) y6 y7 y8 y9 (fun i hi=>hM i (List.mem_cons_of_mem _ hi)) h1 (by omega)
  refine⟨fs2,z5,z6,z7,z8,z9,?_,(show k+1+l.length=k+(j::l).length by rw [List.length_cons];omega)▸h2⟩
  rw [<-q2]
  show(wE GM GS GL [some S,x1,x2,some (.int nest),some (.lst true (bX fs)),some (.int j),x6,x7,x8,x9]).bind _=_
  rw [q];rfl
def zf8(GS:tz7)(n:Nat):tz1:=kL (aW (fB (f2 dGt (aJ cZ (aB (aA 4) aE)) (fC (.int 1))))) (cM (fIO [.io 4] GS)) n
theorem yf1{x0 x3 x5:Option D}(hS:∀(f g:Gm) (fs:List Gm),(1<=f.kd/\f.kd<=3)->(f.kd≠3->f.full=[])->f.full.length<=3->g.parts.length<=900->GS [.lst true (bX (f::g::fs))]=some (.non,[.lst true (bX (jV g (fV f)::fs))]))(hk:4*k+4<=800):
  ∀(n:Nat) (fs:List Gm),fs.length<=n->GInv nest k fs->∃f,zf8 GS n [x0,x1,x2,x3,some (.lst true (bX fs)),x5,x6,x7,x8,x9]=some (.nx,[x0,x1,x2,x3,some (.lst true (bX [f])),x5,x6,x7,x8,x9])/\GInv nest k [f]
 |0,[],_,h=>h.kinds.elim
 |0,_::_,hl,_=>by simp! [iD] at hl
 |n+1,[],_,h=>h.kinds.elim
 |n+1,[f],_,h=>by
  refine⟨f,?_,h⟩
  unfold zf8
  rw [kL]
  have hl:(bX [f]).length=1:=rfl
  generalize bX [f]=N at hl|-
  simp! [iD,hl]
 |n+1,f::g::fs,hl,h=>by
  have hf:=h.each f List.mem_cons_self
  have hg:=h.parts (f:=g) (List.mem_cons_of_mem _ List.mem_cons_self)
  have q:=hS f g fs h.kinds.1 hf.2.2.2.1 hf.2.2.1 (by omega)
  obtain⟨f',w,h'⟩:=yf1 (x0:=x0) (x3:=x3) (x5:=x5) hS hk n (jV g (fV f)::fs) (by simp! [iD] at hl|-;omega) h.shut
  refine⟨f',?_,h'⟩
  rw [<-w]
  have hl2:(bX (f::g::fs)).length=fs.length+1+1:=by rw [oB];rfl
  have hpos:(1:Int)<((fs.length:Int)+1+1):=by omega
  show kL _ _ (n+1) _=_
  rw [kL]
  generalize bX (f::g::fs)=N at q hl2|-
  generalize bX (jV g (fV f)::fs)=M at q|-
  simp! [iD,hl2,hpos,q,zf8]
def wh5(n:Nat)(GM:tz6)(GS:tz7)(GL:tz6):tz1:=
 aU (aT 4 (aH (cT (aB (cT (aB (fC (.str "top")) (aB (fC (.int 0)) (aB (cT aE) (aB (cT aE) aE))))) aE)))) (aU (fJ 5 (qQ (aB (aA 1) (aB (f2 bP (aA 1) (aA 2)) aE))) (wE GM GS GL)) (aU (zf8 GS n) (cA (aH (aJ gB (aB (f2 dIx (f2 dIx (aA 4) (fC (.int 0))) (fC (.int 3))) aE))))))
structure RowOk(nest w:Nat)(r:List Pc):Prop where
 ok:okR r
 dep:depR r<=nest
 len:(toksR r).length<=w
theorem wb2{a many n:Nat}(hS:∀(f g:Gm) (fs:List Gm),(1<=f.kd/\f.kd<=3)->(f.kd≠3->f.full=[])->f.full.length<=3->g.parts.length<=900->GS [.lst true (bX (f::g::fs))]=some (.non,[.lst true (bX (jV g (fV f)::fs))]))
  (hL:∀m,0<=m->∃l,GL [.int m]=some (aZ l)/\eE l) (hM:∀j s:Int,(a:Int)<=j/\j<a+many->s=31\/s=32->∃m,GM [S,.int j,.int s]=some (.int m)/\0<=m) (hn:nest<=100) (hmany:many<=90) (ha:a<=1000) (hnn:nest<n):
  ∃r,gP 4 6 (wh5 n GM GS GL) [S,.int a,.int many,.int nest]=some (.tup (pcsD r))/\RowOk nest (4*many) r:=by
 have i0:GInv nest 0 [⟨0,0,[],[]⟩]:=⟨by simp! [iD],by decide,fun f hf=>by rw [List.mem_singleton.mp hf];exact⟨trivial,trivial,Nat.zero_le _,fun _=>rfl,Int.le_refl _,by decide⟩,rfl,⟨Nat.zero_le _,Nat.zero_le _,trivial⟩⟩
 obtain⟨fs1,y5,y6,y7,y8,y9,q,h1⟩:=yf0 (GM:=GM) (GS:=GS) (GL:=GL) (S:=S) (x1:=some (.int a)) (x2:=some (.int many)) hS hL hn ((List.range many).map fun(k:Nat)=>(a:Int)+(k:Int)) [⟨0,0,[],[]⟩] 0 none none none none none
  (fun j hj s hs=>by obtain⟨k,hk,rfl⟩:=List.mem_map.mp hj;have:=List.mem_range.mp hk;exact hM _ s (by omega) hs) i0 (by simp;omega)
 rw [<-ys5] at q
 rw [List.length_map,List.length_range,Nat.zero_add] at h1
 have hln:=h1.len
 obtain⟨f,w,h2⟩:=yf1 (GS:=GS) (x0:=some S) (x1:=some (.int a)) (x2:=some (.int many)) (x3:=some (.int nest)) (x5:=y5) (x6:=y6) (x7:=y7) (x8:=y8) (x9:=y9) hS (by omega) n fs1 (by omega) h1
 have hf:=h2.each f List.mem_cons_self
 have hd:=h2.deep.1
 have hwt:wF f+0<=4*many+4:=h2.wt
 refine⟨f.parts,?_,hf.2.1,by simpa using hd,by unfold wF at hwt;omega⟩
 have e:((a:Int)+(many:Int)-(a:Int)).toNat=many:=by omega
 have s0:aT 4 (aH (cT (aB (cT (aB (fC (.str "top")) (aB (fC (.int 0)) (aB (cT aE) (aB (cT aE) aE))))) aE))) [some S,some (.int a),some (.int many),some (.int nest),none,none,none,none,none,none]=some (.nx,[some S,some (.int a),some (.int many),some (.int nest),some (.lst true (bX [⟨0,0,[],[]⟩])),none,none,none,none,none]):=bJ rfl
 have s1:fJ 5 (qQ (aB (aA 1) (aB (f2 bP (aA 1) (aA 2)) aE))) (wE GM GS GL) [some S,some (.int a),some (.int many),some (.int nest),some (.lst true (bX [⟨0,0,[],[]⟩])),none,none,none,none,none]=some (.nx,[some S,some (.int a),some (.int many),some (.int nest),some (.lst true (bX fs1)),y5,y6,y7,y8,y9]):=by
  have e1:aB (aA 1) (aB (f2 bP (aA 1) (aA 2)) aE) [some S,some (.int a),some (.int many),some (.int nest),some (.lst true (bX [⟨0,0,[],[]⟩])),none,none,none,none,none]=some [.int a,.int ((a:Int)+(many:Int))]:=rfl
  unfold fJ qQ
  rw [e1,Option.bind_some,xn2 (by omega) (by omega) (by omega) (by omega),e]
  exact q
 have s3:aJ gB (aB (f2 dIx (f2 dIx (aA 4) (fC (.int 0))) (fC (.int 3))) aE) [some S,some (.int a),some (.int many),some (.int nest),some (.lst true (bX [f])),y5,y6,y7,y8,y9]=some (.tup (pcsD f.parts)):=by
  show aJ gB (aB (f2 dIx (f2 dIx (aA 4) (fC (.int 0))) (fC (.int 3))) aE) [some S,some (.int a),some (.int many),some (.int nest),some (.lst true [.lst true [.str (kdS f.kd),.int f.n,.lst true (rowsD f.full),.lst true (pcsD f.parts)]]),y5,y6,y7,y8,y9]=_
  simp! [iD,pcs_imm]
 have z:=(aM s0).trans ((aM s1).trans ((aM w).trans (cD s3)))
 exact gM rfl z
end
abbrev xf7(GM GL:tz6):tz6:=gP 4 6 (zy7 GM zf7 GL)
theorem xv8{GM GL:tz6}{S:D}{nest a many:Nat}(hL:∀m,0<=m->∃l,GL [.int m]=some (aZ l)/\eE l)(hM:∀j s:Int,(a:Int)<=j/\j<a+many->s=31\/s=32->∃m,GM [S,.int j,.int s]=some (.int m)/\0<=m)(hn:nest<=100)(hmany:many<=90)(ha:a<=1000):
  ∃r,xf7 GM GL [S,.int a,.int many,.int nest]=some (.tup (pcsD r))/\RowOk nest (4*many) r:=by
 obtain⟨r,h1,h2⟩:=wb2 (n:=400) (GS:=zf7) (fun f g fs h1 h2 h3 h4=>xd0 h1 h2 h3 h4) hL hM hn hmany ha (Nat.lt_of_le_of_lt hn (by decide))
 exact⟨r,h1,h2⟩
theorem zw8(m st:Int)(hs0:0<=st)(hs1:st<93):∀(l:List Int) (w:Str) (x0 x2 x5:Option D),(∀j∈l,0<=j/\j<100)->w.length+l.length<=100->w.cps.toList.all yS=true->
  ∃w' x5',cX 5 (aT 4 (aH (f2 bP (aA 4) (f2 dIx (aA 1) (f2 dG (f2 bP (f2 fP (aA 0) (fC (.int 12))) (f2 gA (aA 5) (aA 3))) (fC (.int 93))))))) (l.map .int) [some (.int m),some (.str sg),x2,some (.int st),some (.str w),x5]
   =some (.nx,[some (.int m),some (.str sg),x2,some (.int st),some (.str w'),x5'])/\w'.length=w.length+l.length/\w'.cps.toList.all yS=true
 |[],w,x0,x2,x5,_,_,hw=>⟨w,x5,by simp! [zp8,zp9,yP,nF,ze8,fJ,lN,iG,fSl,zp7,dIn,inB,kX,D.flat,D.flats,inV,eqV,mD,vV,nG,lO,dSl,gA,nD,kZ,qQ,sU,sV,oO,vT,cX],rfl,hw⟩
 |j::l,w,x0,x2,x5,hj,hl,hw=>by
  rw [List.length_cons] at hl
  have hj0:=hj j List.mem_cons_self
  obtain⟨c,hc,hg⟩:=wa7 ((m/12+j*st) % 93) (Int.emod_nonneg _ (by decide)) (Int.emod_lt_of_pos _ (by decide))
  have hw1:(w++(⟨#[c]⟩:Str)).length=w.length+1:=by rw [dO];rfl
  obtain⟨w',x5',q1,q2,q3⟩:=zw8 m st hs0 hs1 l (w++⟨#[c]⟩) x0 x2 (some (.int j)) (fun i hi=>hj i (List.mem_cons_of_mem _ hi)) (by rw [hw1];omega) (by rw [cC,List.all_append,hw];simp! [zp8,zp9,yP,nF,ze8,fJ,lN,iG,fSl,zp7,dIn,inB,kX,D.flat,D.flats,inV,eqV,mD,vV,nG,lO,dSl,gA,nD,kZ,qQ,sU,sV,oO,vT,hg])
  refine⟨w',x5',?_,by rw [q2,hw1,List.length_cons];omega,q3⟩
  rw [<-q1]
  have hz:w.length+(⟨#[c]⟩:Str).length<=sizeLine:=sz (by show w.length+1<=1000;omega)
  have b1:(-18446744073709551616<j/\j<18446744073709551616):=by omega
  simp! [zp8,zp9,yP,nF,ze8,fJ,lN,iG,fSl,zp7,dIn,inB,kX,D.flat,D.flats,inV,eqV,mD,vV,nG,lO,dSl,gA,nD,kZ,qQ,sU,sV,oO,vT,cX,hc,xm9,hz,b1]
abbrev yl8:tz6:=gP 1 5 xR
theorem xo6{m:Int}(hm:0<=m):∃z,yl8 [.int m]=some (.str z)/\zf0 z:=by
 obtain⟨s,hs,h1,h2⟩:=xn0 m
 obtain⟨w,x5,q1,q2,q3⟩:=zw8 m (m/9000 % 93) (Int.emod_nonneg _ (by decide)) (Int.emod_lt_of_pos _ (by decide)) ((List.range s.toNat).map fun(k:Nat)=>(k:Int)) "" none (some (.int s)) none
  (fun j hj=>by obtain⟨k,hk,rfl⟩:=List.mem_map.mp hj;have:=List.mem_range.mp hk;omega) (by rw [List.length_map,List.length_range];show 0+_<=100;omega) (by decide+kernel)
 rw [<-xu6] at q1
 rw [List.length_map,List.length_range] at q2
 have q2':w.length=s.toNat:=by rw [q2];show 0+_=_;omega
 refine⟨w,?_,by omega,by omega,q3⟩
 have hz:(Str.ofString "abcdefghijklmnopqrstuvwxyzABCDEFGHIJKLMNOPQRSTUVWXYZ0123456789").length+(Str.ofString "!\"#$&'()*+,-./:;<=>?\x40[\\]^_`{|}~").length<=sizeLine:=by decide+kernel
 have e1:Str.ofString "abcdefghijklmnopqrstuvwxyzABCDEFGHIJKLMNOPQRSTUVWXYZ0123456789"++Str.ofString "!\"#$&'()*+,-./:;<=>?\x40[\\]^_`{|}~"=sg:=rfl
 have b1:(-4611686018427387904<=s/\s<4611686018427387904):=by omega
 simp! [zp8,zp9,yP,nF,ze8,fJ,lN,iG,fSl,zp7,dIn,inB,kX,D.flat,D.flats,inV,eqV,mD,vV,nG,lO,dSl,gA,nD,kZ,qQ,sU,sV,oO,vT,xR,hz,e1,hs,q1,b1]
abbrev tN:tz6:=gP 1 1 (xS yl8)
theorem yf2{m:Int}(hm:0<=m):∃l,tN [.int m]=some (aZ l)/\eE l:=by
 have hd:0<=m/16:=Int.ediv_nonneg hm (by decide)
 have s1:aT 1 (aH (f2 fP (aA 0) (fC (.int 16)))) [some (.int m),none]=some (.nx,[some (.int m),some (.int (m/16))]):=bJ (aP rfl rfl ((mJ _ _).trans (if_pos (by decide))))
 have md:f2 dG (aA 0) (fC (.int 16)) [some (.int m),some (.int (m/16))]=some (.int (m % 16)):=aP rfl rfl ((gU _ _).trans (if_pos (by decide)))
 have t:∀c:Int,fB (f2 dLt (f2 dG (aA 0) (fC (.int 16))) (fC (.int c))) [some (.int m),some (.int (m/16))]=some (decide (m % 16<c)):=fun c=>dQ (aP md rfl rfl)
 have out:∀{p:PSt} (l:Leaf),xS yl8 [some (.int m),none]=some (.ret (aZ l),p)->tN [.int m]=some (aZ l):=fun l h=>gM rfl h
 have t8:=t 8
 have t13:=t 13
 by_cases c1:m % 16<8
 ·obtain⟨z,q,hz⟩:=xo6 hd
  rw [decide_eq_true c1] at t8
  exact⟨.word z,out (.word z) ((aM s1).trans (dH ((bI t8).trans (cD (dW (aD rfl (aD (aY (aD rfl rfl) q) rfl)) rfl (Nat.le_of_ble_eq_true rfl)))))),hz⟩
 ·rw [decide_eq_false c1] at t8
  by_cases c2:m % 16<13
  ·obtain⟨x,q,hx⟩:=xu7 (m/16)
   rw [decide_eq_true c2] at t13
   exact⟨.gap x,out (.gap x) ((aM s1).trans ((aM (bA t8)).trans (dH ((bI t13).trans (cD (dW (aD rfl (aD (aP (fG rfl (Nat.le_of_ble_eq_true rfl)) (aP rfl rfl ((gU _ _).trans (if_pos (by decide)))) q) rfl)) rfl (Nat.le_of_ble_eq_true rfl))))))),hx⟩
  ·rw [decide_eq_false c2] at t13
   have te:fB (f2 dEq (f2 dG (aA 0) (fC (.int 16))) (fC (.int 13))) [some (.int m),some (.int (m/16))]=some (decide (m % 16=13)):=dQ (aP md rfl rfl)
   by_cases c3:m % 16=13
   ·rw [decide_eq_true c3] at te
    exact⟨.fin,out .fin ((aM s1).trans ((aM (bA t8)).trans ((aM (bA t13)).trans (dH ((bI te).trans (cD rfl)))))),trivial⟩
   ·rw [decide_eq_false c3] at te
    have ha:=Int.emod_nonneg (m/16/2) (show(10:Int)≠0 by decide)
    have hb:=Int.emod_lt_of_pos (m/16/2) (show(0:Int)<10 by decide)
    have hc:=Int.emod_nonneg (m/16/2) (show(41:Int)≠0 by decide)
    have he:=Int.emod_lt_of_pos (m/16/2) (show(0:Int)<41 by decide)
    obtain⟨c,q,h1,h2⟩:=xn1 (m/16/2 % 10) (m/16/2 % 41) (m/16) ⟨ha,Int.le_trans (Int.le_of_lt hb) (by decide)⟩ ⟨hc,Int.le_of_lt_add_one he⟩
    have dv:f2 fP (aA 1) (fC (.int 2)) [some (.int m),some (.int (m/16))]=some (.int (m/16/2)):=aP rfl rfl ((mJ _ _).trans (if_pos (by decide)))
    exact⟨.stop c,out (.stop c) ((aM s1).trans ((aM (bA t8)).trans ((aM (bA t13)).trans ((aM (bA te)).trans (cD (dW (aD rfl (aD (aP (fG (aD (aP dv rfl ((gU _ _).trans (if_pos (by decide)))) (aD (aP dv rfl ((gU _ _).trans (if_pos (by decide)))) rfl)) (Nat.le_of_ble_eq_true rfl)) (aP rfl rfl ((gU _ _).trans (if_pos (by decide)))) q) rfl)) rfl (Nat.le_of_ble_eq_true rfl))))))),h1,h2⟩
theorem zw9:∀(ys:List Str),ys≠[]->(∀y∈ys,(y:Str).length<=(Str.join ⟨#[10]⟩ ys).length)/\ys.length<=(Str.join ⟨#[10]⟩ ys).length+1
 |[],h=>absurd rfl h
 |[y],_=>⟨fun z hz=>by rw [List.mem_singleton.mp hz];exact Nat.le_refl _,Nat.le_add_left _ _⟩
 | x::y::r,_=>by
  obtain⟨h1,h2⟩:=zw9 (y::r) (by simp)
  have e:(Str.join ⟨#[10]⟩ (x::y::r)).length=x.length+1+(Str.join ⟨#[10]⟩ (y::r)).length:=by
   show(Str.join ⟨#[10]⟩ (x::y::r)).cps.size=x.cps.size+1+(Str.join ⟨#[10]⟩ (y::r)).cps.size
   rw [<-Array.length_toList,kI,List.length_append,List.length_cons,Array.length_toList,Array.length_toList];omega
  rw [e]
  refine⟨fun z hz=> ?_,by rw [List.length_cons];omega⟩
  rcases List.mem_cons.mp hz with rfl|hz
  ·omega
  ·have:=h1 z hz;omega
theorem xo7(t:Str):(∀y∈lns t,(y:Str).length<=t.length)/\(lns t).length<=t.length+1:=by
 have:=zw9 (lns t) (zc9 t)
 rwa [oC] at this
theorem xd2{f:tz2}{p:PSt}{t:Str}(h:f p=some (.str t))(hl:t.length<=900000):fMt rW f (aB (fC (.str "\n")) aE) p=some (.lst true (L2.kY (lns t))):=by
 unfold fMt
 rw [h,Option.bind_some,aD (f:=fC (.str "\n")) (g:=aE) (d:= .str "\n") (ds:=[]) rfl rfl,Option.bind_some,if_pos (show ze7 (.str t)=true from rfl)]
 unfold lns
 rw [<-zc7]
 exact if_pos ⟨by decide+kernel,by omega⟩
theorem zn5:∀ys:List Str,D.imms (L2.kY ys)=true
 |[]=>rfl
 |y::ys=>by show((D.str y).imm&&D.imms (L2.kY ys))=true;rw [zn5 ys];rfl
theorem zx0:∀ys:List Str,(∀y∈ys,(y:Str).length<=900000)->fA [none] gI (aJ cZ (aB (aA 0) aE)) (L2.kY ys)=some (bE (ys.map fun y=>(y.length:Int)))
 |[],_=>rfl
 |y::ys,h=>by
  have hs:sizeLine=16777216:=sizeLine_eq
  have hy:y.length<=sizeLine:=by have:=h y List.mem_cons_self;omega
  have ih:=zx0 ys fun z hz=>h z (List.mem_cons_of_mem _ hz)
  have e:aJ cZ (aB (aA 0) aE) [some (.str y)]=some (.int (y.length:Int)):=aY (aD rfl rfl) (if_pos hy)
  show fA [none] gI _ (.str y::L2.kY ys)=_
  rw [fA]
  show(aJ cZ (aB (aA 0) aE) [some (.str y)]).bind (fun r=>(fA [none] gI (aJ cZ (aB (aA 0) aE)) (L2.kY ys)).bind fun rs=>some (r::rs))=_
  rw [e,ih];rfl
theorem yv6:∀{ns:List Int},ns≠[]->∃k,tY ns=some k
 |[],h=>absurd rfl h
 |n::ns,_=>by rw [tY];cases tY ns<;>exact⟨_,rfl⟩
abbrev zz8(GM:tz6):tz6:=gP 2 3 (zf4 GM)
theorem xd3{GM:tz6}{S:D}{t:Str}(hM:∀j s:Int,0<=j->j<1000->0<=s->s<1000->∃a,GM [S,.int j,.int s]=some (.int a)/\0<=a)(hl:t.length<=900000):∃W:Int,zz8 GM [S,.str t]=some (.int W)/\1<=W/\W<=40:=by
 obtain⟨a,qa,ha⟩:=hM 1 50 (by decide) (by decide) (by decide) (by decide)
 have hs:sizeLine=16777216:=sizeLine_eq
 obtain⟨hy,hn⟩:=xo7 t
 obtain⟨M,hm⟩:=yv6 (ns:=(lns t).map fun y=>(y.length:Int)) (by simpa using zc9 t)
 have s1:aT 2 (aH (aJ GM (aB (aA 0) (aB (fC (.int 1)) (aB (fC (.int 50)) aE))))) [some S,some (.str t),none,none,none]=some (.nx,[some S,some (.str t),some (.int a),none,none]):=bJ (aY (aD rfl (aD rfl (aD rfl rfl))) qa)
 have e2:gR [none] (eL (fMt rW (aA 1) (aB (fC (.str "\n")) aE))) gI (aJ cZ (aB (aA 0) aE)) [some S,some (.str t),some (.int a),none,none]=some (.lst true (bE ((lns t).map fun y=>(y.length:Int)))):=by
  have sp:=xd2 (f:=aA 1) (p:=[some S,some (.str t),some (.int a),none,none]) (t:=t) rfl hl
  unfold gR eL
  rw [sp,Option.bind_some,show yl0 (.lst true (L2.kY (lns t)))=some (L2.kY (lns t)) from if_pos (zn5 _),Option.bind_some]
  rw [if_pos (by unfold L2.kY;rw [List.length_map];omega)]
  show(fA [none] gI (aJ cZ (aB (aA 0) aE)) (L2.kY (lns t))).bind _=_
  rw [zx0 _ fun y h=>Nat.le_trans (hy y h) hl];rfl
 have s2:aT 3 (aH (aJ zq3 (aB (gR [none] (eL (fMt rW (aA 1) (aB (fC (.str "\n")) aE))) gI (aJ cZ (aB (aA 0) aE))) aE))) [some S,some (.str t),some (.int a),none,none]=some (.nx,[some S,some (.str t),some (.int a),some (.int M),none]):=by
  refine bJ (aY (aD e2 rfl) ?_)
  show(D.ints (bE _)).bind _=_
  rw [zv0,Option.bind_some,hm];rfl
 have dv:f2 fP (aA 2) (fC (.int 4)) [some S,some (.str t),some (.int a),some (.int M),none]=some (.int (a/4)):=aP rfl rfl ((mJ _ _).trans (if_pos (by decide)))
 have md:∀c:Int,0<c->f2 dG (f2 fP (aA 2) (fC (.int 4))) (fC (.int c)) [some S,some (.str t),some (.int a),some (.int M),none]=some (.int (a/4 % c)):=fun c hc=>aP dv rfl ((gU _ _).trans (if_pos hc))
 have m0:=Int.emod_nonneg a (show(4:Int)≠0 by decide)
 have m1:=Int.emod_lt_of_pos a (show(0:Int)<4 by decide)
 obtain⟨v,qv⟩:∃v:Int,atI [D.int M,.int (M+a/4 % 4),.int (8+a/4 % 20),.int (1+a/4 % 40)] (a % 4)=some (.int v):=by
  have:a % 4=0\/a % 4=1\/a % 4=2\/a % 4=3:=by omega
  rcases this with h|h|h|h<;>rw [h]<;>exact⟨_,rfl⟩
 have s3:aT 4 (aH (f2 dIx (cT (aB (aQ (aA 3)) (aB (f2 bP (aA 3) (f2 dG (f2 fP (aA 2) (fC (.int 4))) (fC (.int 4)))) (aB (f2 bP (fC (.int 8)) (f2 dG (f2 fP (aA 2) (fC (.int 4))) (fC (.int 20)))) (aB (f2 bP (fC (.int 1)) (f2 dG (f2 fP (aA 2) (fC (.int 4))) (fC (.int 40)))) aE))))) (f2 dG (aA 2) (fC (.int 4))))) [some S,some (.str t),some (.int a),some (.int M),none]=some (.nx,[some S,some (.str t),some (.int a),some (.int M),some (.int v)]):=
  bJ (aP (fG (aD (bL rfl rfl) (aD (aP rfl (md 4 (by decide)) rfl) (aD (aP rfl (md 20 (by decide)) rfl) (aD (aP rfl (md 40 (by decide)) rfl) rfl)))) (Nat.le_of_ble_eq_true rfl)) (aP rfl rfl ((gU _ _).trans (if_pos (by decide)))) qv)
 refine⟨_,gM rfl ((aM s1).trans ((aM s2).trans ((aM s3).trans (cD (aY (aD rfl (aD (aY (aD rfl (aD rfl rfl)) rfl) rfl)) rfl))))),?_,?_⟩
 ·split<;>(try split)<;>omega
 ·split<;>(try split)<;>omega
def nb(y x:Way):Prop:=ltW x y=false
theorem uQ:∀a:List Int,HT.lexLt a a=false
 |[]=>rfl
 |x::a=>by show(if x=x then HT.lexLt a a else _)=_;rw [if_pos rfl];exact uQ a
theorem yf3:∀{a b c:List Int},HT.lexLt a b=false->HT.lexLt b c=false->HT.lexLt a c=false
 |[],[],c,_,h=>h
 |[],_::_,_,h,_=>by cases h
 |x::a,b,[],_,_=>rfl
 |x::a,[],z::c,_,h=>by cases h
 | x::a,y::b,z::c,h1,h2=>by
  have h1':(if x=y then HT.lexLt a b else decide (x<y))=false:=h1
  have h2':(if y=z then HT.lexLt b c else decide (y<z))=false:=h2
  show(if x=z then HT.lexLt a c else decide (x<z))=false
  by_cases e1:x=y
  ·subst e1
   rw [if_pos rfl] at h1'
   by_cases e2:x=z
   ·subst e2
    rw [if_pos rfl] at h2'|-
    exact yf3 h1' h2'
   ·rw [if_neg e2] at h2'|-;exact h2'
  ·rw [if_neg e1] at h1'
   have g1:=of_decide_eq_false h1'
   by_cases e2:y=z
   ·subst e2
    rw [if_neg e1];exact h1'
   ·rw [if_neg e2] at h2'
    have g2:=of_decide_eq_false h2'
    rw [if_neg (by omega)]
    exact decide_eq_false (by omega)
theorem xv9(a b a' b':Int):HT.lexLt [a,b] [a',b']=(if a=a' then(if b=b' then false else decide (b<b')) else decide (a<a')):=rfl
theorem ze1{y x:Way}:nb y x↔y.1.1<x.1.1\/(y.1.1=x.1.1/\(y.1.2<x.1.2\/(y.1.2=x.1.2/\HT.lexLt x.2 y.2=false))):=by
 have e:ltW x y=(if [x.1.1,x.1.2]=[y.1.1,y.1.2] then(if x.2=y.2 then false else HT.lexLt x.2 y.2) else HT.lexLt [x.1.1,x.1.2] [y.1.1,y.1.2]):=rfl
 have e2:(if x.2=y.2 then false else HT.lexLt x.2 y.2)=HT.lexLt x.2 y.2:=by
  by_cases c:x.2=y.2
  ·rw [if_pos c,c,uQ]
  ·rw [if_neg c]
 unfold nb
 rw [e,e2,xv9]
 by_cases c1:x.1.1=y.1.1
 ·by_cases c2:x.1.2=y.1.2
  ·rw [if_pos (by rw [c1,c2])]
   constructor
   ·exact fun h=> .inr ⟨c1.symm,.inr ⟨c2.symm,h⟩⟩
   ·rintro(h|⟨_,h|⟨_,h⟩⟩)
    ·omega
    ·omega
    ·exact h
  ·rw [if_neg (by simp [c1,c2]),if_pos c1,if_neg c2]
   constructor
   ·intro h
    have:=of_decide_eq_false h
    exact .inr ⟨c1.symm,.inl (by omega)⟩
   ·rintro(h|⟨_,h|⟨h,_⟩⟩)
    ·omega
    ·exact decide_eq_false (by omega)
    ·omega
 ·rw [if_neg (by simp [c1]),if_neg c1]
  constructor
  ·intro h
   have:=of_decide_eq_false h
   exact .inl (by omega)
  ·rintro(h|⟨h,_⟩)
   ·exact decide_eq_false (by omega)
   ·omega
theorem yf4(x:Way):nb x x:=ze1.mpr (.inr ⟨rfl,.inr ⟨rfl,uQ _⟩⟩)
theorem zx1{z y x:Way}(h1:nb z y)(h2:nb y x):nb z x:=by
 rw [ze1] at*
 rcases h1 with a|⟨a,a'|⟨a',a''⟩⟩<;>rcases h2 with b|⟨b,b'|⟨b',b''⟩⟩
 ·exact .inl (by omega)
 ·exact .inl (by omega)
 ·exact .inl (by omega)
 ·exact .inl (by omega)
 ·exact .inr ⟨by omega,.inl (by omega)⟩
 ·exact .inr ⟨by omega,.inl (by omega)⟩
 ·exact .inl (by omega)
 ·exact .inr ⟨by omega,.inl (by omega)⟩
 ·exact .inr ⟨by omega,.inr ⟨by omega,yf3 b'' a''⟩⟩
theorem xd4:∀{a b:List Int},HT.lexLt a b=true->HT.lexLt b a=false:=fun {a b} h=>by
 cases e:HT.lexLt b a with
 |false=>rfl
 | true =>
  cases e2:HT.lexLt a a with
  | false=>
   exact absurd h (by
    intro _
    have:∀{a b:List Int},HT.lexLt a b=true->HT.lexLt b a=true->False:=by
     intro a
     induction a with
     |nil=>intro b _ h2;cases b<;>cases h2
     | cons x a ih=>
      intro b h1 h2
      cases b with
      |nil=>cases h1
      | cons y b=>
       have h1':(if x=y then HT.lexLt a b else decide (x<y))=true:=h1
       have h2':(if y=x then HT.lexLt b a else decide (y<x))=true:=h2
       by_cases c:x=y
       ·subst c
        rw [if_pos rfl] at h1' h2'
        exact ih h1' h2'
       ·rw [if_neg c] at h1'
        rw [if_neg (fun z=>c z.symm)] at h2'
        have:=of_decide_eq_true h1'
        have:=of_decide_eq_true h2'
        omega
    exact this h e)
  |true=>rw [uQ] at e2;cases e2
theorem xd5{x y:Way}(h:ltW x y=true):nb x y:=by
 have h':¬nb y x:=fun z=>by unfold nb at z;rw [h] at z;cases z
 rw [ze1] at h'|-
 by_cases c1:x.1.1<y.1.1
 ·exact .inl c1
 ·by_cases c2:x.1.1=y.1.1
  ·refine .inr ⟨c2,?_⟩
   by_cases c3:x.1.2<y.1.2
   ·exact .inl c3
   ·by_cases c4:x.1.2=y.1.2
    ·refine .inr ⟨c4,?_⟩
     cases e:HT.lexLt x.2 y.2 with
     |false=>exact absurd (.inr ⟨c2.symm,.inr ⟨c4.symm,e⟩⟩) h'
     |true=>exact xd4 e
    ·exact absurd (.inr ⟨c2.symm,.inl (by omega)⟩) h'
  ·exact absurd (.inl (by omega)) h'
def lC(a b:List Int):Prop:=(∀x,b=a++x->x=[])/\(∀x,a=b++x->x=[])
theorem zi1:∀{F:Frt} {k:Nat} {y:Way},eS F k=some y->(k,y)∈F
 |[],_,_,h=>by cases h
 |p::F,k,y,h=>by
  rw [eS] at h
  by_cases e:p.1=k
  ·rw [if_pos e] at h;cases h;subst e;exact List.mem_cons_self
  ·rw [if_neg e] at h;exact List.mem_cons_of_mem _ (zi1 h)
theorem zi2:∀{F:Frt} {k:Nat} {y z:Way},(F.map (·.1)).Nodup->(k,y)∈F->(k,z)∈F->y=z
 |[],_,_,_,_,h,_=>by cases h
 |p::F,k,y,z,nd,h1,h2=>by
  rw [List.map_cons,List.nodup_cons] at nd
  rcases List.mem_cons.mp h1 with e1|e1<;>rcases List.mem_cons.mp h2 with e2|e2
  ·rw [<-e2] at e1;cases e1;rfl
  ·exact absurd (List.mem_map_of_mem (f:=(·.1)) e2) (by rw [<-e1] at nd;exact nd.1)
  ·exact absurd (List.mem_map_of_mem (f:=(·.1)) e1) (by rw [<-e2] at nd;exact nd.1)
  ·exact zi2 nd.2 e1 e2
theorem zi3:∀{F:Frt} {k:Nat} {x y:Way},(k,y)∈F->(k,x)∈iB F k x
 |[],_,_,_,h=>by cases h
 |p::F,k,x,y,h=>by
  rw [iB]
  rcases List.mem_cons.mp h with e|e
  ·rw [<-e,if_pos rfl];exact List.mem_cons_self
  ·exact List.mem_cons_of_mem _ (zi3 e)
theorem zx2:∀{F:Frt} {k:Nat} {x:Way} {q:Nat×Way},q∈F->q.1≠k->q∈iB F k x
 |[],_,_,_,h,_=>by cases h
 |p::F,k,x,q,h,hk=>by
  rw [iB]
  rcases List.mem_cons.mp h with e|e
  ·rw [<-e,if_neg hk];exact List.mem_cons_self
  ·exact List.mem_cons_of_mem _ (zx2 e hk)
def Has(F:Frt)(k:Nat)(x:Way):Prop:=∃y,(k,y)∈F/\nb y x
theorem Has.le{F:Frt}{k:Nat}{x z:Way}(h:Has F k x)(hz:nb x z):Has F k z:=by
 obtain⟨y,a,b⟩:=h
 exact⟨y,a,zx1 b hz⟩
theorem yf5{F:Frt}{k:Nat}{x:Way}(h:(F.map (·.1)).Nodup):((eG F k x).map (·.1)).Nodup:=by
 unfold eG
 cases e:eS F k with
 |none=>
  simp only
  rw [List.map_append,List.nodup_append]
  refine⟨h,by simp,fun a ha b hb z=> ?_⟩
  simp only [List.map_cons,List.map_nil,List.mem_singleton] at hb
  subst hb
  subst z
  exact xL e ha
 |some y=>
  simp only
  split
  ·rw [sR];exact h
  ·exact h
theorem xd6{F:Frt}{k:Nat}{x:Way}(nd:(F.map (·.1)).Nodup):Has (eG F k x) k x/\∀j z,Has F j z->Has (eG F k x) j z:=by
 unfold eG
 cases e:eS F k with
 |none=>
  simp only
  exact⟨⟨x,by simp,yf4 x⟩,fun j z ⟨y,a,b⟩=>⟨y,List.mem_append_left _ a,b⟩⟩
 | some y=>
  simp only
  have hy:=zi1 e
  by_cases c:ltW x y=true
  ·rw [if_pos c]
   refine⟨⟨x,zi3 hy,yf4 x⟩,fun j z ⟨y',a,b⟩=> ?_⟩
   by_cases hj:j=k
   ·subst hj
    rw [zi2 nd a hy] at b
    exact⟨x,zi3 hy,zx1 (xd5 c) b⟩
   ·exact⟨y',zx2 a hj,b⟩
  ·rw [if_neg c]
   exact⟨⟨y,hy,by unfold nb;simpa using c⟩,fun j z h=>h⟩
def xz0(R:List Int->Str->Prop):Prop:=∀c x t t',R c t->R (c++x) t'->x=[]/\t=t'
theorem xz0.apart{R:List Int->Str->Prop}(h:xz0 R){a b:List Int}{s t:Str}(ha:R a s)(hb:R b t):lC a b:=
 ⟨fun x e=>by subst e;exact(h a x s t ha hb).1,fun x e=>by subst e;exact(h b x t s hb ha).1⟩
def xf8(W:Int)(R:List Int->Str->Prop)(F:Frt):Prop:=∀c t k ln rg,R c t->sG W t k ln rg->Has F k ((ln,rg),c)
theorem xf8.mono{W:Int}{R R':List Int->Str->Prop}{F:Frt}(h:xf8 W R F)(k:∀c t,R' c t->R c t):xf8 W R' F:=fun c t j ln rg r hc=>h c t j ln rg (k c t r) hc
theorem kJ{W:Int}{b:Bool}{m:Int}{l:Leaf}:∀{F G:Frt},(G.map (·.1)).Nodup->((dZ W b m l F G).map (·.1)).Nodup/\(∀p∈F,∀s,fK W b m l p.1 p.2.1=some s->Has (dZ W b m l F G) s.1 (s.2,p.2.2))/\∀j z,Has G j z->Has (dZ W b m l F G) j z
 |[],G,nd=>⟨nd,fun p h=>absurd h List.not_mem_nil,fun _ _ h=>h⟩
 | p::F,G,nd=>by
  cases e:fK W b m l p.1 p.2.1 with
  | none=>
   have eq:dZ W b m l (p::F) G=dZ W b m l F G:=by
    show dZ W b m l F (match fK W b m l p.1 p.2.1 with|none=>G|some s=>eG G s.1 (s.2,p.2.2))=_
    rw [e]
   obtain⟨a,h1,h2⟩:=kJ (W:=W) (b:=b) (m:=m) (l:=l) (F:=F) nd
   rw [eq]
   refine⟨a,fun q hq s hs=> ?_,h2⟩
   rcases List.mem_cons.mp hq with z|z
   ·rw [z,e] at hs;cases hs
   ·exact h1 q z s hs
  | some s=>
   have eq:dZ W b m l (p::F) G=dZ W b m l F (eG G s.1 (s.2,p.2.2)):=by
    show dZ W b m l F (match fK W b m l p.1 p.2.1 with|none=>G|some s=>eG G s.1 (s.2,p.2.2))=_
    rw [e]
   obtain⟨a,h1,h2⟩:=kJ (W:=W) (b:=b) (m:=m) (l:=l) (F:=F) (yf5 (k:=s.1) (x:=(s.2,p.2.2)) nd)
   obtain⟨d,f⟩:=xd6 (k:=s.1) (x:=(s.2,p.2.2)) nd
   rw [eq]
   refine⟨a,fun q hq s' hs=> ?_,fun j z h=>h2 j z (f j z h)⟩
   rcases List.mem_cons.mp hq with z|z
   ·rw [z,e] at hs;cases hs;rw [z];exact h2 _ _ d
   ·exact h1 q z s' hs
theorem vK:∀C:List Int,D.datas (bE C)=some (C.map PyData.int)
 |[]=>rfl
 |c::C=>by
  show(D.data (.int c)).bind (fun p=>(D.datas (bE C)).map (p::·))=_
  rw [vK C];rfl
theorem za3:∀C:List Int,PyData.canLayAll0 (C.map PyData.int)=true
 |[]=>rfl
 |c::C=>by show(PyData.canLay0 (.int c)&&PyData.canLayAll0 (C.map PyData.int))=true;rw [za3 C];rfl
theorem vL:∀C:List Int,PyData.depthAll (C.map PyData.int)=0
 |[]=>rfl
 |c::C=>by show max (PyData.depth (.int c)) (PyData.depthAll (C.map PyData.int))=0;rw [vL C];rfl
theorem xo8{x:D}{p:PyData}(hx:(∀i,x≠ .int i)/\∀z,x≠ .str z)(e:x.data=some p)(c:p.canLay0=true)(d:p.depth<=60):eqB x x=some true:=by
 have:eqB x x=rV x x:=by
  cases x<;>first|rfl|exact absurd rfl (hx.1 _)|exact absurd rfl (hx.2 _)
 rw [this]
 unfold rV
 rw [e]
 show(if (PyData.canLay0 _&&PyData.canLay0 _&&decide (PyData.depth _<=60))=true then some (PyData.eqv _ _) else none)=_
 rw [c,decide_eq_true d,PySem.SeqAt.eqv_refl _ c];rfl
theorem yv7(q:Nat×Way):∃p,(aV q).data=some p/\p.canLay0=true/\p.depth<=2:=by
 refine⟨.tuple [.int q.1,.int q.2.1.1,.int q.2.1.2,.tuple (q.2.2.map PyData.int)],?_,?_,?_⟩
 ·unfold aV
  simp [D.data,D.datas,vK]
 ·show(true&&(true&&(true&&(PyData.canLayAll0 (q.2.2.map PyData.int)&&true))))=true
  rw [za3];rfl
 ·show max 0 (max 0 (max 0 (max (PyData.depthAll (q.2.2.map PyData.int)+1) 0)))+1<=2
  rw [vL];decide
theorem ze2:∀Q:List (Nat×Way),∃ps,D.datas (Q.map aV)=some ps/\PyData.canLayAll0 ps=true/\PyData.depthAll ps<=2
 |[]=>⟨[],rfl,rfl,by decide⟩
 | q::Q=>by
  obtain⟨p,a1,a2,a3⟩:=yv7 q
  obtain⟨ps,b1,b2,b3⟩:=ze2 Q
  refine⟨p::ps,?_,?_,?_⟩
  ·show((aV q).data).bind (fun p=>(D.datas (Q.map aV)).map (p::·))=_
   rw [a1,b1];rfl
  ·show(PyData.canLay0 p&&PyData.canLayAll0 ps)=true
   rw [a2,b2];rfl
  ·show max (PyData.depth p) (PyData.depthAll ps)<=2
   omega
def bh:List Int->List Int->Bool
 |x::a,y::b=>if x=y then bh a b else decide (y<x)
 |_,_=>false
theorem zx3:∀A B:List Int,PyData.eqvAll (A.map PyData.int) (B.map PyData.int)=decide (A=B)
 |[],[]=>rfl
 |[],_::_=>rfl
 |_::_,[]=>rfl
 |a::A,b::B=>by
  show(PyData.eqv (.int a) (.int b)&&PyData.eqvAll (A.map PyData.int) (B.map PyData.int))=_
  rw [zx3 A B]
  show((a==b)&&decide (A=B))=_
  rw [Bool.eq_iff_iff]
  simp
theorem xd7(A B:List Int):eqB (.tup (bE A)) (.tup (bE B))=some (decide (A=B)):=by
 have e:∀c:List Int,D.data (.tup (bE c))=some (.tuple (c.map PyData.int)):=fun c=>by rw [D.data,vK];rfl
 have c1:∀c:List Int,PyData.canLay0 (.tuple (c.map PyData.int))=true:=za3
 have d:PyData.depth (.tuple (A.map PyData.int))<=60:=by
  show PyData.depthAll (A.map PyData.int)+1<=60
  rw [vL];decide
 have q:PyData.eqv (.tuple (A.map PyData.int)) (.tuple (B.map PyData.int))=decide (A=B):=zx3 A B
 show rV (.tup (bE A)) (.tup (bE B))=_
 unfold rV
 rw [e,e]
 show(if (PyData.canLay0 _&&PyData.canLay0 _&&decide (PyData.depth _<=60))=true then some (PyData.eqv _ _) else none)=_
 rw [c1,c1,decide_eq_true d,q];rfl
def nU:tz1:=fIf (aW (fB (f2 dNe (f2 dIx (aA 0) (aA 2)) (f2 dIx (aA 1) (aA 2))))) (cA (aH (f2 dGt (f2 dIx (aA 0) (aA 2)) (f2 dIx (aA 1) (aA 2))))) bO
abbrev oM:tz6:=gP 2 1 zH
theorem zx4:∀(a b p q:List Int) (x2:Option D),p.length=q.length->∃z,(bh a b=false/\cX 2 nU (eZ (p.length:Int) (min a.length b.length)) [some (.tup (bE (p++a))),some (.tup (bE (q++b))),x2]=some (.nx,z))\/cX 2 nU (eZ (p.length:Int) (min a.length b.length)) [some (.tup (bE (p++a))),some (.tup (bE (q++b))),x2]=some (.ret (.bl (bh a b)),z)
 |[],b,p,q,x2,_=>by
  rw [show min ([]:List Int).length b.length=0 by simp]
  exact⟨_,.inl ⟨by rw [bh];simp,rfl⟩⟩
 |x::a,[],p,q,x2,_=>by
  rw [show min (x::a).length ([]:List Int).length=0 by simp]
  exact⟨_,.inl ⟨by rw [bh];simp,rfl⟩⟩
 | x::a,y::b,p,q,x2,h=>by
  rw [show min (x::a).length (y::b).length=min a.length b.length+1 by simp,yj1]
  have ga:atI (bE (p++x::a)) (p.length:Int)=some (.int x):=mE (by unfold bE;rw [List.getElem?_map];simp)
  have gb:atI (bE (q++y::b)) (p.length:Int)=some (.int y):=mE (by unfold bE;rw [List.getElem?_map,h];simp)
  have ia:f2 dIx (aA 0) (aA 2) [some (.tup (bE (p++x::a))),some (.tup (bE (q++y::b))),some (.int (p.length:Int))]=some (.int x):=aP rfl rfl ga
  have ib:f2 dIx (aA 1) (aA 2) [some (.tup (bE (p++x::a))),some (.tup (bE (q++y::b))),some (.int (p.length:Int))]=some (.int y):=aP rfl rfl gb
  have t1:fB (f2 dNe (f2 dIx (aA 0) (aA 2)) (f2 dIx (aA 1) (aA 2))) [some (.tup (bE (p++x::a))),some (.tup (bE (q++y::b))),some (.int (p.length:Int))]=some (!decide (x=y)):=dQ (aP ia ib rfl)
  have st:∀Y,nU [some (.tup (bE (p++x::a))),some (.tup (bE (q++y::b))),some (.int (p.length:Int))]=some Y->cX 2 nU (.int (p.length:Int)::eZ ((p.length+1:Nat):Int) (min a.length b.length)) [some (.tup (bE (p++x::a))),some (.tup (bE (q++y::b))),x2]=(match Y with
    |(.nx,p')=>cX 2 nU (eZ ((p.length+1:Nat):Int) (min a.length b.length)) p'
    |(.ct,p')=>cX 2 nU (eZ ((p.length+1:Nat):Int) (min a.length b.length)) p'
    |(.bk,p')=>some (.nx,p')
    |(.ret d,p')=>some (.ret d,p')):=fun Y hY=>by
   rw [cX]
   show((nU [some (.tup (bE (p++x::a))),some (.tup (bE (q++y::b))),some (.int (p.length:Int))]).bind _)=_
   rw [hY];rfl
  by_cases c:x=y
  ·subst c
   rw [decide_eq_true rfl] at t1
   obtain⟨z,hz⟩:=zx4 a b (p++[x]) (q++[x]) (some (.int (p.length:Int))) (by simp [h])
   rw [List.length_append,List.append_assoc,List.append_assoc] at hz
   have e:bh (x::a) (x::b)=bh a b:=by show(if x=x then bh a b else _)=_;rw [if_pos rfl]
   rw [e]
   refine⟨z,?_⟩
   rw [st _ (bA t1)]
   exact hz
  ·rw [decide_eq_false c] at t1
   have e:bh (x::a) (y::b)=decide (y<x):=by show(if x=y then bh a b else _)=_;rw [if_neg c]
   rw [e]
   exact⟨[some (.tup (bE (p++x::a))),some (.tup (bE (q++y::b))),some (.int (p.length:Int))],.inr (st _ ((bI t1).trans (cD (aP ia ib rfl))))⟩
theorem ze3(a b:List Int)(ha:a.length<=1000):oM [.tup (bE a),.tup (bE b)]=some (.bl (bh a b)):=by
 obtain⟨z,hz⟩:=zx4 a b [] [] none rfl
 rw [List.nil_append,List.nil_append] at hz
 have er:kZ (aB (aJ oO (aB (aJ cZ (aB (aA 0) aE)) (aB (aJ cZ (aB (aA 1) aE)) aE))) aE) [some (.tup (bE a)),some (.tup (bE b)),none]=some (eZ 0 (min a.length b.length)):=by
  unfold kZ
  rw [aD (d:= .int ((min a.length b.length:Nat):Int)) (aY (aD (aY (aD rfl rfl) rfl) (aD (aY (aD rfl rfl) rfl) rfl)) (by
   show some (D.int (if ((bE b).length:Int)<((bE a).length:Int) then((bE b).length:Int) else((bE a).length:Int)))=_
   rw [pE,pE]
   congr 2
   split<;>omega)) rfl,Option.bind_some]
  exact yd4 (j:=((min a.length b.length:Nat):Int)) (by omega) (by omega)
 have lp:∀Y,cX 2 nU (eZ 0 (min a.length b.length)) [some (.tup (bE a)),some (.tup (bE b)),none]=Y->fJ 2 (kZ (aB (aJ oO (aB (aJ cZ (aB (aA 0) aE)) (aB (aJ cZ (aB (aA 1) aE)) aE))) aE)) nU [some (.tup (bE a)),some (.tup (bE b)),none]=Y:=fun Y h=>by
  unfold fJ
  rw [er];exact h
 rcases hz with ⟨h1,h2⟩|h2
 ·rw [h1]
  exact gM rfl ((aM (lp _ h2)).trans rfl)
 ·exact gM rfl (dH (lp _ h2))
theorem zx5:∀{a b:List Int},HT.lexLt a b=false->HT.lexLt b a=false->a=b
 |[],[],_,_=>rfl
 |[],_::_,h,_=>by cases h
 |_::_,[],_,h=>by cases h
 | x::a,y::b,h1,h2=>by
  have h1':(if x=y then HT.lexLt a b else decide (x<y))=false:=h1
  have h2':(if y=x then HT.lexLt b a else decide (y<x))=false:=h2
  by_cases e:x=y
  ·subst e
   rw [if_pos rfl] at h1' h2'
   rw [zx5 h1' h2']
  ·rw [if_neg e] at h1'
   rw [if_neg (fun z=>e z.symm)] at h2'
   have:=of_decide_eq_false h1'
   have:=of_decide_eq_false h2'
   omega
theorem xo9{x y:Way}(h1:nb x y)(h2:nb y x):x=y:=by
 rw [ze1] at h1 h2
 obtain⟨⟨a,b⟩,c⟩:=x
 obtain⟨⟨a',b'⟩,c'⟩:=y
 simp only at h1 h2
 have key:a=a'/\b=b'/\c=c':=by
  rcases h1 with h|⟨e1,h|⟨e2,h⟩⟩<;>rcases h2 with k|⟨f1,k|⟨f2,k⟩⟩
  all_goals first
   |omega
   |exact⟨e1,e2,zx5 k h⟩
 obtain⟨rfl,rfl,rfl⟩:=key
 rfl
theorem zx6{F:Frt}{k:Nat}{x:Way}{q:Nat×Way}(h:q∈eG F k x):q=(k,x)\/q∈F:=by
 unfold eG at h
 split at h
 ·rcases List.mem_append.mp h with z|z
  ·exact .inr z
  ·exact .inl (List.mem_singleton.mp z)
 ·split at h
  ·exact zZ h
  ·exact .inr h
theorem xN{W:Int}{b:Bool}{m:Int}{l:Leaf}:∀{F G:Frt} {q:Nat×Way},q∈dZ W b m l F G->q∈G\/∃p∈F,∃s,fK W b m l p.1 p.2.1=some s/\q=(s.1,(s.2,p.2.2))
 |[],G,q,h=> .inl h
 | p::F,G,q,h=>by
  have h':q∈dZ W b m l F (match fK W b m l p.1 p.2.1 with|none=>G|some s=>eG G s.1 (s.2,p.2.2)):=h
  rcases xN h' with z|⟨p',hp,s,e1,e2⟩
  ·cases e:fK W b m l p.1 p.2.1 with
   |none=>rw [e] at z;exact .inl z
   |some s=>
    rw [e] at z
    rcases zx6 z with z|z
    ·exact .inr ⟨p,List.mem_cons_self,s,e,z⟩
    ·exact .inl z
  ·exact .inr ⟨p',List.mem_cons_of_mem _ hp,s,e1,e2⟩
theorem ze4{W:Int}{b:Bool}{m:Int}{l:Leaf}{F Q:Frt}(h:∀p,p∈F↔p∈Q){q:Nat×Way}(hq:q∈dZ W b m l F []):q∈dZ W b m l Q []:=by
 obtain⟨n1,a1,_⟩:=kJ (W:=W) (b:=b) (m:=m) (l:=l) (F:=F) (G:=[]) List.nodup_nil
 obtain⟨n2,a2,_⟩:=kJ (W:=W) (b:=b) (m:=m) (l:=l) (F:=Q) (G:=[]) List.nodup_nil
 rcases xN hq with z|⟨p,hp,s,e1,rfl⟩
 ·cases z
 ·obtain⟨y,hy,ny⟩:=a2 p ((h p).mp hp) s e1
  rcases xN hy with z|⟨p',hp',s',e2,e3⟩
  ·cases z
  ·have e4:s.1=s'.1:=(Prod.mk.inj e3).1
   have e5:y=(s'.2,p'.2.2):=(Prod.mk.inj e3).2
   obtain⟨y',hy',ny'⟩:=a1 p' ((h p').mpr hp') s' e2
   rw [<-e4] at hy'
   have e6:=zi2 n1 hq hy'
   rw [<-e6,<-e5] at ny'
   have e7:=xo9 ny ny'
   subst e7
   exact hy
theorem zx7:∀{A B:List (Nat×Way)},(A.map fun q=>(q.1:Int)).Pairwise (·<·)->(B.map fun q=>(q.1:Int)).Pairwise (·<·)->(∀q,q∈A↔q∈B)->A=B
 |[],[],_,_,_=>rfl
 |[],b::B,_,_,h=>by have:=(h b).mpr List.mem_cons_self;cases this
 |a::A,[],_,_,h=>by have:=(h a).mp List.mem_cons_self;cases this
 | a::A,b::B,h1,h2,h=>by
  rw [List.map_cons,List.pairwise_cons] at h1 h2
  have l1:∀q∈A,a.1<q.1:=fun q hq=>by have:=h1.1 _ (List.mem_map_of_mem (f:=fun q:Nat×Way=>(q.1:Int)) hq);omega
  have l2:∀q∈B,b.1<q.1:=fun q hq=>by have:=h2.1 _ (List.mem_map_of_mem (f:=fun q:Nat×Way=>(q.1:Int)) hq);omega
  have e:a=b:=by
   rcases List.mem_cons.mp ((h a).mp List.mem_cons_self) with z|z
   ·exact z
   ·rcases List.mem_cons.mp ((h b).mpr List.mem_cons_self) with y|y
    ·exact y.symm
    ·have:=l1 _ y;have:=l2 _ z;omega
  subst e
  rw [zx7 (A:=A) (B:=B) h1.2 h2.2 fun q=>⟨fun hq=>by
   rcases List.mem_cons.mp ((h q).mp (List.mem_cons_of_mem _ hq)) with z|z
   ·have:=l1 _ hq;rw [z] at this;omega
   ·exact z,fun hq=>by
   rcases List.mem_cons.mp ((h q).mpr (List.mem_cons_of_mem _ hq)) with z|z
   ·have:=l2 _ hq;rw [z] at this;omega
   ·exact z⟩]
theorem yv8{W:Int}{b:Bool}{m:Int}{l:Leaf}{F Q:Frt}(h:∀p,p∈F↔p∈Q):rdL (dZ W b m l F [])=rdL (dZ W b m l Q []):=by
 have n1:=(kJ (W:=W) (b:=b) (m:=m) (l:=l) (F:=F) (G:=[]) List.nodup_nil).1
 have n2:=(kJ (W:=W) (b:=b) (m:=m) (l:=l) (F:=Q) (G:=[]) List.nodup_nil).1
 refine zx7 (zw1 n1) (zw1 n2) fun q=> ?_
 rw [zi0 n1,zi0 n2]
 exact⟨ze4 h,ze4 fun p=>(h p).symm⟩
theorem yk4{W:Int}{n:Nat}(hn:0<n)(r:List Pc)(l:Leaf):eM W n (r++[.leaf l])=dZ W true 0 l (eM W n r) []:=by
 cases n with
 |zero=>cases hn
 |succ n=>
  unfold eM
  rw [frN,frN,List.foldl_append]
  rfl
theorem lC.tail{x:Int}{a b:List Int}(h:lC (x::a) (x::b)):lC a b:=⟨fun z e=>h.1 z (by rw [e];rfl),fun z e=>h.2 z (by rw [e];rfl)⟩
theorem yk5:∀{a b:List Int},lC a b->bh a b=HT.lexLt b a
 |[],[],_=>by rw [bh];rfl;simp
 |[],y::b,h=>by have:=h.1 (y::b) rfl;cases this
 |x::a,[],h=>by have:=h.2 (x::a) rfl;cases this
 | x::a,y::b,h=>by
  show(if x=y then bh a b else decide (y<x))=(if y=x then HT.lexLt b a else decide (y<x))
  by_cases c:x=y
  ·subst c
   rw [if_pos rfl,if_pos rfl]
   exact yk5 h.tail
  ·rw [if_neg c,if_neg (fun z=>c z.symm)]
theorem xw0(a b c d:Int):lC [a,b] [c,d]:=⟨fun x e=>by
 have:=congrArg List.length e
 simp at this;exact this,fun x e=>by
 have:=congrArg List.length e
 simp at this;exact this⟩
theorem wb3{x y:Way}(h:[x.1.1,x.1.2]≠[y.1.1,y.1.2]):ltW x y=bh [y.1.1,y.1.2] [x.1.1,x.1.2]:=by
 rw [yk5 (xw0 _ _ _ _)]
 show(if [x.1.1,x.1.2]=[y.1.1,y.1.2] then _ else HT.lexLt [x.1.1,x.1.2] [y.1.1,y.1.2])=_
 rw [if_neg h]
theorem wb4{x y:Way}(h:[x.1.1,x.1.2]=[y.1.1,y.1.2])(ha:lC y.2 x.2):ltW x y=bh y.2 x.2:=by
 rw [yk5 ha]
 show(if [x.1.1,x.1.2]=[y.1.1,y.1.2] then(if x.2=y.2 then _ else HT.lexLt x.2 y.2) else _)=_
 rw [if_pos h]
 by_cases c:x.2=y.2
 ·rw [if_pos c,c,uQ];rfl
 ·rw [if_neg c]
theorem zn6:∀{F:Frt} {k:Nat} {y:Way},(F.map (·.1)).Nodup->eS F k=some y->iB F k y=F
 |[],_,_,_,_=>rfl
 | p ::F,k,y,nd,h=>by
  rw [eS] at h
  rw [List.map_cons,List.nodup_cons] at nd
  rw [iB]
  by_cases e:p.1=k
  ·rw [if_pos e] at h
   cases h
   rw [if_pos e]
   have q:∀{G:Frt},k∉G.map (·.1)->iB G k p.2=G:=fun {G}=>by
    induction G with
    |nil=>intro _;rfl
    |cons g G ih=>
     intro hk
     rw [List.map_cons,List.mem_cons,not_or] at hk
     rw [iB,if_neg (fun z=>hk.1 z.symm),ih hk.2]
   rw [q (by rw [<-e];exact nd.1)]
  ·rw [if_neg e] at h
   rw [if_neg e,zn6 nd.2 h]
def oV(W:Int)(l:Leaf)(q:Nat×Way):Nat×Way:=match l with
 | .word x=>(q.1+x.length,q.2)
 | .stop c=>if (q.1:Int)<=c then(c.toNat,q.2) else(c.toNat,((q.2.1.1+1,q.2.1.2+(W-q.1)*(W-q.1)),q.2.2))
 |_=>(0,((q.2.1.1+1,q.2.1.2+(W-q.1)*(W-q.1)),q.2.2))
theorem xp0(W:Int)(l:Leaf)(q:Nat×Way):(oV W l q).2.2=q.2.2:=by
 unfold oV
 split
 ·rfl
 ·split<;>rfl
 ·rfl
theorem yv9{W:Int}{l:Leaf}(hl:eE l)(q:Nat×Way):fK W true 0 l q.1 q.2.1=if ((oV W l q).1:Int)<=W then some ((oV W l q).1,(oV W l q).2.1) else none:=by
 have nl:∀c:Int,0<=c->((some (nlw c)).bind fun w=>if W<((if lfB w=true then w.length-1 else q.1+w.length:Nat):Int) then none else some (if lfB w=true then w.length-1 else q.1+w.length,if lfB w=true then(q.2.1.1+1,q.2.1.2+(W-(q.1:Int))*(W-(q.1:Int))) else q.2.1))=if ((c.toNat:Nat):Int)<=W then some (c.toNat,(q.2.1.1+1,q.2.1.2+(W-(q.1:Int))*(W-(q.1:Int)))) else none:=fun c h0=>by
  rw [Option.bind_some,if_pos (zv3 c),if_pos (zv3 c),yd9]
  by_cases z:W<((c.toNat:Nat):Int)
  ·rw [if_pos z,if_neg (by omega)]
  ·rw [if_neg z,if_pos (by omega)]
 have pl:∀(w:Str) (k:Nat),(10:Nat)∉w.cps.toList->q.1+w.length=k->((some w).bind fun w=>if W<((if lfB w=true then w.length-1 else q.1+w.length:Nat):Int) then none else some (if lfB w=true then w.length-1 else q.1+w.length,if lfB w=true then(q.2.1.1+1,q.2.1.2+(W-(q.1:Int))*(W-(q.1:Int))) else q.2.1))=if (k:Int)<=W then some (k,q.2.1) else none:=fun w k hw hk=>by
  have z0:¬lfB w=true:=by rw [xh2 hw];exact Bool.false_ne_true
  rw [Option.bind_some,if_neg z0,if_neg z0,hk]
  by_cases z:W<(k:Int)
  ·rw [if_pos z,if_neg (by omega)]
  ·rw [if_neg z,if_pos (by omega)]
 unfold fK
 cases l with
 |word x=>exact pl x _ (yd6 hl) rfl
 |gap x=>exact nl 0 (Int.le_refl _)
 |fin=>exact nl 0 (Int.le_refl _)
 | stop c=>
  have hc:0<=c/\c<=40:=hl
  unfold oV
  simp only
  by_cases k:(q.1:Int)<=c
  ·rw [if_pos k,show wr true 0 q.1 (.stop c)=some (Txt.mul " " (c-q.1)) from if_pos k]
   refine pl _ _ ?_ ?_
   ·exact zc8 _
   ·rw [iF];omega
  ·rw [if_neg k,show wr true 0 q.1 (.stop c)=some (nlw c) from(if_neg k).trans (if_pos rfl)]
   exact nl c hc.1
theorem mC(q:Nat×Way):(aV q).imm=true:=by
 have:=fY q.2.2
 simp [aV,D.imm,D.imms,this]
abbrev zq9:tz6:=gP 3 5 zn8
theorem yc9{W:Int}{l:Leaf}{q:Nat×Way}(hW0:0<=W)(hW1:W<=40)(hl:eE l)(hk:q.1<=1000):zq9 [aV q,aZ l,.int W]=some (aV (oV W l q)):=by
 have u:mD [3,4,5,6] (aH (aQ (aA 0))) [some (aV q),some (aZ l),some (.int W),none,none,none,none,none]=some (.nx,[some (aV q),some (aZ l),some (.int W),some (.int (q.1:Int)),some (.int q.2.1.1),some (.int q.2.1.2),some (.tup (bE q.2.2)),none]):=by
  unfold mD aH
  rw [bL (d:=aV q) rfl (mC q)]
  rfl
 have s2:aT 7 (aH (f2 bP (aA 5) (f2 gA (f2 iY (aA 2) (aA 3)) (f2 iY (aA 2) (aA 3))))) [some (aV q),some (aZ l),some (.int W),some (.int (q.1:Int)),some (.int q.2.1.1),some (.int q.2.1.2),some (.tup (bE q.2.2)),none]=some (.nx,[some (aV q),some (aZ l),some (.int W),some (.int (q.1:Int)),some (.int q.2.1.1),some (.int q.2.1.2),some (.tup (bE q.2.2)),some (.int (q.2.1.2+(W-q.1)*(W-q.1)))]):=
  bJ (aP rfl (aP rfl rfl (if_pos (yt7 (by omega) (by omega)))) rfl)
 generalize hp:[some (aV q),some (aZ l),some (D.int W),some (D.int (q.1:Int)),some (D.int q.2.1.1),some (D.int q.2.1.2),some (D.tup (bE q.2.2)),some (D.int (q.2.1.2+(W-q.1)*(W-q.1)))]=p at s2
 have v1:aA 1 p=some (aZ l):=by rw [<-hp];rfl
 have v3:aA 3 p=some (.int (q.1:Int)):=by rw [<-hp];rfl
 have v4:aQ (aA 4) p=some (.int q.2.1.1):=by rw [<-hp];rfl
 have v4':aA 4 p=some (.int q.2.1.1):=by rw [<-hp];rfl
 have v5:aQ (aA 5) p=some (.int q.2.1.2):=by rw [<-hp];rfl
 have v6:aQ (aA 6) p=some (.tup (bE q.2.2)):=bL (by rw [<-hp];rfl) (fY _)
 have v7:aQ (aA 7) p=some (.int (q.2.1.2+(W-q.1)*(W-q.1))):=by rw [<-hp];rfl
 have rd:∀{f0 f1 f2 f3:tz2} (g:Nat×Way),f0 p=some (.int (g.1:Int))->f1 p=some (.int g.2.1.1)->f2 p=some (.int g.2.1.2)->f3 p=some (.tup (bE g.2.2))->bN (aB f0 (aB f1 (aB f2 (aB f3 aE)))) p=some (aV g):=fun {f0 f1 f2 f3} g h0 h1 h2 h3=>dW (aD h0 (aD h1 (aD h2 (aD h3 rfl)))) (by simp [D.imms,D.imm,fY]) (by simp)
 have kd:∀(k x:Str) (ds:List D),aZ l= .tup (.str k::ds)->fB (f2 dEq (f2 dIx (aA 1) (fC (.int 0))) (fC (.str x))) p=some (decide (k=x)):=fun k x ds h=>by
  rw [h] at v1
  exact dQ (aP (aP v1 rfl (kG _ _)) rfl rfl)
 have i1:∀(k:Str) (d:D),aZ l= .tup [.str k,d]->f2 dIx (aA 1) (fC (.int 1)) p=some d:=fun k d h=>by
  rw [h] at v1
  exact aP v1 rfl (gQ _ _ _)
 refine lM rfl (cV u (cV s2 ?_))
 clear u s2 hp
 cases l with
 |word x=>
  have hx:zf0 x:=hl
  have k0:=kd "word" "word" _ rfl
  rw [decide_eq_true rfl] at k0
  refine uP ⟨_,(bI k0).trans (cD (rd (q.1+x.length,q.2) (aP v3 (aY (aD (i1 _ _ rfl) rfl) (if_pos (sz (by have:=hx.2.1;omega)))) ?_) v4 v5 v6))⟩
  show some (D.int _)=some (D.int _)
  rw [Int.natCast_add]
 |gap x=>
  have k0:=kd "gap" "word" _ rfl
  rw [show decide (("gap":Str)="word")=false by decide+kernel] at k0
  have k1:=kd "gap" "stop" _ rfl
  rw [show decide (("gap":Str)="stop")=false by decide+kernel] at k1
  exact cV (bA k0) (cV (bA (jN k1)) (cV (bA k1) ⟨_,cD (rd (0,((q.2.1.1+1,q.2.1.2+(W-q.1)*(W-q.1)),q.2.2)) rfl (aP v4' rfl rfl) v7 v6)⟩))
 |fin=>
  have k0:=kd "end" "word" _ rfl
  rw [show decide (("end":Str)="word")=false by decide+kernel] at k0
  have k1:=kd "end" "stop" _ rfl
  rw [show decide (("end":Str)="stop")=false by decide+kernel] at k1
  exact cV (bA k0) (cV (bA (jN k1)) (cV (bA k1) ⟨_,cD (rd (0,((q.2.1.1+1,q.2.1.2+(W-q.1)*(W-q.1)),q.2.2)) rfl (aP v4' rfl rfl) v7 v6)⟩))
 | stop c=>
  have hc:0<=c/\c<=40:=hl
  have k0:=kd "stop" "word" _ rfl
  rw [show decide (("stop":Str)="word")=false by decide+kernel] at k0
  have k1:=kd "stop" "stop" _ rfl
  rw [decide_eq_true rfl] at k1
  have hi:f2 dIx (aA 1) (fC (.int 1)) p=some (.int ((c.toNat:Nat):Int)):=by rw [i1 _ _ rfl,Int.toNat_of_nonneg hc.1]
  have k2:fB (f2 dLe (aA 3) (f2 dIx (aA 1) (fC (.int 1)))) p=some (decide ((q.1:Int)<=c)):=dQ (aP v3 (i1 _ _ rfl) rfl)
  refine cV (bA k0) ?_
  unfold oV
  simp only
  by_cases k:(q.1:Int)<=c
  ·rw [if_pos k]
   rw [decide_eq_true k] at k2
   exact uP ⟨_,(bI (iX k1 k2)).trans (cD (rd (c.toNat,q.2) (bL hi rfl) v4 v5 v6))⟩
  ·rw [if_neg k]
   rw [decide_eq_false k] at k2
   exact cV (bA (iX k1 k2)) (uP ⟨_,(bI k1).trans (cD (rd (c.toNat,((q.2.1.1+1,q.2.1.2+(W-q.1)*(W-q.1)),q.2.2)) (bL hi rfl) (aP v4' rfl rfl) v7 v6))⟩)
def uA(A:Frt):List D:=A.map aV
def eI(A:Frt):D:= .dic true (cI A) (uA A)
theorem zi4:∀A:Frt,D.imms (uA A)=true
 |[]=>rfl
 |q::A=>by
  show((aV q).imm&&D.imms (uA A))=true
  rw [zi4 A,mC];rfl
theorem vM:∀(F:Frt) (k:Nat),iR (cI F) (uA F) (.inl (k:Int))=(eS F k).map fun x=>aV (k,x)
 |[],_=>rfl
 |p::F,k=>by
  show iR (.inl (p.1:Int)::cI F) (aV p::uA F) _=_
  rw [iR,eS]
  by_cases e:p.1=k
  ·rw [if_pos e,if_pos (by rw [e]),<-e];rfl
  ·rw [if_neg e,if_neg (fun z=>e (by have:=Sum.inl.inj z;omega)),vM F k]
theorem zx8:∀(F:Frt) (k:Nat) (x:Way),qF (cI F) (uA F) (.inl (k:Int)) (aV (k,x))=uA (iB F k x)
 |[],_,_=>rfl
 |p::F,k,x=>by
  show qF (.inl (p.1:Int)::cI F) (aV p::uA F) _ _=_
  rw [qF,zx8 F,iB]
  by_cases e:p.1=k
  ·rw [if_pos e,if_pos (by rw [e]),<-e];rfl
  ·rw [if_neg e,if_neg (fun z=>e (by have:=Sum.inl.inj z;omega))];rfl
def nV(A:Frt)(g:Nat×Way):Way:=match eS A g.1 with
 |none=>g.2
 |some y=>if ltW g.2 y=true then g.2 else y
theorem xp1{A:Frt}{g:Nat×Way}(nd:(A.map (·.1)).Nodup)(hl:A.length<=900):jZ (.int (g.1:Int)) (aV (g.1,nV A g)) (eI A)=some ((),eI (eG A g.1 g.2)):=by
 unfold eI jZ
 show(some (Sum.inl (g.1:Int):Key)).bind _=_
 have hz:(cI A).length<sizeLine:=by rw [zv5,sizeLine_eq];omega
 rw [Option.bind_some,if_pos ⟨zi4 A,mC _,hz⟩,vM]
 unfold eG nV
 cases e:eS A g.1 with
 |none=>
  simp only [Option.map_none,Option.isSome_none,Bool.false_eq_true,if_false]
  unfold cI uA
  rw [List.map_append,List.map_append];rfl
 |some y=>
  simp only [Option.map_some,Option.isSome_some,if_true]
  rw [zx8]
  by_cases c:ltW g.2 y=true
  ·rw [if_pos c,if_pos c,zm9]
  ·rw [if_neg c,if_neg c,zn6 nd e]
abbrev zj3:tz6:=gP 3 4 (zy8 zq9 oM)
def zf9:tz1:=aU (aT 5 (aH (aJ zq9 (aB (aA 4) (aB (aA 1) (aB (aA 2) aE))))))
 (fIf (aW (fB (f2 dLe (f2 dIx (aA 5) (fC (.int 0))) (aA 2))))
  (aU (aT 6 (aH (aQ (yR (aA 3) (f2 dIx (aA 5) (fC (.int 0))) (aA 5)))))
 (aU (fIf (aW (fB (f2 dNe (bN (aB (aQ (f2 dIx (aA 5) (fC (.int 1)))) (aB (aQ (f2 dIx (aA 5) (fC (.int 2)))) aE))) (bN (aB (aQ (f2 dIx (aA 6) (fC (.int 1)))) (aB (aQ (f2 dIx (aA 6) (fC (.int 2)))) aE))))))
  (fIf (aW (fT (aJ oM (aB (bN (aB (aQ (f2 dIx (aA 6) (fC (.int 1)))) (aB (aQ (f2 dIx (aA 6) (fC (.int 2)))) aE))) (aB (bN (aB (aQ (f2 dIx (aA 5) (fC (.int 1)))) (aB (aQ (f2 dIx (aA 5) (fC (.int 2)))) aE))) aE)))))
  (aT 6 (aH (aQ (aA 5))))
  bO)
  (fIf (aW (fT (aJ oM (aB (f2 dIx (aA 6) (fC (.int 3))) (aB (f2 dIx (aA 5) (fC (.int 3))) aE)))))
  (aT 6 (aH (aQ (aA 5))))
  bO))
 (lA 3 bU (f2 dIx (aA 5) (fC (.int 0))) (aQ (aA 6)))))
  bO)
theorem yN{p:PSt}{i:Nat}{q:Nat×Way}(h:aA i p=some (aV q)):f2 dIx (aA i) (fC (.int 0)) p=some (.int (q.1:Int))/\f2 dIx (aA i) (fC (.int 3)) p=some (.tup (bE q.2.2))/\bN (aB (aQ (f2 dIx (aA i) (fC (.int 1)))) (aB (aQ (f2 dIx (aA i) (fC (.int 2)))) aE)) p=some (.tup (bE [q.2.1.1,q.2.1.2])):=by
 have ix:∀(j:Nat) (d:D),([.int (q.1:Int),.int q.2.1.1,.int q.2.1.2,.tup (bE q.2.2)]:List D)[j]? =some d->f2 dIx (aA i) (fC (.int (j:Int))) p=some d:=fun j d e=>aP h rfl (mE e)
 exact⟨ix 0 _ rfl,ix 3 _ rfl,dW (aD (bL (ix 1 _ rfl) rfl) (aD (bL (ix 2 _ rfl) rfl) rfl)) rfl (Nat.le_of_ble_eq_true rfl)⟩
theorem xp2{x0 x1 x2 x3 x4:Option D}{g:Nat×Way}{y:Way}(ha:lC y.2 g.2.2)(hy:y.2.length<=1000):fIf (aW (fB (f2 dNe (bN (aB (aQ (f2 dIx (aA 5) (fC (.int 1)))) (aB (aQ (f2 dIx (aA 5) (fC (.int 2)))) aE))) (bN (aB (aQ (f2 dIx (aA 6) (fC (.int 1)))) (aB (aQ (f2 dIx (aA 6) (fC (.int 2)))) aE))))))
   (fIf (aW (fT (aJ oM (aB (bN (aB (aQ (f2 dIx (aA 6) (fC (.int 1)))) (aB (aQ (f2 dIx (aA 6) (fC (.int 2)))) aE))) (aB (bN (aB (aQ (f2 dIx (aA 5) (fC (.int 1)))) (aB (aQ (f2 dIx (aA 5) (fC (.int 2)))) aE))) aE)))))
   (aT 6 (aH (aQ (aA 5))))
   bO)
   (fIf (aW (fT (aJ oM (aB (f2 dIx (aA 6) (fC (.int 3))) (aB (f2 dIx (aA 5) (fC (.int 3))) aE)))))
   (aT 6 (aH (aQ (aA 5))))
   bO) [x0,x1,x2,x3,x4,some (aV g),some (aV (g.1,y))]=some (.nx,[x0,x1,x2,x3,x4,some (aV g),some (aV (g.1,if ltW g.2 y=true then g.2 else y))]):=by
 obtain⟨a0,a3,ap⟩:=yN (p:=[x0,x1,x2,x3,x4,some (aV g),some (aV (g.1,y))]) (i:=5) (q:=g) rfl
 obtain⟨b0,b3,bp⟩:=yN (p:=[x0,x1,x2,x3,x4,some (aV g),some (aV (g.1,y))]) (i:=6) (q:=(g.1,y)) rfl
 have st:aT 6 (aH (aQ (aA 5))) [x0,x1,x2,x3,x4,some (aV g),some (aV (g.1,y))]=some (.nx,[x0,x1,x2,x3,x4,some (aV g),some (aV g)]):=bJ (bL (d:=aV g) rfl (mC g))
 have t1:=dQ (aP (g:=dNe) ap bp (d:= .bl (!decide ([g.2.1.1,g.2.1.2]=[y.1.1,y.1.2]))) (by unfold dNe;rw [xd7];rfl))
 by_cases c:[g.2.1.1,g.2.1.2]=[y.1.1,y.1.2]
 ·rw [decide_eq_true c] at t1
  have l:=sP (aY (aD b3 (aD (g:=aE) a3 rfl)) (ze3 y.2 g.2.2 hy))
  rw [<-wb4 c ha] at l
  refine(fU (dF t1)).trans ?_
  by_cases z:ltW g.2 y=true
  ·rw [z] at l
   rw [if_pos z]
   exact(bI l).trans st
  ·rw [Bool.not_eq_true] at z
   rw [z] at l
   rw [if_neg (by rw [z];exact Bool.false_ne_true)]
   exact bA l
 ·rw [decide_eq_false c] at t1
  have l:=sP (aY (aD bp (aD (g:=aE) ap rfl)) (ze3 [y.1.1,y.1.2] [g.2.1.1,g.2.1.2] (Nat.le_of_ble_eq_true rfl)))
  rw [<-wb3 c] at l
  refine(bI t1).trans ?_
  by_cases z:ltW g.2 y=true
  ·rw [z] at l
   rw [if_pos z]
   exact(bI l).trans st
  ·rw [Bool.not_eq_true] at z
   rw [z] at l
   rw [if_neg (by rw [z];exact Bool.false_ne_true)]
   exact bA l
def oW(W:Int)(l:Leaf)(q:Nat×Way)(A:Frt):Frt:=match fK W true 0 l q.1 q.2.1 with
 |none=>A
 |some s=>eG A s.1 (s.2,q.2.2)
theorem xd8{W:Int}{l:Leaf}{q:Nat×Way}{A:Frt}{x0 x5 x6:Option D}(hW0:0<=W)(hW1:W<=40)(hl:eE l)(hk:q.1<=1000)(nd:(A.map (·.1)).Nodup)(hA:A.length<=900)(hap:∀a∈A,lC a.2.2 q.2.2/\a.2.2.length<=1000)(hq:q.2.2.length<=1000):
  ∃y5 y6,zf9 [x0,some (aZ l),some (.int W),some (eI A),some (aV q),x5,x6]=some (.nx,[x0,some (aZ l),some (.int W),some (eI (oW W l q A)),some (aV q),y5,y6]):=by
 have s1:aT 5 (aH (aJ zq9 (aB (aA 4) (aB (aA 1) (aB (aA 2) aE))))) [x0,some (aZ l),some (.int W),some (eI A),some (aV q),x5,x6]=some (.nx,[x0,some (aZ l),some (.int W),some (eI A),some (aV q),some (aV (oV W l q)),x6]):=bJ (aY (aD rfl (aD rfl (aD rfl rfl))) (yc9 hW0 hW1 hl hk))
 unfold oW
 rw [yv9 hl q]
 have hc:=xp0 W l q
 generalize oV W l q=g at s1 hc|-
 obtain⟨a0,a3,ap⟩:=yN (p:=[x0,some (aZ l),some (D.int W),some (eI A),some (aV q),some (aV g),x6]) (i:=5) (q:=g) rfl
 have t0:fB (f2 dLe (f2 dIx (aA 5) (fC (.int 0))) (aA 2)) [x0,some (aZ l),some (D.int W),some (eI A),some (aV q),some (aV g),x6]=some (decide ((g.1:Int)<=W)):=dQ (aP a0 rfl rfl)
 by_cases c:(g.1:Int)<=W
 ·rw [decide_eq_true c] at t0
  rw [if_pos c,<-hc]
  have ge:yR (aA 3) (f2 dIx (aA 5) (fC (.int 0))) (aA 5) [x0,some (aZ l),some (D.int W),some (eI A),some (aV q),some (aV g),x6]=some (aV (g.1,(eS A g.1).getD g.2)):=by
   unfold yR
   rw [a0]
   show yl6 (eI A) (.int (g.1:Int)) (aV g)=_
   show some ((iR (cI A) (uA A) (.inl (g.1:Int))).getD (aV g))=_
   rw [vM]
   cases eS A g.1<;>rfl
  have s2:aT 6 (aH (aQ (yR (aA 3) (f2 dIx (aA 5) (fC (.int 0))) (aA 5)))) [x0,some (aZ l),some (D.int W),some (eI A),some (aV q),some (aV g),x6]=some (.nx,[x0,some (aZ l),some (D.int W),some (eI A),some (aV q),some (aV g),some (aV (g.1,(eS A g.1).getD g.2))]):=bJ (bL ge (mC _))
  have e:(if ltW g.2 ((eS A g.1).getD g.2)=true then g.2 else(eS A g.1).getD g.2)=nV A g:=by
   unfold nV
   cases eS A g.1 with
   |none=>exact ite_self _
   |some y=>rfl
  have hh:lC ((eS A g.1).getD g.2).2 g.2.2/\((eS A g.1).getD g.2).2.length<=1000:=by
   cases e:eS A g.1 with
   |none=>
    show lC g.2.2 g.2.2/\g.2.2.length<=1000
    exact⟨⟨fun x h=>by simpa using h,fun x h=>by simpa using h⟩,by rw [hc];exact hq⟩
   |some y=>
    have:=hap _ (zi1 e)
    rw [hc];exact this
  have s3:=xp2 (x0:=x0) (x1:=some (aZ l)) (x2:=some (.int W)) (x3:=some (eI A)) (x4:=some (aV q)) (g:=g) hh.1 hh.2
  rw [e] at s3
  have s4:lA 3 bU (f2 dIx (aA 5) (fC (.int 0))) (aQ (aA 6)) [x0,some (aZ l),some (D.int W),some (eI A),some (aV q),some (aV g),some (aV (g.1,nV A g))]=some (.nx,[x0,some (aZ l),some (D.int W),some (eI (eG A g.1 g.2)),some (aV q),some (aV g),some (aV (g.1,nV A g))]):=by
   unfold lA
   rw [bL (d:=aV (g.1,nV A g)) rfl (mC _)]
   show((f2 dIx (aA 5) (fC (.int 0)) [x0,some (aZ l),some (D.int W),some (eI A),some (aV q),some (aV g),some (aV (g.1,nV A g))]).bind fun i=>(eP (jZ i (aV (g.1,nV A g))) (eI A) []).bind _)=_
   rw [(yN (p:=[x0,some (aZ l),some (D.int W),some (eI A),some (aV q),some (aV g),some (aV (g.1,nV A g))]) (i:=5) (q:=g) rfl).1,Option.bind_some]
   show((jZ (.int (g.1:Int)) (aV (g.1,nV A g)) (eI A)).bind _)=_
   rw [xp1 nd hA];rfl
  exact⟨_,_,(aM s1).trans ((bI t0).trans ((aM s2).trans ((aM s3).trans s4)))⟩
 ·rw [decide_eq_false c] at t0
  rw [if_neg c]
  exact⟨_,_,(aM s1).trans (bA t0)⟩
theorem xd9{W:Int}{l:Leaf}{q:Nat×Way}{R:List Int->Prop}{A:Frt}{n:Nat}(nd:(A.map (·.1)).Nodup)(hlen:A.length+1+n<=900)(h2:R q.2.2)(hA:∀a∈A,R a.2.2):((oW W l q A).map (·.1)).Nodup/\(oW W l q A).length+n<=900/\∀a∈oW W l q A,R a.2.2:=by
 unfold oW
 cases fK W true 0 l q.1 q.2.1 with
 |none=>exact⟨nd,by show A.length+n<=900;omega,hA⟩
 | some s=>
  refine⟨yf5 nd,?_,fun a ha=> ?_⟩
  ·have:=oE A s.1 (s.2,q.2.2)
   show(eG A s.1 (s.2,q.2.2)).length+n<=900
   omega
  ·rcases zx6 ha with z|z
   ·rw [z];exact h2
   ·exact hA a z
theorem zx9{W:Int}{l:Leaf}{R:List Int->Prop}{x0:Option D}(hW0:0<=W)(hW1:W<=40)(hl:eE l)(hR:∀a b,R a->R b->lC a b)(hR1:∀a,R a->a.length<=1000):∀(Q A:Frt) (x4 x5 x6:Option D),(A.map (·.1)).Nodup->A.length+Q.length<=900->(∀q∈Q,q.1<=1000/\R q.2.2)->(∀a∈A,R a.2.2)->
  ∃y4 y5 y6,cX 4 zf9 (Q.map aV) [x0,some (aZ l),some (.int W),some (eI A),x4,x5,x6]=some (.nx,[x0,some (aZ l),some (.int W),some (eI (dZ W true 0 l Q A)),y4,y5,y6])
 |[],A,x4,x5,x6,_,_,_,_=>⟨_,_,_,rfl⟩
 |q::Q,A,x4,x5,x6,nd,hlen,hq,hA=>by
  obtain⟨h1,h2⟩:=hq q List.mem_cons_self
  rw [List.length_cons] at hlen
  obtain⟨y5,y6,e⟩:=xd8 (x0:=x0) (x5:=x5) (x6:=x6) hW0 hW1 hl h1 nd (by omega) (fun a ha=>⟨hR _ _ (hA a ha) h2,hR1 _ (hA a ha)⟩) (hR1 _ h2)
  obtain⟨nd',hl',hA'⟩:=xd9 (W:=W) (l:=l) (q:=q) (R:=R) (A:=A) (n:=Q.length) nd (by omega) h2 hA
  obtain⟨z4,z5,z6,e2⟩:=zx9 (x0:=x0) hW0 hW1 hl hR hR1 Q (oW W l q A) (some (aV q)) y5 y6 nd' hl' (fun p hp=>hq p (List.mem_cons_of_mem _ hp)) hA'
  refine⟨z4,z5,z6,?_⟩
  show cX 4 zf9 (aV q::Q.map aV) _=_
  rw [cX]
  show((zf9 [x0,some (aZ l),some (.int W),some (eI A),some (aV q),x5,x6]).bind _)=_
  rw [e]
  exact e2
theorem zy0{F:Frt}(nd:(F.map (·.1)).Nodup)(x:Option D):∀ks:List Int,(∀k∈ks,∃q∈F,k=(q.1:Int))->fA [x,some (eI F)] gI (aQ (f2 eQ (aA 1) (aA 0))) (ks.map .int)=some ((ks.filterMap (lV F)).map aV)
 |[],_=>rfl
 | k::ks,h=>by
  obtain⟨q,hq,rfl⟩:=h k List.mem_cons_self
  have ih:=zy0 nd x ks fun j hj=>h j (List.mem_cons_of_mem _ hj)
  have e:aQ (f2 eQ (aA 1) (aA 0)) [some (.int (q.1:Int)),some (eI F)]=some (aV q):=bL (aP rfl rfl (by
   show(some (Sum.inl (q.1:Int):Key)).bind _=_
   rw [Option.bind_some,vM,hJ nd hq];rfl)) (mC q)
  have p:lV F (q.1:Int)=some q:=by unfold lV;rw [Int.toNat_natCast,hJ nd hq];rfl
  rw [List.map_cons,fA,List.filterMap_cons_some p,List.map_cons]
  show(some true).bind (fun b=>if b=true then(aQ (f2 eQ (aA 1) (aA 0)) [some (.int (q.1:Int)),some (eI F)]).bind _ else _)=_
  rw [Option.bind_some,if_pos rfl,e,Option.bind_some,ih];rfl
theorem xw1{W:Int}{l:Leaf}{R:List Int->Prop}{Q:Frt}(hW0:0<=W)(hW1:W<=40)(hl:eE l)(hR:∀a b,R a->R b->lC a b)(hR1:∀a,R a->a.length<=1000)(hQ:Q.length<=60)(hq:∀q∈Q,q.1<=1000/\R q.2.2):zj3 [.lst true (Q.map aV),aZ l,.int W]=some (.lst true ((rdL (dZ W true 0 l Q [])).map aV)):=by
 have nd:=(kJ (W:=W) (b:=true) (m:=0) (l:=l) (F:=Q) (G:=[]) List.nodup_nil).1
 have lenF:∀(F G:Frt),(dZ W true 0 l F G).length<=G.length+F.length:=fun F=>by
  induction F with
  |nil=>intro G;exact Nat.le_refl _
  | cons p F ih=>
   intro G
   have h:=ih (oW W l p G)
   have e:(oW W l p G).length<=G.length+1:=by
    unfold oW
    cases fK W true 0 l p.1 p.2.1 with
    |none=>exact Nat.le_succ _
    |some s=>exact oE G s.1 _
   rw [List.length_cons]
   exact Nat.le_trans h (by omega)
 have ln:=lenF Q []
 rw [List.length_nil] at ln
 obtain⟨y4,y5,y6,e⟩:=zx9 (x0:=some (.lst true (Q.map aV))) hW0 hW1 hl hR hR1 Q [] none none none List.nodup_nil (by rw [List.length_nil];omega) hq (fun a h=>absurd h List.not_mem_nil)
 generalize dZ W true 0 l Q []=F at nd ln e|-
 have s1:aT 3 (aH nI) [some (.lst true (Q.map aV)),some (aZ l),some (.int W),none,none,none,none]=some (.nx,[some (.lst true (Q.map aV)),some (aZ l),some (.int W),some (eI []),none,none,none]):=rfl
 have s2:fJ 4 (eL (aA 0)) zf9 [some (.lst true (Q.map aV)),some (aZ l),some (.int W),some (eI []),none,none,none]=some (.nx,[some (.lst true (Q.map aV)),some (aZ l),some (.int W),some (eI F),y4,y5,y6]):=uO (if_pos (zi4 Q)) e
 have nl:(fD F).length<=60:=by unfold fD;rw [List.length_map];omega
 have e1:aJ pH (aB (aA 3) aE) [some (.lst true (Q.map aV)),some (aZ l),some (.int W),some (eI F),y4,y5,y6]=some (.lst true ((PySem.W.sortI (fD F)).map .int)):=by
  refine aY (aD (d:=eI F) rfl rfl) ?_
  show(vW (cI F)).bind _=_
  rw [tW,Option.bind_some,if_pos (by omega)]
 have c:=zy0 nd none (PySem.W.sortI (fD F)) fun k hk=>by
  have hk':=(PySem.W.sortI_perm _).mem_iff.mp hk
  obtain⟨q,hq,e⟩:=List.mem_map.mp hk'
  exact⟨q,hq,e.symm⟩
 have im:∀ks:List Int,D.imms (ks.map .int)=true:=fun ks=>fY ks
 have sl:((PySem.W.sortI (fD F)).map D.int).length<=sizeLine:=by
  rw [List.length_map,(PySem.W.sortI_perm _).length_eq];exact sz (by omega)
 have e2:gR [none,some 3] (eL (aJ pH (aB (aA 3) aE))) gI (aQ (f2 eQ (aA 1) (aA 0))) [some (.lst true (Q.map aV)),some (aZ l),some (.int W),some (eI F),y4,y5,y6]=some (.lst true ((rdL F).map aV)):=by
  unfold gR eL
  rw [e1,Option.bind_some]
  show((if D.imms ((PySem.W.sortI (fD F)).map D.int)=true then some ((PySem.W.sortI (fD F)).map D.int) else none).bind _)=_
  rw [if_pos (im _),Option.bind_some,if_pos sl]
  show(fA [none,some (eI F)] gI (aQ (f2 eQ (aA 1) (aA 0))) _).bind _=_
  rw [c];rfl
 exact lM rfl (cV s1 (cV s2 ⟨_,cD e2⟩))
theorem xe0(Q:List (Nat×Way)):dNe (.lst true (Q.map aV)) (.lst true (Q.map aV))=some (.bl false):=by
 obtain⟨ps,b1,b2,b3⟩:=ze2 Q
 unfold dNe
 rw [xo8 ⟨fun _ h=>D.noConfusion h,fun _ h=>D.noConfusion h⟩ (p:= .list ps) (by rw [D.data,b1];rfl) b2 (by show PyData.depthAll ps+1<=60;omega)];rfl
section
variable{GM GC:tz6}{S:D}
def xY(GM GR:tz6):tz1:=aU (aT 5 (aH (aJ tN (aB (aJ GM (aB (aA 0) (aB (f2 bP (fC (.int 30)) (aA 4)) (aB (fC (.int 52)) aE)))) aE))))
 (fIf (aW (fB (f2 dNe (aJ GR (aB (f2 bP (aA 1) (bN (aB (aQ (aA 5)) aE))) (aB (aA 2) aE))) (aJ zj3 (aB (aA 3) (aB (aA 5) (aB (aA 2) aE)))))))
  (cA (aH (fC (.bl false))))
  bO)
theorem yw0{GR:tz6}{r:List Pc}{W:Int}{Q:List (Nat×Way)}(hr:r.length<=900)(hM:∀j s:Int,0<=j->j<1000->0<=s->s<1000->∃a,GM [S,.int j,.int s]=some (.int a)/\0<=a)(hb:∀l,eE l->∃Q':List (Nat×Way),GR [.tup (pcsD (r++[.leaf l])),.int W]=some (.lst true (Q'.map aV))/\zj3 [.lst true (Q.map aV),aZ l,.int W]=some (.lst true (Q'.map aV))):∀(js:List Int) (x4 x5:Option D),(∀j∈js,0<=j/\j<=900)->∃z,cX 4 (xY GM GR) (js.map .int) [some S,some (.tup (pcsD r)),some (.int W),some (.lst true (Q.map aV)),x4,x5]=some (.nx,z)
 |[],_,_,_=>⟨_,rfl⟩
 | j::js,x4,x5,hj=>by
  obtain⟨a,qa,ha⟩:=hM (30+j) 52 (by have:=hj j List.mem_cons_self;omega) (by have:=hj j List.mem_cons_self;omega) (by decide) (by decide)
  obtain⟨l,ql,hlf⟩:=yf2 ha
  obtain⟨Q',q1,q2⟩:=hb l hlf
  obtain⟨z,e⟩:=yw0 hr hM hb js (some (.int j)) (some (aZ l)) fun i hi=>hj i (List.mem_cons_of_mem _ hi)
  refine⟨z,?_⟩
  show cX 4 (xY GM GR) (.int j::js.map .int) _=_
  rw [cX]
  show((xY GM GR [some S,some (.tup (pcsD r)),some (.int W),some (.lst true (Q.map aV)),some (.int j),x5]).bind _)=_
  have s1:aT 5 (aH (aJ tN (aB (aJ GM (aB (aA 0) (aB (f2 bP (fC (.int 30)) (aA 4)) (aB (fC (.int 52)) aE)))) aE))) [some S,some (.tup (pcsD r)),some (.int W),some (.lst true (Q.map aV)),some (.int j),x5]=some (.nx,[some S,some (.tup (pcsD r)),some (.int W),some (.lst true (Q.map aV)),some (.int j),some (aZ l)]):=bJ (aY (aD (aY (aD rfl (aD (aP rfl rfl rfl) (aD rfl rfl))) qa) rfl) ql)
  have hi:(aZ l).imm=true:=by cases l<;>rfl
  have ad:f2 bP (aA 1) (bN (aB (aQ (aA 5)) aE)) [some S,some (.tup (pcsD r)),some (.int W),some (.lst true (Q.map aV)),some (.int j),some (aZ l)]=some (.tup (pcsD (r++[.leaf l]))):=by
   refine aP (x:= .tup (pcsD r)) rfl (dW (ds:=[aZ l]) (aD (bL rfl hi) rfl) (by simp [D.imms,hi]) (by simp)) ?_
   rw [vF]
   show(if (pcsD r).length+1<=sizeLine then _ else none)=_
   rw [if_pos (sz (by rw [vG];omega))];rfl
  have t:fB (f2 dNe (aJ GR (aB (f2 bP (aA 1) (bN (aB (aQ (aA 5)) aE))) (aB (aA 2) aE))) (aJ zj3 (aB (aA 3) (aB (aA 5) (aB (aA 2) aE))))) [some S,some (.tup (pcsD r)),some (.int W),some (.lst true (Q.map aV)),some (.int j),some (aZ l)]=some false:=dQ (aP (aY (aD ad (aD rfl rfl)) q1) (aY (aD rfl (aD rfl (aD rfl rfl))) q2) (xe0 Q'))
  rw [show xY GM GR [some S,some (.tup (pcsD r)),some (.int W),some (.lst true (Q.map aV)),some (.int j),x5]=some (.nx,[some S,some (.tup (pcsD r)),some (.int W),some (.lst true (Q.map aV)),some (.int j),some (aZ l)]) from(aM s1).trans (bA t)]
  exact e
abbrev xz1(k1 k2:Nat)(GM GC:tz6):tz6:=gP 1 5 (yw6 (xf7 GM tN) GM (zz8 GM) (zz7 (qT (wD GM GC) k1)) (uW k2) tN zj3)
theorem yk6{k1 k2:Nat}(hk1:12<k1)(hk2:12<k2)(hS:S.imm=true)(hM:∀j s:Int,0<=j->j<1000->0<=s->s<1000->∃a,GM [S,.int j,.int s]=some (.int a)/\0<=a)(hC:∀j:Int,0<=j->j<1000->∃a,GC [S,.int j]=some (.int a)):xz1 k1 k2 GM GC [S]=some (.bl true):=by
 obtain⟨a,qa,ha⟩:=hM 0 51 (by decide) (by decide) (by decide) (by decide)
 have m0:=Int.emod_nonneg a (show(21:Int)≠0 by decide)
 have m1:=Int.emod_lt_of_pos a (show(0:Int)<21 by decide)
 obtain⟨mr,hmr⟩:∃mr:Nat,a % 21=(mr:Int):=⟨(a % 21).toNat,by omega⟩
 obtain⟨r,q0,hr⟩:=xv8 (GM:=GM) (GL:=tN) (S:=S) (nest:=3) (a:=8) (many:=mr) (fun m hm=>yf2 hm) (fun j s hj hs=>hM j s (by omega) (by omega) (by omega) (by omega)) (by decide) (by omega) (by decide)
 have s1:aT 1 (aH (aJ (xf7 GM tN) (aB (aA 0) (aB (fC (.int 8)) (aB (f2 dG (aJ GM (aB (aA 0) (aB (fC (.int 0)) (aB (fC (.int 51)) aE)))) (fC (.int 21))) (aB (fC (.int 3)) aE)))))) [some S,none,none,none,none,none]=some (.nx,[some S,some (.tup (pcsD r)),none,none,none,none]):=by
  refine bJ (aY (ds:=[S,.int ((8:Nat):Int),.int (mr:Int),.int ((3:Nat):Int)]) (aD rfl (aD rfl (aD ?_ (aD rfl rfl)))) q0)
  refine aP (aY (aD rfl (aD rfl (aD rfl rfl))) qa) rfl ?_
  rw [<-hmr]
  exact(gU _ _).trans (if_pos (by decide))
 have hdr:yW S (wD GM GC):=fun t cs n many salt h1 h2 h3 h4 h5=>xo1 hM hC h1 h2 h3 h4 h5
 have hd3:depR r<=3:=hr.dep
 have l8:(toksR r).length<=700:=Nat.le_trans hr.len (by omega)
 have hrl:r.length<=700:=Nat.le_trans (vH r) l8
 obtain⟨C,t,qd,hs,_,ht,_⟩:=xc9 (salt:=1) hS (ye6 hS hdr k1 r (by omega) hr.ok) (by omega) (by omega) (by decide) (by decide)
 obtain⟨W,qw,w0,w1⟩:=xd3 (GM:=GM) (S:=S) hM ht
 have qr:=zw0 (W:=W) (n:=k2) (r:=r) (by omega) w1 (by omega) (by omega) hr.ok (by omega)
 have gd:Good W (fun cs t=>setR true 0 r cs ⟨#[]⟩=some ([],t)) (eM W k2 r):=zd3 (n:=k2) (by omega) (by omega) hr.ok (by omega)
 have hlen:=gd.len w1
 generalize hQ:rdL (eM W k2 r)=Q at qr
 have hm:∀q,q∈eM W k2 r↔q∈Q:=fun q=>by rw [<-hQ];exact(zi0 gd.nd).symm
 have hQl:Q.length<=60:=by
  rw [<-hQ]
  unfold rdL
  refine Nat.le_trans (List.length_filterMap_le _ _) ?_
  rw [(PySem.W.sortI_perm _).length_eq]
  unfold fD
  rw [List.length_map];omega
 have hb:∀l,eE l->∃Q':List (Nat×Way),uW k2 [.tup (pcsD (r++[.leaf l])),.int W]=some (.lst true (Q'.map aV))/\zj3 [.lst true (Q.map aV),aZ l,.int W]=some (.lst true (Q'.map aV)):=fun l hl=>by
  have d1:depR (r++[.leaf l])<=3:=by rw [sM];show max _ 0<=3;omega
  have l1:(toksR (r++[.leaf l])).length<=800:=by rw [mY,List.length_append];show _+1<=_;omega
  refine⟨_,zw0 (W:=W) (n:=k2) (by omega) w1 (by omega) (by omega) ((yI _ _).mpr ⟨hr.ok,(zh6 _).mpr hl⟩) l1,?_⟩
  rw [yk4 (by omega),yv8 hm]
  refine xw1 (R:=fun c=>∃t,setR true 0 r c ⟨#[]⟩=some ([],t)) (by omega) w1 hl (fun a b ⟨s,ha⟩ ⟨t,hb⟩=> ?_) (fun a ⟨s,ha⟩=> ?_) hQl (fun q hq=> ?_)
  ·refine⟨fun x e=> ?_,fun x e=> ?_⟩
   ·subst e
    rw [setR_more x ha] at hb
    simpa using congrArg (fun o=>o.map Prod.fst) hb
   ·subst e
    rw [setR_more x hb] at ha
    simpa using congrArg (fun o=>o.map Prod.fst) ha
  ·have:=setR_len ha
   simp at this
   omega
  ·obtain⟨t',e,hc⟩:=gd.hit q ((hm q).mpr hq)
   obtain⟨xs,y,c1,c2,c3,_⟩:=hc
   have:=c2 y (by simp)
   exact⟨by omega,t',e⟩
 obtain⟨z,lp⟩:=yw0 (S:=S) (GR:=uW k2) (W:=W) (Q:=Q) (r:=r) (by omega) hM hb ((List.range 6).map fun(k:Nat)=>(0:Int)+(k:Int)) none none (fun j hj=>by obtain⟨k,hk,rfl⟩:=List.mem_map.mp hj;have:=List.mem_range.mp hk;omega)
 rw [<-ys5] at lp
 have s3:aT 2 (aH (aJ (zz8 GM) (aB (aA 0) (aB (f2 dIx (aJ (zz7 (qT (wD GM GC) k1)) (aB (aA 0) (aB (aA 1) (aB (fC (.int 1)) aE)))) (fC (.int 0))) aE)))) [some S,some (.tup (pcsD r)),none,none,none,none]=some (.nx,[some S,some (.tup (pcsD r)),some (.int W),none,none,none]):=
  bJ (aY (aD rfl (aD (aP (aY (aD rfl (aD rfl (aD rfl rfl))) qd) rfl (kG _ _)) rfl)) qw)
 have s4:aT 3 (aH (aJ (uW k2) (aB (aA 1) (aB (aA 2) aE)))) [some S,some (.tup (pcsD r)),some (.int W),none,none,none]=some (.nx,[some S,some (.tup (pcsD r)),some (.int W),some (.lst true (Q.map aV)),none,none]):=bJ (aY (aD rfl (aD rfl rfl)) qr)
 have s5:fJ 4 (kZ (aB (fC (.int 6)) aE)) (xY GM (uW k2)) [some S,some (.tup (pcsD r)),some (.int W),some (.lst true (Q.map aV)),none,none]=some (.nx,z):=by
  unfold fJ
  rw [show kZ (aB (fC (.int 6)) aE) [some S,some (.tup (pcsD r)),some (.int W),some (.lst true (Q.map aV)),none,none]=some (eZ 0 6) from yd4 (j:=6) (by decide) (by decide)]
  exact lp
 exact gM rfl ((aM s1).trans ((aM s3).trans ((aM s4).trans ((aM s5).trans (cD rfl)))))
end
end My
namespace My
open PySem PySem.Spec PyProof.Rows L2 L3
variable{P:Program}{w:World}{K:tz0}{mg:tzA}{base:Heap}{κ:tz9}
abbrev xZ:List D->Option (List Int):=D.ints
theorem vN:∀ns:List Int,xZ (ns.map .int)=some ns
 |[]=>rfl
 |n::ns=>by show(D.ints (ns.map .int)).map (n::·)=_;rw [show D.ints (ns.map .int)=some ns from vN ns];rfl
def yl9:tz6
 |[.con xs,.int k,.int s]=>match xZ xs with
  |some ns=>if ns.length<=63/\(0<=k/\k<1000000)/\(0<=s/\s<1000000) then some (.int (vX ns k s)) else none
  |none=>none
 |_=>none
theorem xe1{ns:List Int}(h:ns.length<=63)(k s:Int)(hk:0<=k)(hk1:k<1000)(hs:0<=s)(hs1:s<1000):∃m,yl9 [.con (ns.map .int),.int k,.int s]=some (.int m)/\0<=m:=by
 refine⟨vX ns k s,?_,(ya5 ns k s).1⟩
 show(match xZ (ns.map .int) with|some ns=>if ns.length<=63/\(0<=k/\k<1000000)/\(0<=s/\s<1000000) then some (D.int (vX ns k s)) else none|none=>none)=_
 rw [vN]
 exact if_pos ⟨h,⟨hk,by omega⟩,hs,by omega⟩
theorem we3{k:Nat}{f:Addr}{fd:FuncData}{ps:List Str}(F:FnOk P w K mg base CX0 k f fd ps (yf6 K)):FnOk P w K mg base CX0 k f fd ps (SpP 3 K κ yl9):=by
 refine F.imp fun vs H Q E ⟨_,ds,fp,d,r,e,q⟩=> ?_
 unfold yl9 at e
 split at e
 ·rename_i xs k s
  split at e
  ·rename_i ns hns
   obtain⟨hc,e⟩:=bV e
   cases e
   obtain⟨v1,us,f,g,rfl,r1,r2,rfl⟩:=r.split
   obtain⟨v2,us2,f2,g2,rfl,r3,r4,rfl⟩:=r2.split
   obtain⟨v3,rfl,r5⟩:=r4.one_inv
   rw [r3.is_int,r5.is_int]
   obtain⟨a,vs,rfl,hS,hs⟩:=r1.con_inv
   rw [mF hs hns] at hS
   exact⟨a,ns,k,s,rfl,hS.l,hc.1,hc.2.1,hc.2.2,q _ H [] (SameK.refl H) (fun _ ha=>absurd ha (by simp)) List.nodup_nil (.int _)⟩
  ·cases e
 ·cases e
def zr0(K:tz0):Sp:=fun vs H Q _=>∃(a:Addr) (ns:List Int),vs=[.ref a]/\SqF K H a (ns.map V.int)/\ns.length<=63/\∀H',Q (.bl true) H'
theorem zn7{H:Hp}:∀ns:List Int,Reps K κ H (ns.map V.int) (ns.map .int) []
 |[]=> .nil
 |n::ns=> .cons (f:=[]) (g:=[]) (.int n) (zn7 ns)
theorem we4{k:Nat}{f:Addr}{fd:FuncData}{ps:List Str}{g:tz6}(F:FnOk P w K mg base CX0 k f fd ps (SpP 1 K κ g))(h:∀ns:List Int,ns.length<=63->g [.con (ns.map .int)]=some (.bl true)):FnOk P w K mg base CX0 k f fd ps (zr0 K):=
 F.imp fun vs H Q E ⟨a,ns,e,hS,hl,q⟩=>e▸⟨rfl,[.con (ns.map .int)],[],.bl true,.cons (f:=[]) (g:=[]) (.con hS (zn7 ns)) .nil,h ns hl,fun v H' fv _ _ _ r=>by cases r;exact q H'⟩
def Cur:Nat->(List Value->Prop)->Prop
 |0,P=>P []
 |n+1,P=>∀a,Cur n fun us=>P (a::us)
theorem zi5{n:Nat}:∀{P:List Value->Prop},Cur n P->∀us:List Value,us.length=n->P us:=by
 induction n with
 |zero=>intro P h us hl;cases List.eq_nil_of_length_eq_zero hl;exact h
 |succ n ih=>
  intro P h us hl
  cases us with
  |nil=>cases hl
  |cons a us=>exact ih (h a) us (Nat.succ.inj hl)
structure FzT(K:tz0)(x:Str)(st:Stmt)(f:Addr)(fd:FuncData):Prop where
 a:PySem.W.nsIn K mainGlobals x=some (some (.ref f))
 F:Fun K x x st f fd
structure MzT(K:tz0)(C:Addr)(m q:Str)(st:Stmt)(f:Addr)(fd:FuncData):Prop where
 i:PySem.W.findIn K (.ref C) m=some (some (.ref f))
 s:PySem.W.isFn K (.ref f)=true
 F:Fun K m q st f fd
structure CzT(K:tz0)(x:Str)(C:Addr):Prop where
 a:PySem.W.nsIn K mainGlobals x=some (some (.ref C))
 g:PySem.W.plainGet K C Str.empty=true
 d:PySem.W.hasDictIn K C=true
 o:PySem.W.plainOver K C=true
 s:PySem.W.findIn K (.ref C) "__setattr__"=some (some (.builtin "object.__setattr__"))
 m:PySem.W.makesIn K C=true
 k:PySem.W.keepIn K (.ref C)=true
theorem wb5{x:Str}{v:Value}{p:Value->Prop}(h:PySem.W.nsIn K mainGlobals x=some (some v))(h2:p v):∃v,PySem.W.nsIn K mainGlobals x=some (some v)/\p v:=⟨v,h,h2⟩
abbrev BiT(x q:Str)(st:Stmt)(ps:List Str):Prop:=∀(kV doc pm:Value) (an:Option Addr) (cdv ct:Value) (us:List Value),us.length=ps.length->bindArgs (PySem.W.fnOf x q (uS st) (mO st) (aX st) .none kV doc pm an cdv ct) ⟨us,[]⟩=pure (ps.zip us)
theorem dU{N ps:List Str}{h:Heap}{x:Str}{st:Stmt}{f:Addr}{fd:FuncData}(_:FnScope N ps (aX st))(X:K.In h)(G:h.Ns mainGlobals mg)(a:FzT K x st f fd)(hb:BiT x x st ps:=by exact fun _ _ _ _ _ _=>zi5 (by(repeat intro _);exact rfl)):Dn K mg x st ps f fd:=
 ⟨a.F,a.F.binds hb,PySem.W.mg_of X G a.a⟩
theorem zp5{x:Str}{C:Addr}(e:κ x=C)(c:CzT K x C):Cls K (κ x):=by rw [e];exact⟨c.g,c.d,c.o,c.s⟩
theorem zy1{x y:Str}{C:Addr}(e:κ x=C)(h:PySem.W.findIn K (.ref C) y=some none):cY K (κ x) y:=by rw [e];exact h
theorem yk7{N ps:List Str}{x m q:Str}{C:Addr}{st:Stmt}{f:Addr}{fd:FuncData}(_:FnScope N ps (aX st))(e:κ x=C)(c:CzT K x C)(a:MzT K C m q st f fd)(hb:BiT m q st ps:=by exact fun _ _ _ _ _ _=>zi5 (by(repeat intro _);exact rfl)):Mn K κ x m q st ps f fd:=
 ⟨a.F,a.F.binds hb,zp5 e c,by rw [e];exact⟨a.i,a.s,a.F.kp⟩⟩
theorem xe2{N ps:List Str}{h:Heap}{x q:Str}{C:Addr}{st:Stmt}{f:Addr}{fd:FuncData}(_:FnScope N ps (aX st))(X:K.In h)(G:h.Ns mainGlobals mg)(e:κ x=C)(c:CzT K x C)(a:MzT K C "__init__" q st f fd)(hb:BiT "__init__" q st ps:=by exact fun _ _ _ _ _ _=>zi5 (by(repeat intro _);exact rfl)):Kn K mg κ x q st ps f fd:=
 ⟨a.F,a.F.binds hb,by rw [e];exact⟨c.m,a.i,a.s,c.k⟩,by rw [e];exact PySem.W.mg_of X G c.a⟩
theorem _root_.L2.FnOk.up{CX:CXT}{k k':Nat}{f:Addr}{fd:FuncData}{ps:List Str}{sp:Sp}(h:FnOk P w K mg base CX k f fd ps sp)(hk:k<=k':=by decide):FnOk P w K mg base CX k' f fd ps sp:=h.mono hk
theorem we5{l:PySem.W.OpenLaw}{q:Program}{loose:List Str}{XP:(tzA)->Heap->Prop}{YP:World->Heap->Prop}{d:DefRec}{K:Params->tz0}{lev:Nat}(hn:l.most=some 63)(hdf:d.params.defaults=[])(hr:Room lev callerA)
  (hY:∀(w:World) (h:Heap),YP w h->(K w.params).In h)
  (F:∀(w:World) (mg:tzA) (fa:Addr) (h:Heap),(K w.params).In h->h.Ns mainGlobals mg->mg d.name=some (.ref fa)->
   ∃fd:FuncData,(∀(s:Shared) (u:Value),BindsTo s fd ⟨[u],[]⟩ [("_law_script",u)])/\∀base:Heap,(K w.params).In base->base.Ns mainGlobals mg->FnOk l.prog w (K w.params) mg base CX0 lev fa fd ["_law_script"] (zr0 (K w.params))):
  PySem.W.WalkO q loose XP YP l.row.toRowW d [] (fun f vs=>PySem.call f vs):=
 L2.xj9 (n:=63) (k:=lev) (x:="_law_script") (CX:=fun _=>CX0) (sp:=fun w=>zr0 (K w.params)) hn (by decide) hdf hr hY F (fun _ H a ns hl hO hS=>⟨a,ns,rfl,by
  rcases hS with (h|h)|h
  ·rcases hO a with z|⟨o,xs,z⟩<;>rw [h] at z<;>cases z
  ·exact .inl h
  ·exact .inr h,hl,fun _=>rfl⟩) fun _ _ _ _ _ z=>z
end My
namespace My
open PySem PySem.Spec PyProof.Rows L2 L3
variable{P:Program}{w:World}{K:tz0}{mg:tzA}{base:Heap}{κ:tz9}
def zr1:tz6
 |[.con xs,.int k]=>match xZ xs with
  |some ns=>some (.int (pJ ns k))
  |none=>none
 |_=>none
theorem yw1(ns:List Int)(k:Int):zr1 [.con (ns.map .int),.int k]=some (.int (pJ ns k)):=by
 show(match xZ (ns.map .int) with|some ns=>some (D.int (pJ ns k))|none=>none)=_
 rw [vN]
theorem wb6{k:Nat}{f:Addr}{fd:FuncData}{ps:List Str}(F:FnOk P w K mg base CX0 k f fd ps (zy6 K)):FnOk P w K mg base CX0 k f fd ps (SpP 2 K κ zr1):=by
 refine F.imp fun vs H Q E ⟨_,ds,fp,d,r,e,q⟩=> ?_
 unfold zr1 at e
 split at e
 ·rename_i xs k
  split at e
  ·rename_i ns hns
   cases e
   obtain⟨v1,us,f,g,rfl,r1,r2,rfl⟩:=r.split
   obtain⟨v3,rfl,r5⟩:=r2.one_inv
   rw [r5.is_int]
   obtain⟨a,vs,rfl,hS,hs⟩:=r1.con_inv
   rw [mF hs hns] at hS
   exact⟨a,ns,k,rfl,hS.l,q _ H [] (SameK.refl H) (fun _ ha=>absurd ha (by simp)) List.nodup_nil (.int _)⟩
  ·cases e
 ·cases e
end My
namespace My
open PySem PySem.Spec PyProof.Rows L2 L3
theorem xw2{l:PySem.W.OpenLaw}{w:World}{K:tz0}{h:Heap}{mg:tzA}{fa:Addr}(X:K.In h)(G:h.Ns mainGlobals mg)(hfa:mg "law"=some (.ref fa))
  (lr:FzT K "first_place" jJ jh ja)
  (l7:FzT K "holds_rows" kA jr jg)
  (ku:FzT K "takes_choice" iT i6 il)
  (o7:FzT K "ways" pK nj ml)
  (m8:FzT K "new_line" lQ kb j6)
  (n9:FzT K "writing" nK k8 km)
  (mi:FzT K "ends_line" jA d8 dh)
  (kn:FzT K "column_behind" iM iu ij)
  (lu:FzT K "with_choice" jK je i7)
  (kx:FzT K "behind_plain" iU i9 iq)
  (ko:FzT K "behind_holder" iN ip ie)
  (l9:FzT K "behind_row" st_p_behind_row di dc)
  (kq:FzT K "behind_pieces" iO ir ii)
  (m9:FzT K "lines_of" jP gl d9)
  (o8:FzT K "fits" pO nk mm)
  (oy:FzT K "price" nM mn ly)
  (lw:FzT K "roads_begin" jL ji jb)
  (oz:FzT K "roads" nO m7 l6)
  (oa:FzT K "_law_cell_at" kM ky kf)
  (o3:FzT K "_law_mixed" jI cr ce)
  (o9:FzT K "_law_word" tD no mo)
  (pb:FzT K "_law_leaf" pR jy jj)
  (pd:FzT K "_law_shut" tF nq mq)
  (pz:FzT K "_law_row" vZ on n6)
  (pe:FzT K "_law_next" tH nu mx)
  (ph:FzT K "_law_line" pV jz jk)
  (oj:FzT K "_law_column" oQ lz kz)
  (pj:FzT K "_law_stop" tJ nr mw)
  (na:FzT K "_law_leaf_set" lS kg j7)
  (p6:FzT K "_law_set" wB om nv)
  (o4:FzT K "_law_drawn" qR m6 l5)
  (ol:FzT K "_law_behind" oR l3 k7)
  (o5:FzT K "_law_width" nR mz l4)
  (pq:FzT K "_law_gone" tK nz my)
  (p7:FzT K "_law_due" sE oo n8)
  (og:FzT K "law" zy9 qp qf)
  (z0:PySem.W.nsIn K mainGlobals "len"=some none)
  (z1:PySem.W.nsIn K mainGlobals "enumerate"=some none)
  (z2:PySem.W.nsIn K mainGlobals "all"=some none)
  (z3:PySem.W.nsIn K mainGlobals "sum"=some none)
  (z4:PySem.W.nsIn K mainGlobals "sorted"=some none)
  (z5:PySem.W.nsIn K mainGlobals "max"=some none)
  (z6:PySem.W.nsIn K mainGlobals "range"=some none)
  (z7:PySem.W.nsIn K mainGlobals "tuple"=some none)
  (z8:PySem.W.nsIn K mainGlobals "int"=some none)
  (z9:PySem.W.nsIn K mainGlobals "min"=some none)
  (g0:PySem.W.nsIn K mainGlobals "HOLDERS"=some (some (.ref ic)))
  (o6:K.lookup ic=some ⟨.type "tuple",qg,.seq #[.str "group" qh,.str "hang" qi,.str "either" qj] qk,qm⟩)
  (oh:CzT K "Place" jt)
  (ng:MzT K jt "__init__" "Place.__init__" st_Place_init f7 d7)
  (pr:PySem.W.findIn K (.ref jt) "broken"=some none)
  (pw:PySem.W.findIn K (.ref jt) "margin"=some none)
  (j4:CzT K "Front" g8)
  (nh:MzT K g8 "__init__" "Front.__init__" st_Front_init bg a8)
  (oi:MzT K g8 "add" "Front.add" st_Front_add bz bi)
  (lx:MzT K g8 "add_all" "Front.add_all" st_Front_add_all jf i8)
  (p8:PySem.W.findIn K (.ref g8) "steps"=some none)
  (qc:PySem.W.findIn K (.ref g8) "best"=some none)
  (dj:CzT K "WithinWidth" cc)
  (j8:MzT K cc "__init__" "WithinWidth.__init__" st_WithinWidth_init ig gs)
  (ik:MzT K cc "state_behind" "WithinWidth.state_behind" st_WithinWidth_state_behind c7 cq)
  (ju:MzT K cc "rag_of" "WithinWidth.rag_of" st_WithinWidth_rag_of gq fm)
  (p9:PySem.W.findIn K (.ref cc) "width"=some none)
  :∃fd:FuncData,(∀(s:Shared) (v:Value),BindsTo s fd ⟨[v],[]⟩ [("_law_script",v)])/\∀base:Heap,K.In base->base.Ns mainGlobals mg->FnOk l.prog w K mg base CX0 46 fa fd ["_law_script"] (zr0 K):=by
 have e:=hfa.symm.trans (PySem.W.mg_of X G og.a)
 cases e
 have bj:=dU rM X G lr
 have b4:=dU sN X G l7
 have a9:=dU qH X G ku
 have gu:=dU sO X G o7
 have b6:=dU wJ X G m8
 have c9:=dU rN X G n9
 have ax:=dU uL X G mi
 have az:=dU oZ X G kn
 have bn:=dU gY X G lu
 have bc:=dU fF X G kx
 have a6:=dU dY X G ko
 have ar:=dU gH X G l9
 have a7:=dU pA X G kq
 have ay:=dU wK X G m9
 have gx:=dU zm0 X G o8
 have ff:=dU qN X G oy
 have bq:=dU jH X G lw
 have dg:=dU vE X G oz
 have cf:=dU xB X G oa
 have ao:=dU jG X G o3
 have gz:=dU iJ X G o9
 have cu:=dU xF X G pb
 have eo:=dU fX X G pd
 have i4:=dU kD X G pz
 have eu:=dU pB X G pe
 have cv:=dU zm1 X G ph
 have cw:=dU zF X G oj
 have g5:=dU zm2 X G pj
 have ck:=dU wL X G na
 have db:=dU gZ X G p6
 have fj:=dU qO X G o4
 have cz:=dU tT X G ol
 have fk:=dU mZ X G o5
 have g7:=dU kE X G pq
 have i5:=dU kF X G p7
 have ox:=dU rO X G og
 obtain⟨κ,hκ⟩:∃κ,κ=(kap [("Place",jt),("Front",g8),("WithinWidth",cc)]):=⟨_,rfl⟩
 have j5:κ "Place"=jt:=by rw [hκ];simp [kap,fN]
 have am:=zp5 j5 oh
 have c8:=xe2 wM X G j5 oh ng
 have av:=zy1 j5 pr
 have bx:=zy1 j5 pw
 have g9:κ "Front"=g8:=by rw [hκ];simp [kap,fN]
 have aa:=zp5 g9 j4
 have ba:=xe2 wN X G g9 j4 nh
 have ah:=yk7 xG g9 j4 oi
 have bo:=yk7 lZ g9 j4 lx
 have bb:=zy1 g9 p8
 have ai:=zy1 g9 qc
 have cm:κ "WithinWidth"=cc:=by rw [hκ];simp [kap,fN]
 have al:=zp5 cm dj
 have b9:=xe2 nW X G cm dj j8
 have af:=yk7 eK cm dj ik
 have au:=yk7 mI cm dj ju
 have cg:=zy1 cm p9
 have ac:=PySem.W.mg_none_of X G z0
 have jn:=PySem.W.mg_none_of X G z1
 have oq:=PySem.W.mg_none_of X G z2
 have ot:=PySem.W.mg_none_of X G z3
 have gy:=PySem.W.mg_none_of X G z4
 have jv:=PySem.W.mg_none_of X G z5
 have ca:=PySem.W.mg_none_of X G z6
 have cb:=PySem.W.mg_none_of X G z7
 have ou:=PySem.W.mg_none_of X G z8
 have kr:=PySem.W.mg_none_of X G z9
 have j9:=PySem.W.mg_of X G g0
 have ka:∀H,Rep K κ H (.ref ic) (.tup [(.str "group"),(.str "hang"),(.str "either")]) []:=fun H=>yz8 (ys:=[("group",_),("hang",_),("either",_)]) o6 (Nat.le_of_ble_eq_true rfl) H
 obtain⟨oc,od,kV,doc,pm,an,cdv,ct,osl,el,_,_⟩:=og.F.ex
 refine⟨qf,fun s v=>by rw [el];exact .of_eq rfl,fun base KB _=> ?_⟩
 have H1:=zu2 (P:=l.prog) (w:=w) (base:=base) (n:=0) cf ac
 have H2:=yi5 (n:=1) ao cf H1 ac jv
 have aw:=we3 (κ:=κ) H2
 have dw:=wb6 (κ:=κ) H1
 have jx:=yr9 (P:=l.prog) (w:=w) (base:=base) (κ:=κ) (n:=0) eo cb ac
 have lh:=yr7 (P:=l.prog) (w:=w) (base:=base) (κ:=κ) (n:=0) gz ca
 have g4:=yr8 (n:=1) cu gz lh.up
 have mf:=xa4 (n:=2) i4 ao aw.up eo jx.up cu g4.up ca cb ac
 have kj:=yi9 (n:=2) fk ao aw.up jv kr ac
 have j3:=ys0 (n:=2) eu ao aw.up cf dw.up
 have iy:=ya6 (P:=l.prog) (w:=w) (base:=base) (κ:=κ) (n:=0) cw ac
 have g6:=ys1 (P:=l.prog) (w:=w) (base:=base) (κ:=κ) (n:=0) cv
 have ll:=ys2 (n:=1) g5 cw iy.up cv g6.up
 have jd:=zo4 (n:=2) ck g5 ll.up cv g6.up
 have qe:∀n,FnOk l.prog w K mg base CX0 (n+3) _ _ ["_law_script","_law_row_here","_law_flat","_law_hang","_law_state","_law_salt"] (SpE 6 K κ (bQ [false,false,false,false,true,false]) (qT (wD yl9 zr1) n)):=fun n=>by
  induction n with
  |zero=>exact FnOk.noneE (ps:=["_law_script","_law_row_here","_law_flat","_law_hang","_law_state","_law_salt"])
  |succ n ih=>exact xa5 db eu (j3.mono (by omega)) ih ck (jd.mono (by omega)) ac ou
 have fg:=qe 13
 have kl:=yi8 (n:=16) fj db fg.up cb
 have gw:=zc5 (P:=l.prog) (w:=w) (base:=base) (κ:=κ) (n:=0) b4 j9 ka
 have ak:=zo6 (P:=l.prog) (w:=w) (base:=base) (κ:=κ) (n:=0) ba aa bb ai
 have f9:=zo2 (P:=l.prog) (w:=w) (base:=base) (κ:=κ) (n:=0) b6
 have jq:=zu3 (n:=1) c9 b6 f9.up am av bx
 have b8:=zh5 (P:=l.prog) (w:=w) (base:=base) (κ:=κ) (n:=0) ax
 have du:=xC (n:=1) az ax b8.up ac
 have c6:=uM (P:=l.prog) (w:=w) (base:=base) (κ:=κ) (mg:=mg) (n:=0) au al cg
 have bw:=pC (n:=2) af c9 jq.up az du.up ax b8.up au c6.up al cg
 have aq:=zu4 (P:=l.prog) (w:=w) (base:=base) (κ:=κ) (mg:=mg) (n:=0) ah aa ai
 have en:=yZ (n:=2) bc ba ak.up af bw.up ah aq.up aa ai bb
 have b5:=zo5 (P:=l.prog) (w:=w) (base:=base) (κ:=κ) (n:=0) c8 am av bx
 have la:=yr5 (n:=1) gu c8 b5.up am av bx
 have eh:=yY (P:=l.prog) (w:=w) (base:=base) (κ:=κ) (n:=0) a9 am av
 have gh:=zR (n:=1) bn ba ak.up ah aq.up aa ai bb
 have gi:=zT (n:=1) bo ah aq.up aa ai
 have mj:∀n,FnOk l.prog w K mg base CX0 (3*n+4) _ _ ["front","row","place"] (SpP 3 K κ (wC n)):=fun n=>by
  induction n with
  |zero=>exact FnOk.noneP (ps:=["front","row","place"])
  |succ n ih=>exact zc6 (n:=3*n+6) ar b4 (gw.mono (by omega)) a6 (xD (n:=3*n+4) a6 ba (ak.mono (by omega)) gu (la.mono (by omega)) a9 (eh.mono (by omega)) bn (gh.mono (by omega)) bo (gi.mono (by omega)) ar (ih.mono (by omega)) aa bb jn) bc (en.mono (by omega))
 have ci:=mj 13
 have gk:=zQ (n:=1) bj c8 b5.up
 have dq:=xE (n:=43) a7 ar ci.up bj gk.up
 have df:=wR (P:=l.prog) (w:=w) (base:=base) (κ:=κ) (n:=0) b9 al cg
 have cj:=zo3 (P:=l.prog) (w:=w) (base:=base) (κ:=κ) (n:=0) ay
 have lc:=yr6 (n:=1) gx ay cj.up oq ac
 have ke:=yi6 (n:=2) ff gx lc.up ay cj.up ot ac
 have gn:=zS (n:=2) bq ba ak.up b9 df.up ff ke.up ah aq.up
 have jm:=yi7 (n:=44) dg a7 dq.up bq gn.up aa ai gy
 have lq:=ys3 (P:=l.prog) (w:=w) (base:=base) (κ:=κ) (n:=0) g7 ac
 have i3:=ya7 (P:=l.prog) (w:=w) (base:=base) (κ:=κ) (n:=0) cz ca kr ac
 have mh:=xa6 (n:=1) i5 g7 lq.up cz i3.up gy
 have qo:=xu4 (n:=45) ox i4 mf.up ao aw.up fk kj.up fj kl.up dg jm.up cu g4.up i5 mh.up ca
 exact we4 qo fun ns hl=>yk6 (by decide) (by decide) (fY ns) (fun j s h0 h1 h2 h3=>xe1 hl j s h0 h1 h2 h3) (fun j _ _=>⟨_,yw1 ns j⟩)
end My
open PySem PySem.W PyProof.Rows
set_option maxRecDepth 100000 in
set_option maxHeartbeats 0 in
theorem PySem.Challenge.cw_linepress_k20_one_piece_more_holds : PySem.Challenge.rw_linepress_k20_one_piece_more.Holds := by
 w_on;o_law;k_head;(case hw=>w_witness2)
 k_fill
 refine My.we5 (lev:=46) (l:=PySem.Challenge.rw_linepress_k20_one_piece_more) rfl rfl ⟨rfl,by decide,by decide⟩ (fun w h Y=>PySem.W.kIn_of Y) ?F
 case F=>
  intro w mg fa h KX G hmg
  apply My.xw2 KX G hmg
  all_goals first
   |(refine' My.FzT.mk ?a (L2.yo4 ?b ?c ?d);(case a=>k_is);(case b=>k_is);(case c=>k_is);(case d=>k_is))
   |(refine' My.MzT.mk ?a ?e (L2.yo4 ?b ?c ?d);(case a=>k_is);(case e=>k_is);(case b=>k_is);(case c=>k_is);(case d=>k_is))
   |(refine' My.CzT.mk ?a ?_ ?_ ?_ ?_ ?_ ?_;(case a=>k_is);all_goals k_is)
   |(refine' My.wb5 ?a ?b;(case a=>k_is);(case b=>exact⟨_,rfl⟩))
   |k_is
   |rfl
   |kit_is
   |k_exc
   |kernel_rfl
#print axioms PySem.Challenge.cw_linepress_k20_one_piece_more_holds

