import PyProof.Rows.All
import Wide.All
import OpenK.AllK
import Wide.FinOn
import Lean
import PyProof.EqAt
import PyProof.EqKinds
import PyProof.TupleCall
import PySem.Challenge.RW_linepress_k24_no_earlier_choices
set_option Elab.async false
set_option genSizeOfSpec false
set_option genInjectivity false
def PySem.W.Fast.tw16477471288334288486:=()
def PySem.W.Fast.tw9644354988274894639:=()
def PySem.W.Fast.tw1072496464727565151:=()
def PySem.W.Fast.tw7355901537335860642:=()
def PySem.W.Fast.tw11924634071025245354:=()
def PySem.W.Fast.tw1794437132625923072:=()
def PySem.W.Fast.tw12203441035503131516:=()
def PySem.W.Fast.tw3153998500691521713:=()
def PySem.W.Fast.tw8121105941815175374:=()
def PySem.W.Fast.tw4732101385639352664:=()
def PySem.W.Fast.tw4205406126994353617:=()
def PySem.W.Fast.tw12831573870076344801:=()
def PySem.W.Fast.tw11828266611356436801:=()
def PySem.W.Fast.tw6363523738334588173:=()
def PySem.W.Fast.tw1420522725430261235:=()
def PySem.W.Fast.tw8525701547459067891:=()
def PySem.W.Fast.tw14108195314479606147:=()
def PySem.W.Fast.tw17992344143281287192:=()
def PySem.W.Fast.tw14478014845348603020:=()
def PySem.W.Fast.tw930347679344045294:=()
def PySem.W.Fast.tw16402896533944387615:=()
def PySem.W.Fast.tw4978541239963862098:=()
def PySem.W.Fast.tw12535018794134440090:=()
def PySem.W.Fast.tw4472410361809413563:=()
def PySem.W.Fast.tw4059681835238345046:=()
def PySem.W.Fast.tw4509460008505405279:=()
def PySem.W.Fast.tw2633687877306739110:=()
def PySem.W.Fast.tw11242478643817153477:=()
def PySem.W.Fast.tw16552421766078392063:=()
def PySem.W.Fast.tw10484057673619725588:=()
def PySem.W.Fast.tw362783908537462318:=()
def PySem.W.Fast.tw7316957296417315694:=()
def PySem.W.Fast.tw18285673952804635605:=()
def PySem.W.Fast.tw18301254793695435555:=()
def PySem.W.Fast.tw581319642745472095:=()
def PySem.W.Fast.tw13067542399195114736:=()
def PySem.W.Fast.tw841851640508422187:=()
def PySem.W.Fast.tw4900925723214182934:=()
def PySem.W.Fast.tw12975378478936074830:=()
def PySem.W.Fast.tw6944624347117145907:=()
def PySem.W.Fast.tw2579476878078003391:=()
set_option linter.all false
set_option maxRecDepth 100000
set_option maxHeartbeats 1000000
abbrev NDb(x:PySem.Str):Prop:=(x==("__debug__":PySem.Str))=false
def Z0:=@List.mem_cons_self
def Z1:=@List.mem_cons_of_mem
def Z2:=@List.length_append
def Z3:=@Nat.le_of_ble_eq_true
def Z4:=@List.length_cons
def Z5:=@Bool.false_ne_true
def Z6:=@List.getElem?_eq_some_iff
def Z7:=@Option.bind_some
def Z8:=@List.mem_cons
def Z9:=@Nat.le_refl
def Za:=@List.map_cons
def Zb:=@List.mem_append_right
def Zc:=@decide_eq_false
def Zd:=@List.length_map
def Ze:=@List.append_assoc
def Zf:=@List.nodup_nil
def Zg:=@PySem.wpAny_bind
def Zh:=@List.append_nil
def Zi:=@List.getElem?_map
def Zj:=@Option.map_eq_some_iff
def Zk:=@PySem.Heap.get?_push_of_some
def Zl:=@decide_eq_true
def Zm:=@List.size_toArray
def Zn:=@PySem.Heap.lt_size
def Zo:=@List.nodup_cons
def Zp:=@List.getElem?_eq_getElem
def Zq:=@List.getElem?_set_ne
def Zr:=@Int.emod_lt_of_pos
def Zs:=@List.mem_append_left
def Zt:=@Nat.lt_of_lt_of_le
def Zu:=@Int.emod_nonneg
def Zv:=@List.getElem?_set_self
def Zw:=@PySem.Heap.get?_push_size
def Zx:=@List.lookup_cons
def Zy:=@List.nodup_append
def Zz:=@Option.some.inj
def ZA:=@List.mem_singleton
def ZB:=@List.mem_append
def ZC:=@PySem.Paired.length
def ZD:=@Nat.le_trans
def ZE:=@PySem.wpAny_pure
def ZF:=@Bool.and_eq_true
def ZG:=@Nat.ne_of_lt
def ZH:=@PySem.PassesOwn.never
def ZI:=@Nat.zero_le
def ZJ:=@PySem.W.kia_one
def ZK:=@List.not_mem_nil
def ZL:=@List.getElem?_append_left
def ZM:=@decide_eq_true_eq
def ZN:=@List.cons_append
def ZO:=@PySem.boot_len
def ZP:=@congrArg
def ZQ:=@Array.length_toList
def ZR:=@List.length_nil
def ZS:=@List.drop_eq_getElem_cons
def ZT:=@List.mem_of_getElem?
def ZU:=@List.map_append
def ZV:=@List.nil_append
def ZW:=@List.getElem?_append_right
def ZX:=@PySem.W.mg_none_of
def ZY:=@Nat.lt_irrefl
def ZZ:=@beq_eq_false_iff_ne
def Y2:=@PySem.mem_of_lookup
def Y3:=@List.replicate_succ
def Y4:=@PySem.wpAny_truthy_bool
def Y5:=@PySem.wpAny_mono
def Y6:=@Ne.symm
def Y7:=@List.zip_cons_cons
def Y8:=@Bool.false_eq_true
def Y9:=@PyProof.Rows.callWith_type1
def Ya:=@PySem.sizeLine_eq
def Yb:=@List.length_range
def Yc:=@if_true
def Yd:=@PySem.wpAny_Call_Name_kw
def Ye:=@PySem.wpAny_passesOwn
def Yf:=@PySem.wpAny_loadPart'
def Yg:=@List.mem_map
def Yh:=@Bool.eq_iff_iff
def Yi:=@List.find?_cons
def Yj:=@List.getElem?_replicate
def Yk:=@List.getElem?_cons_succ
def Yl:=@List.append_cancel_left
def Ym:=@List.flatten_cons
def Yn:=@List.sublist_cons_self
def Yo:=@of_decide_eq_true
def Yp:=@List.map_map
def Yq:=@List.perm_append_comm
def Yr:=@beq_iff_eq
def Ys:=@decide_eq_decide
def Yt:=@Int.le_refl
def Yu:=@Nat.not_lt_zero
def Yv:=@List.mem_map_of_mem
def Yw:=@Nat.zero_add
def Yx:=@List.mem_range
def Yy:=@PySem.W.callWith_K
def Yz:=@Nat.lt_of_le_of_lt
def YA:=@of_decide_eq_false
def YB:=@PySem.F.args_tuple_add_2
def YC:=@List.any_cons
def YD:=@List.length_take
def YE:=@PySem.F.entry_tuple_add
def YF:=@or_false
def YG:=@Bool.not_eq_true
def YH:=@Option.join_some
def YI:=@Nat.le_of_lt
def YJ:=@PySem.F.slot_tuple_add
def YK:=@PySem.wpAny_newObj_type
def YL:=@PySem.wpAny_holding
def YM:=@List.length_replicate
def YN:=@List.getElem?_eq_none
def YO:=@Array.toList_extract
def YQ:=@List.getElem?_of_mem
def YR:=@Bool.and_eq_true_iff
def YS:=@PyProof.Rows.boot_tuple
def YT:=@List.filterMap_cons
def YU:=@PySem.W.plainGet_of
def YV:=@ne_true_of_eq_false
def YW:=@List.reverse_append
def YX:=@List.length_reverse
def YY:=@PySem.wpAny_execs_nil
def YZ:=@PySem.W.mg_of
def X0:=@List.zip_nil_left
def X1:=@List.map_nil
def X2:=@Option.isSome_map
def X3:=@Nat.add_zero
def X4:=@if_false
def X5:=@Int.toNat_natCast
def X6:=@Nat.lt_succ_self
def X7:=@List.nil_sublist
def X8:=@List.drop_length
def X9:=@Array.toList_inj
def Xa:=@List.eq_nil_of_length_eq_zero
def Xb:=@List.of_mem_zip
def Xc:=@PySem.typeIs_str
def Xd:=@PySem.call_meets
def Xe:=@PySem.tupleKind_room_in1
def Xf:=@PySem.F.args_str_split_2
def Xg:=@Int.ediv_nonneg
def Xh:=@List.takeWhile_append_of_pos
def Xi:=@PySem.F.slot_str_startswith
def Xj:=@PySem.F.type_str_startswith
def Xk:=@Bool.false_and
def Xl:=@Int.fdiv_eq_ediv_of_nonneg
def Xm:=@PySem.codeAny_mono
def Xn:=@PySem.F.entry_str_split
def Xo:=@List.drop_zero
def Xp:=@List.sublist_append_right
def Xq:=@PySem.noFill_tuple_add
def Xr:=@List.all_cons
def Xs:=@PySem.F.slot_str_split
def Xt:=@List.sublist_append_left
def Xu:=@List.set_eq_of_length_le
def Xv:=@PySem.wpAny_call_entry
def Xw:=@PySem.F.args_tuple_lt_2
def Xx:=@PySem.F.plainAttrs_list
def Xy:=@Nat.ne_of_gt
def Xz:=@PySem.W.cellsFrom_some
def XA:=@PySem.F.entry_tuple_lt
def XB:=@List.append_eq_nil_iff
def XC:=@Option.map_eq_none_iff
def XD:=@PySem.W.methodCall_KW
def XE:=@PySem.F.slot_tuple_lt
def XF:=@List.length_singleton
def XG:=@Array.getElem?_toList
def XH:=@PySem.Calls.Name_function_global
def XI:=@Int.le_of_lt_add_one
def XJ:=@List.dropLast_cons₂
def XL:=@PySem.wpAny_standAt
def XM:=@List.mem_filterMap
def XN:=@PySem.W.kitx_tuple
def XO:=@PySem.AutoSeq1.sub_tuple_tuple
def XQ:=@List.zip_nil_right
def XR:=@PySem.seq_tuple_add
def XS:=@PySem.W.kitx_list
def XT:=@PySem.W.kitx_dict
def XU:=@PySem.wpAny_callSpecial?_slot
def XV:=@Nat.le_succ_of_le
namespace L2
open PySem PySem.Spec PyProof.Rows
abbrev Key:=Sum Int Str
abbrev _root_.tz9:=Str->Addr
abbrev _root_.tz0:=PySem.W.Frag
abbrev _root_.tzA:=Str->Option Value
abbrev _root_.tzB:=List (Addr×Obj)
def tK:Key->Value->Bool
 | .inl k,v=>Value.isInt k v
 | .inr x,v=>Value.isStrOf x v
def xq8(w:World):Key->Int
 | .inl k=>hashInt k
 | .inr x=>hashStr w x
theorem eW:∀{k:Key} {v:Value},tK k v=true->(∃i t,k=Sum.inl i/\v=Value.int i t)\/(∃x t,k=Sum.inr x/\v=Value.str x t)
 | .inl i,v,h=>by
  obtain⟨t,e⟩:=Value.isInt_shape (k:=i) (v:=v) h
  exact .inl ⟨i,t,rfl,e⟩
 | .inr x,v,h=>by
  obtain⟨t,e⟩:=Value.isStrOf_shape (x:=x) (v:=v) h
  exact .inr ⟨x,t,rfl,e⟩
theorem yc2(i:Int)(t:Tok):tK (.inl i) (.int i t)=true:=by simp [tK,Value.isInt]
theorem yc3(x:Str)(t:Tok):tK (.inr x) (.str x t)=true:=by simp [tK,Value.isStrOf]
theorem xe3(a b:Int):decide ((Sum.inl a:Key)=Sum.inl b)=(a==b):=by
 by_cases e:a=b
 ·subst e;simp
 ·have h:¬(Sum.inl a:Key)=Sum.inl b:=fun q=>e (Sum.inl.inj q)
  rw [Zc h]
  exact(ZZ.mpr e).symm
theorem xe4(a b:Str):decide ((Sum.inr a:Key)=Sum.inr b)=decide (a=b):=by
 by_cases e:a=b
 ·subst e;simp
 ·have h:¬(Sum.inr a:Key)=Sum.inr b:=fun q=>e (Sum.inr.inj q)
  rw [Zc h,Zc e]
theorem xe5(a:Int)(b:Str):decide ((Sum.inl a:Key)=Sum.inr b)=false:=Zc (fun q=>nomatch q)
theorem xe6(a:Str)(b:Int):decide ((Sum.inr a:Key)=Sum.inl b)=false:=Zc (fun q=>nomatch q)
def eQ(prog:Program)(w:World):PySem.KeyKind prog w Key where
 is:=tK
 hash:=xq8 w
 inj:=fun v a b ha hb=>by
  rcases eW ha with ⟨i,t,rfl,rfl⟩|⟨x,t,rfl,rfl⟩
  ·rcases eW hb with ⟨j,u,rfl,e⟩|⟨y,u,rfl,e⟩
   ·injection e with e1 _;rw [e1]
   ·exact nomatch e
  ·rcases eW hb with ⟨j,u,rfl,e⟩|⟨y,u,rfl,e⟩
   ·exact nomatch e
   ·injection e with e1 _;rw [e1]
 byValue:=fun k v h=>by
  rcases eW h with ⟨i,t,rfl,rfl⟩|⟨x,t,rfl,rfl⟩<;>rfl
 pyHash:=fun hv h=>by
  rcases eW hv with ⟨i,t,rfl,rfl⟩|⟨x,t,rfl,rfl⟩
  ·exact wpAny_pyHash_int h
  ·exact wpAny_pyHash_str h
 eqBool:=fun hu hv h=>by
  rcases eW hu with ⟨i,t,rfl,rfl⟩|⟨x,t,rfl,rfl⟩
  ·rcases eW hv with ⟨j,u,rfl,rfl⟩|⟨y,u,rfl,rfl⟩
   ·rw [xe3] at h;exact wpAny_eqBool_int h
   ·rw [xe5] at h;exact SeqAt.EqAt.int_str i t y u _ _ _ _ h
  ·rcases eW hv with ⟨j,u,rfl,rfl⟩|⟨y,u,rfl,rfl⟩
   ·rw [xe6] at h;exact SeqAt.EqAt.str_int x t j u _ _ _ _ h
   ·rw [xe4] at h;exact wpAny_eqBool_str h
 «strs»:=fun k x t v h=>by
  rcases eW h with ⟨i,u,rfl,e⟩|⟨y,u,rfl,e⟩
  ·exact nomatch e
  ·injection e with e1 _
   subst e1
   cases v<;>rfl
theorem zq6(prog:Program)(w:World)(i:Int)(t:Tok):(eQ prog w).is (.inl i) (.int i t)=true:=yc2 i t
theorem zq7(prog:Program)(w:World)(x:Str)(t:Tok):(eQ prog w).is (.inr x) (.str x t)=true:=yc3 x t
set_option genInjectivity true in
inductive V where
 |non|bl (b:Bool)|int (i:Int)|str (x:Str)|byt (b:Array UInt8)|flt (b:UInt64)|ref (a:Addr)|ty (n:String)
 deriving DecidableEq
def cC:V->Value->Prop
 | .non,u=>u=Value.none
 | .bl b,u=>u=Value.bool b
 | .int i,u=>∃t,u=Value.int i t
 | .str x,u=>∃t,u=Value.str x t
 | .byt b,u=>∃t,u=Value.bytes b t
 | .flt b,u=>∃t,u=Value.float b t
 | .ref a,u=>u=Value.ref a
 | .ty n,u=>u=Value.type n
abbrev bN:List V->List Value->Prop:=Paired cC
theorem bN.length{xs:List V}{us:List Value}(r:bN xs us):xs.length=us.length:=ZC r
theorem bN.get:∀{xs:List V} {us:List Value} {i:Nat} {x:V},bN xs us->xs[i]? =some x->∃u,us[i]? =some u/\cC x u
 |_,_,_,_,.nil,e=>by simp at e
 |_,_,0,_,.cons r _,e=>by simp at e;subst e;exact⟨_,rfl,r⟩
 |_,_,i+1,x,.cons _ t,e=>by
  obtain⟨u,h1,h2⟩:=bN.get (i:=i) (x:=x) t (by simpa using e)
  exact⟨u,by simpa using h1,h2⟩
theorem bN.set{x:V}{u:Value}(r:cC x u):∀{xs:List V} {us:List Value} (i:Nat),bN xs us->bN (xs.set i x) (us.set i u)
 |_,_,_,.nil=> .nil
 |_,_,0,.cons _ t=> .cons r t
 |_,_,i+1,.cons q t=> .cons q (bN.set r i t)
theorem bN.append:∀{xs ys:List V} {us ws:List Value},bN xs us->bN ys ws->bN (xs++ys) (us++ws)
 |_,_,_,_,.nil,s=>s
 |_,_,_,_,.cons r t,s=> .cons r (bN.append t s)
def jB:Option V->Option Value->Prop
 |some v,some u=>cC v u
 |none,none=>True
 |_,_=>False
def KV{U:Type}:List (U×V)->List (U×Value)->Prop:=Paired fun(p:U×V) (q:U×Value)=>p.1=q.1/\cC p.2 q.2
def kV:Key->V
 | .inl i=> .int i
 | .inr x=> .str x
inductive HO where
 |lst (xs:List V)
 |tup (xs:List V)
 |dK (kvs:List (Key×V))|dT (kvs:List (List Key×V))
 |set (S:Int->Bool) (n:Nat)
 |ins (C dx:Addr) (fs:List (Str×V))
 |own (x:Addr)
 |xd (fs:List (Str×V))
 |met (f x:Addr)
 |rng (lo hi:Int)
 |frz (o:Obj) (u:HO)
 |tbl (ps:Array Value)
 |ext (φ:Heap->Prop)
abbrev Hp:=Addr->Option HO
def upd(H:Hp)(a:Addr)(o:HO):Hp:=fun b=>if b=a then some o else H b
theorem bO{H:Hp}{a:Addr}{o:HO}:upd H a o a=some o:=by unfold upd;rw [if_pos rfl]
theorem aY{H:Hp}{a b:Addr}{o:HO}(h:b≠a):upd H a o b=H b:=by unfold upd;rw [if_neg h]
theorem xm4{H:Hp}{a b:Addr}{o u:HO}(h:H a=some o)(h':H b=some u)(d:o≠u):a≠b:=by
 intro e;subst e;rw [h] at h';exact d (Zz h')
theorem kJ{H:Hp}{a b:Addr}{o:HO}(h:H a=some o)(h':H b=none):a≠b:=by
 intro e;subst e;rw [h] at h';cases h'
section
variable(P:Program)(w:World)
def dA(H:Hp)(h:Heap)(a:Addr):HO->Prop
 | .lst xs=>xs.length<=sizeLine/\∃(its:List Value) (n:Nat),bN xs its/\h.get? a=some {cls:= .type "list",data:= .seq its.toArray n}
 | .tup xs=>xs.length<=sizeLine/\∃its:List Value,bN xs its/\IsTup h a its.toArray
 | .dK kvs=>kvs.length<=sizeLine/\(a==sysModules)=false/\∃vs,KV kvs vs/\h.DictOf (eQ P w) a vs
 | .dT kvs=>kvs.length<=sizeLine/\(a==sysModules)=false/\∃xs:List (List Key×Addr×Value),
   Paired (fun(p:List Key×V) (q:List Key×Addr×Value)=>p.1=q.1/\H q.2.1=some (.tup (p.1.map kV))/\cC p.2 q.2.2) kvs xs/\
   ∃o es ep,h.get? a=some o/\o.ExactDict/\o.data= .dict es ep/\es.toList=xs.map (entryOfKey (tupleKind (eQ P w)))/\(xs.map (·.1)).Nodup
 | .set S n=>h.SetOf (intKind P w) a S n
 | .ins C dx fs=>H dx=some (.own a)/\fs.length<=1000/\dx≠a/\h.get? a=some (PySem.W.instObj C dx)/\
   ∃mA,h.Ns1 dx mA/\(∀f,jB (fs.lookup f) (mA f))/\PySem.Within mA (fs.map (·.1))
 | .own _=>∃o,h.get? a=some o
 | .xd fs=>∃mA,h.Ns1 a mA/\∀f,jB (fs.lookup f) (mA f)
 | .rng lo hi=>∃t u v,h.get? a=some {cls:= .type "range",data:= .fields #[.int lo t,.int hi u,.int 1 v]}
 | .frz o u=>h.get? a=some o/\dA H h a u
 | .tbl ps=>h.get? a=some {cls:= .none,data:= .fields ps}
 | .met f x=>h.get? a=some (PySem.W.methodObj (.ref f) (.ref x))
 | .ext φ=>φ h/\(∃o,h.get? a=some o)/\∀h1 h2:Heap,φ h1->(∀o,h1.get? a=some o->h2.get? a=some o)->φ h2
def HOk(H:Hp)(h:Heap):Prop:=∀a o,H a=some o->dA P w H h a o
end
section
variable{P:Program}{w:World}{H H':Hp}{h h':Heap}{a:Addr}{o:HO}
theorem dA.lt(x:dA P w H h a o):a<h.objs.size:=by
 cases o with
 |lst xs=>obtain⟨_,_,_,_,e⟩:=x;exact Zn e
 |tup xs=>obtain⟨_,_,_,p⟩:=x;exact p.lt
 |dK kvs=>obtain⟨_,_,_,_,o,_,_,e,_⟩:=x;exact Zn e
 |dT kvs=>obtain⟨_,_,_,_,o,_,_,e,_⟩:=x;exact Zn e
 |set S n=>obtain⟨o,_,_,_,e,_⟩:=x;exact Zn e
 |ins C dx fs=>obtain⟨_,_,_,e,_⟩:=x;exact Zn e
 |own y=>obtain⟨_,e⟩:=x;exact Zn e
 |xd fs=>obtain⟨_,⟨_,_,_,e,_⟩,_⟩:=x;exact Zn e
 |rng lo hi=>obtain⟨_,_,_,e⟩:=x;exact Zn e
 |frz ob u=>obtain⟨e,_⟩:=x;exact Zn e
 |tbl ps=>exact Zn (show h.get? a=some _ from x)
 |met f y=>exact Zn (show h.get? a=some _ from x)
 |ext φ=>obtain⟨_,⟨_,e⟩,_⟩:=x;exact Zn e
theorem Paired.mapP{α β:Type}{F G:α->β->Prop}:∀{l₁:List α} {l₂:List β},Paired F l₁ l₂->(∀a b,F a b->G a b)->Paired G l₁ l₂
 |_,_,.nil,_=> .nil
 |_,_,.cons r t,f=> .cons (f _ _ r) (Paired.mapP t f)
theorem dA.stay(x:dA P w H h a o)(k:∀b u,(b=a\/H b=some (.own a))->h.get? b=some u->h'.get? b=some u)
  (ho:∀b,H b=some (.own a)->H' b=some (.own a)) (ht:∀b xs,H b=some (.tup xs)->H' b=some (.tup xs)):dA P w H' h' a o:=by
 induction o with
 |lst xs=>obtain⟨z,its,n,r,e⟩:=x;exact⟨z,its,n,r,k _ _ (.inl rfl) e⟩
 |tup xs=>obtain⟨z,its,r,ob,e,c⟩:=x;exact⟨z,its,r,ob,k _ _ (.inl rfl) e,c⟩
 |dK kvs=>obtain⟨z,y,vs,r,ob,es,ep,e,c⟩:=x;exact⟨z,y,vs,r,ob,es,ep,k _ _ (.inl rfl) e,c⟩
 |dT kvs=>
  obtain⟨z,y,xs,r,ob,es,ep,e,c⟩:=x
  exact⟨z,y,xs,Paired.mapP r fun p q z=>⟨z.1,ht _ _ z.2.1,z.2.2⟩,ob,es,ep,k _ _ (.inl rfl) e,c⟩
 |set S n=>obtain⟨ob,es,ep,t,e,c⟩:=x;exact⟨ob,es,ep,t,k _ _ (.inl rfl) e,c⟩
 |ins C dx fs=>
  obtain⟨d,z,ne,e,mA,⟨od,es,ep,e2,c⟩,r⟩:=x
  exact⟨ho _ d,z,ne,k _ _ (.inl rfl) e,mA,⟨od,es,ep,k _ _ (.inr d) e2,c⟩,r⟩
 |own y=>obtain⟨ob,e⟩:=x;exact⟨ob,k _ _ (.inl rfl) e⟩
 |xd fs=>obtain⟨mA,⟨od,es,ep,e,c⟩,r⟩:=x;exact⟨mA,⟨od,es,ep,k _ _ (.inl rfl) e,c⟩,r⟩
 |rng lo hi=>obtain⟨t,u,v,e⟩:=x;exact⟨t,u,v,k _ _ (.inl rfl) e⟩
 |frz ob u ih=>obtain⟨e,q⟩:=x;exact⟨k _ _ (.inl rfl) e,ih q⟩
 |tbl ps=>
  have e:h.get? a=some {cls:= .none,data:= .fields ps}:=x
  show h'.get? a=some {cls:= .none,data:= .fields ps}
  exact k a _ (.inl rfl) e
 |met f y=>
  have e:h.get? a=some (PySem.W.methodObj (.ref f) (.ref y)):=x
  show h'.get? a=some (PySem.W.methodObj (.ref f) (.ref y))
  exact k a _ (.inl rfl) e
 |ext φ=>obtain⟨p,⟨o,e⟩,st⟩:=x;exact⟨st _ _ p fun o q=>k _ _ (.inl rfl) q,⟨o,k _ _ (.inl rfl) e⟩,st⟩
theorem HOk.lt(x:HOk P w H h)(e:H a=some o):a<h.objs.size:=(x a o e).lt
theorem HOk.fresh(x:HOk P w H h)(e:h.objs.size<=a):H a=none:=by
 cases q:H a with
 |none=>rfl
 |some u=>exact absurd (Zt (x.lt q) e) (ZY _)
theorem HOk.kept(x:HOk P w H h)(k:∀b u,h.get? b=some u->h'.get? b=some u):HOk P w H h':=fun a o e=>
 (x a o e).stay (fun b u _ q=>k b u q) (fun _ q=>q) fun _ _ q=>q
theorem HOk.laid(x:HOk P w H h)(k:∀b u,h.get? b=some u->h'.get? b=some u)(hp:h.objs.size<=a)(new:dA P w (upd H a o) h' a o):HOk P w (upd H a o) h':=fun b u e=>by
 have hn:=x.fresh hp
 by_cases hb:b=a
 ·subst hb;rw [bO] at e;cases e;exact new
 ·rw [aY hb] at e
  exact(x b u e).stay (fun c v _ q=>k c v q) (fun c q=>by rw [aY (kJ q hn)];exact q) fun c xs q=>by rw [aY (kJ q hn)];exact q
end
def Rd(H:Hp)(a:Addr)(u:HO):Prop:=H a=some u\/∃o,H a=some (.frz o u)
theorem Rd.ok{P:Program}{w:World}{H:Hp}{h:Heap}{a:Addr}{u:HO}(r:Rd H a u)(x:HOk P w H h):dA P w H h a u:=by
 rcases r with r|⟨o,r⟩
 ·exact x a u r
 ·obtain⟨_,q⟩:=x a _ r
  exact q
def Mut:Option HO->Prop
 |some (.lst _)=>True
 |some (.dK _)=>True
 |some (.dT _)=>True
 |some (.set _ _)=>True
 |some (.ins _ _ _)=>True
 |some (.ext _)=>True
 |_=>False
section
variable{P:Program}{w:World}{H:Hp}{h h':Heap}{x e:Addr}{o':HO}
theorem HOk.write(ok:HOk P w H h)(mu:Mut (H x))(he:e=x\/H e=some (.own x))(k:∀b u,b≠e->h.get? b=some u->h'.get? b=some u)(heo:∃u,h'.get? e=some u)
  (new:dA P w (upd H x o') h' x o'):HOk P w (upd H x o') h':=fun b u q=>by
 have nown:∀c y,H c=some (.own y)->c≠x:=fun c y r z=>by subst z;rw [r] at mu;exact mu
 have ntup:∀c xs,H c=some (.tup xs)->c≠x:=fun c xs r z=>by subst z;rw [r] at mu;exact mu
 by_cases hb:b=x
 ·subst hb;rw [bO] at q;cases q;exact new
 ·rw [aY hb] at q
  by_cases hbe:b=e
  ·have q':H b=some (.own x):=by
    rcases he with z|z
    ·exact absurd (hbe.trans z) hb
    ·rw [hbe];exact z
   rw [q] at q';cases q'
   obtain⟨v,hv⟩:=heo
   exact⟨v,by rw [hbe];exact hv⟩
  ·refine(ok b u q).stay (fun c v hc r=>k c v ?_ r) (fun c r=>by rw [aY (nown c b r)];exact r) fun c xs r=>by rw [aY (ntup c xs r)];exact r
   rcases hc with rfl|hc
   ·exact hbe
   ·rintro rfl
    rcases he with z|z
    ·exact nown c b hc z
    ·rw [hc] at z;cases z;exact hb rfl
end
structure Un(fs ex:List Addr)(H H':Hp)(h h':Heap):Prop where
 keep:∀b o,h.get? b=some o->H b=none->b∉fs->b∉ex->h'.get? b=some o
 slot:∀b o,h.get? b=some o->H b=none->b∈fs->b∉ex->∃sl,h'.get? b=some {o with slots:=sl}
 free:∀b o,h.get? b=some o->H b=none->b∉ex->H' b=none
 there:∀b o,h.get? b=some o->b∉ex->∃o',h'.get? b=some o'
 tups:∀b xs,H b=some (.tup xs)->H' b=some (.tup xs)
 frzs:∀b o u,H b=some (.frz o u)->H' b=some (.frz o u)
 tbls:∀b ps,H b=some (.tbl ps)->∃more,H' b=some (.tbl (ps++more))
section
variable{fs fs' ex ex':List Addr}{H H1 H2:Hp}{h h1 h2 h':Heap}{a x e:Addr}{o:HO}
theorem Un.any(u:Un fs ex H H1 h h1){b:Addr}{ob:Obj}(q:h.get? b=some ob)(n:H b=none)(hx:b∉ex):∃sl,h1.get? b=some {ob with slots:=sl}:=by
 by_cases hb:b∈fs
 ·exact u.slot b ob q n hb hx
 ·exact⟨ob.slots,u.keep b ob q n hb hx⟩
theorem Un.kept(k:∀b u,h.get? b=some u->h'.get? b=some u):Un fs ex H H h h':=
 ⟨fun b ob q _ _ _=>k b ob q,fun b ob q _ _ _=>⟨ob.slots,k b ob q⟩,fun _ _ _ n _=>n,fun b ob q _=>⟨ob,k b ob q⟩,fun _ _ q=>q,fun _ _ _ q=>q,fun _ ps q=>⟨#[],by rw [q];simp⟩⟩
theorem Un.refl:Un fs ex H H h h:=Un.kept fun _ _ q=>q
theorem Un.laid(k:∀b u,h.get? b=some u->h'.get? b=some u)(hp:h.objs.size<=a)(hn:H a=none):Un fs ex H (upd H a o) h h' where
 keep:=fun b u q _ _ _=>k b u q
 slot:=fun b u q _ _ _=>⟨u.slots,k b u q⟩
 free:=fun b u q n _=>by rw [aY (ZG (Zt (Zn q) hp))];exact n
 there:=fun b u q _=>⟨u,k b u q⟩
 tups:=fun b xs q=>by rw [aY (kJ q hn)];exact q
 frzs:=fun b u xs q=>by rw [aY (kJ q hn)];exact q
 tbls:=fun b ps q=>⟨#[],by rw [aY (kJ q hn),q];simp⟩
theorem Un.write(mu:Mut (H x))(he:e=x\/H e=some (.own x))(k:∀b u,b≠e->h.get? b=some u->h'.get? b=some u)(heo:∃u,h'.get? e=some u):Un fs ex H (upd H x o) h h':=by
 have hx:∀b,H b=none->b≠x:=fun b n z=>by subst z;rw [n] at mu;exact mu
 have hb:∀b,H b=none->b≠e:=fun b n z=>by
  subst z
  rcases he with r|r
  ·exact hx b n r
  ·rw [n] at r;cases r
 have hm:∀b u,H b=some u->¬Mut (some u)->b≠x:=fun b u q nm z=>by subst z;rw [q] at mu;exact nm mu
 refine⟨fun b u q n _ _=>k b u (hb b n) q,fun b u q n _ _=>⟨u.slots,k b u (hb b n) q⟩,fun b u q n _=>by rw [aY (hx b n)];exact n,fun b u q _=> ?_,
  fun b xs q=>by rw [aY (hm b _ q fun z=>z)];exact q,fun b u xs q=>by rw [aY (hm b _ q fun z=>z)];exact q,fun b ps q=>⟨#[],by rw [aY (hm b _ q fun z=>z),q];simp⟩⟩
 by_cases hbe:b=e
 ·subst hbe;exact heo
 ·exact⟨u,k b u hbe q⟩
end
def trk(h:Heap)(H:Hp):List Addr:=(List.range h.objs.size).filter fun a=>(H a).isSome
def tL(h:Heap)(H:Hp):Heap:=PySem.W.hideAll h (trk h H)
theorem yc4(h:Heap)(H:Hp):(tL h H).objs.size=h.objs.size:=PySem.W.hideAll_size _ _
theorem ym3{h:Heap}{H:Hp}{b:Addr}{o:Obj}(e:h.get? b=some o)(n:H b=none):(tL h H).get? b=some o:=
 PySem.W.hideAll_get _ e fun hm=>by
  have q:(H b).isSome=true:=(List.mem_filter.mp hm).2
  rw [n] at q;simp at q
theorem yw6{h:Heap}{H:Hp}{b:Addr}{o:Obj}(e:(tL h H).get? b=some o):h.get? b=some o/\H b=none:=by
 have e':h.get? b=some o:=PySem.W.of_hideAll (trk h H) e
 refine⟨e',?_⟩
 cases q:H b with
 |none=>rfl
 |some x=>
  have hm:b∈trk h H:=List.mem_filter.mpr ⟨Yx.mpr (Zn e'),by simp [q]⟩
  have z:(tL h H).get? b=none:=PySem.W.hideAll_none (trk h H) hm
  rw [z] at e;cases e
structure Mod(K:tz0)(mg:tzA)(base:Heap):Prop where
 kin:K.In base
 glob:base.Ns mainGlobals mg
 blt:∃mb,base.Ns builtinsNs mb/\∀x:Str,x≠"__name__"->mb x=bootBuiltins x
 nolimit:base.NoLimit
structure Cx where
 prog:Program
 w:World
 K:tz0
 mg:tzA
 base:Heap
 A:Around
 N:List Str
 s₀:Shared
 H₀:Hp
 env:Env
 outer:List Env
 stack:List Env
 ex:List Addr
 fn:Str->Bool
 calm:Bool
 pn:tzB
 xe:Value->Shared->Prop
def frs(l:List Env):List Addr:=l.filterMap (·.frame)
abbrev Cx.fs(X:Cx):List Addr:=frs X.outer
def Vis(sc:Scope)(x:Str):Prop:=sc.names.lookup x=some .local\/sc.names.lookup x=some .cell\/sc.names.lookup x=some .free
def Loc(sc:Scope)(x:Str):Prop:=sc.names.lookup x=some .local\/sc.names.lookup x=some .cell
def xq9(env:Env)(h:Heap)(m:tzA)(x:Str)(u:Value):Prop:=
 (env.kindOf x=some .local/\m x=some u)\/((env.kindOf x=some .cell\/env.kindOf x=some .free)/\∃c,env.cells.lookup x=some c/\h.IsCell c (some u))
structure Cx.Ok(X:Cx):Prop where
 mod:Mod X.K X.mg X.base
 kind:X.env.scope.kind= .function
 glob:X.env.globals=mainGlobals
 blt:X.env.builtins=builtinsNs
 above:X.s₀.heap.objs.size<=X.env.locals
 inj:∀x y c,X.env.cells.lookup x=some c->X.env.cells.lookup y=some c->x=y
 has:∀x,(X.env.kindOf x=some .cell\/X.env.kindOf x=some .free)->∃c,X.env.cells.lookup x=some c
 cab:∀x c,X.fn x=true->X.env.cells.lookup x=some c->X.s₀.heap.objs.size<=c
 hd:X.calm=true->X.A.handled=none
 frames:X.A.frames=some X.stack
 stk:X.stack=X.outer\/(X.stack=X.env::X.outer/\X.env.frame=some X.env.locals)
 exf:∀b∈X.ex,b≠X.env.locals/\∀x c,X.env.cells.lookup x=some c->c≠b
 bs:∀b o,X.base.get? b=some o->X.s₀.heap.get? b=some o/\X.H₀ b=none
 bsz:X.base.objs.size<=X.s₀.heap.objs.size
 noex:∀b o,X.base.get? b=some o->b∉X.ex
 exfs:∀b∈X.ex,b∉X.fs
 funs:X.s₀.heap.FunFrames X.base X.outer
 frf:∀b∈X.fs,X.H₀ b=none
structure Inv(X:Cx)(pins:tzB)(σ:List (Option V))(H:Hp)(s:Shared):Prop where
 ok:X.Ok
 os:s.os=X.s₀.os
 bare:AllBare s.gens
 base:Un X.fs X.ex X.H₀ H X.s₀.heap s.heap
 loc:∃m,s.heap.Ns X.env.locals m/\∀(i:Nat) (x:Str) (v:V),X.N[i]? =some x->σ[i]? =some (some v)->Vis X.env.scope x->∃u,cC v u/\xq9 X.env s.heap m x u
 cell:∀x c,X.env.cells.lookup x=some c->∃v,s.heap.IsCell c v
 free:H X.env.locals=none
 freeC:∀x c,X.env.cells.lookup x=some c->H c=none
 pin:∀p∈X.pn++pins,s.heap.get? p.1=some p.2/\H p.1=none/\p.1≠X.env.locals/\p.1∉X.fs/\∀v,p.2.data≠ .cell v
 hok:HOk X.prog X.w H s.heap
 len:σ.length=X.N.length
section
variable{X:Cx}{pins:tzB}{σ:List (Option V)}{H H':Hp}{s:Shared}{h':Heap}
theorem Cx.Ok.nofr(ok:X.Ok){b:Addr}{o:Obj}(e:X.base.get? b=some o):b∉X.fs:=fun hb=>by
 have:=(ok.funs.mem hb).1
 rw [e] at this;cases this
theorem Inv.bs(I:Inv X pins σ H s):∀b o,X.base.get? b=some o->s.heap.get? b=some o/\H b=none:=fun b o e=>
 ⟨I.base.keep b o (I.ok.bs b o e).1 (I.ok.bs b o e).2 (I.ok.nofr e) (I.ok.noex b o e),I.base.free b o (I.ok.bs b o e).1 (I.ok.bs b o e).2 (I.ok.noex b o e)⟩
theorem Inv.bk(I:Inv X pins σ H s):∀b o,X.base.get? b=some o->s.heap.get? b=some o:=fun b o e=>(I.bs b o e).1
theorem Inv.mod(I:Inv X pins σ H s):Mod X.K X.mg X.base:=I.ok.mod
theorem Inv.kIn(I:Inv X pins σ H s):X.K.In s.heap:=I.ok.mod.kin.keeps I.bk
theorem Inv.lt(I:Inv X pins σ H s):X.env.locals<s.heap.objs.size:=let ⟨_,hn,_⟩:=I.loc;hn.lt
theorem Inv.sz(I:Inv X pins σ H s):X.s₀.heap.objs.size<=s.heap.objs.size:=ZD I.ok.above (YI I.lt)
theorem Inv.nofs(I:Inv X pins σ H s){a:Addr}(h:s.heap.objs.size<=a):a∉X.fs:=fun hb=>by
 obtain⟨_,o,ho,_⟩:=I.ok.funs.mem hb
 exact absurd (Zt (Zn ho) (ZD I.sz h)) (ZY _)
theorem Inv.cne(I:Inv X pins σ H s):∀x c,X.env.cells.lookup x=some c->c≠X.env.locals:=fun x c e z=>by
 obtain⟨v,o,ho,hd⟩:=I.cell x c e
 obtain⟨m,⟨o',es,ep,ho',hd',_⟩,_⟩:=I.loc
 rw [z,ho'] at ho;cases ho;rw [hd'] at hd;cases hd
theorem Inv.funs(I:Inv X pins σ H s):s.heap.FunFrames X.base X.outer:=by
 have all:∀(l:List Env),(∀b∈frs l,b∈X.fs)->X.s₀.heap.FunFrames X.base l->s.heap.FunFrames X.base l:=by
  intro l
  induction l with
  |nil=>intro _ _;trivial
  |cons env r ih=>
   intro hs hl
   obtain⟨hk,⟨L,o,hf,hn,ho,hd⟩,hr⟩:=hl
   have hL:L∈X.fs:=hs L (by unfold frs;rw [YT,hf];exact Z0)
   obtain⟨sl,e⟩:=I.base.slot L o ho (I.ok.frf L hL) hL fun z=>I.ok.exfs L z hL
   exact⟨hk,⟨L,_,hf,hn,e,hd⟩,ih (fun b hb=>hs b (by unfold frs;rw [YT,hf];exact Z1 _ hb)) hr⟩
 exact all X.outer (fun _ hb=>hb) I.ok.funs
theorem Inv.stack(I:Inv X pins σ H s):s.heap.FunFrames X.base X.stack:=by
 rcases I.ok.stk with e|⟨e,hf⟩
 ·rw [e];exact I.funs
 ·rw [e]
  obtain⟨m,hn,_⟩:=I.loc
  refine .cons (by rw [I.ok.kind];decide) hf hn ?_ I.funs
  exact Heap.get?_none_of_le (ZD I.ok.bsz I.ok.above)
theorem Inv.stkSub(I:Inv X pins σ H s):∀b∈frs X.stack,b∈X.env.locals::X.fs:=fun b hb=>by
 rcases I.ok.stk with e|⟨e,hf⟩
 ·rw [e] at hb;exact Z1 _ hb
 ·rw [e] at hb
  unfold frs at hb
  rw [YT,hf] at hb
  exact hb
theorem Inv.stkFree(I:Inv X pins σ H s):∀b∈frs X.stack,H b=none:=fun b hb=>by
 rcases Z8.mp (I.stkSub b hb) with e|hb
 ·rw [e];exact I.free
 ·obtain⟨_,o,ho,_⟩:=I.ok.funs.mem hb
  exact I.base.free b o ho (I.ok.frf b hb) fun z=>I.ok.exfs b z hb
theorem Inv.step{g':Array GenState}{t':Nat}{d':Drawn}{ch:List Addr}(I:Inv X pins σ H s)
  (hch:∀b∈ch,(b∈X.ex\/X.s₀.heap.objs.size<=b)/\b≠X.env.locals/\(∀x c,X.env.cells.lookup x=some c->c≠b)/\∀p∈X.pn++pins,p.1≠b)
  (keep:∀b o,b≠X.env.locals->b∉X.fs->b∉ch->s.heap.get? b=some o->H b=none->h'.get? b=some o)
  (slot:∀b o,b≠X.env.locals->b∈X.fs->b∉ch->s.heap.get? b=some o->H b=none->∃sl,h'.get? b=some {o with slots:=sl}) (free:∀b o,b∉ch->s.heap.get? b=some o->H b=none->H' b=none)
  (there:∀b o,b∉ch->s.heap.get? b=some o->∃o',h'.get? b=some o')
  (tups:∀b xs,H b=some (.tup xs)->H' b=some (.tup xs)) (frzs:∀b o u,H b=some (.frz o u)->H' b=some (.frz o u)) (tbls:∀b ps,H b=some (.tbl ps)->∃more,H' b=some (.tbl (ps++more)))
  (ns:∀m,s.heap.Ns X.env.locals m->h'.Ns X.env.locals m) (hok:HOk X.prog X.w H' h') (hg:AllBare g'):
  Inv X pins σ H' {s with heap:=h',gens:=g',drawn:=d',toks:=t'}:=by
 have neL:∀b o,X.s₀.heap.get? b=some o->b≠X.env.locals:=fun b o e=>ZG (Zt (Zn e) I.ok.above)
 have neC:∀b o,X.s₀.heap.get? b=some o->b∉X.ex->b∉ch:=fun b o e hx hb=>by
  rcases(hch b hb).1 with z|z
  ·exact hx z
  ·exact absurd (Zt (Zn e) z) (ZY _)
 have cellK:∀x c,X.env.cells.lookup x=some c->∀v,s.heap.IsCell c v->h'.IsCell c v:=fun x c e v ⟨o,ho,hd⟩=>by
  have nch:c∉ch:=fun z=>(hch c z).2.2.1 x c e rfl
  by_cases hc:c∈X.fs
  ·obtain⟨sl,q⟩:=slot c o (I.cne x c e) hc nch ho (I.freeC x c e)
   exact⟨_,q,hd⟩
  ·exact⟨o,keep c o (I.cne x c e) hc nch ho (I.freeC x c e),hd⟩
 refine⟨I.ok,I.os,hg,⟨fun b o e n hb hx=> ?_,fun b o e n hb hx=> ?_,fun b o e n hx=> ?_,fun b o e hx=> ?_,fun b xs e=>tups b xs (I.base.tups b xs e),fun b o xs e=>frzs b o xs (I.base.frzs b o xs e),fun b ps e=> ?_⟩,?_,fun x c e=> ?_,?_,fun x c e=> ?_,fun p hp=> ?_,hok,I.len⟩
 ·exact keep b o (neL b o e) hb (neC b o e hx) (I.base.keep b o e n hb hx) (I.base.free b o e n hx)
 ·obtain⟨sl,e1⟩:=I.base.slot b o e n hb hx
  obtain⟨sl',e2⟩:=slot b _ (neL b o e) hb (neC b o e hx) e1 (I.base.free b o e n hx)
  exact⟨sl',e2⟩
 ·obtain⟨o',e1⟩:=I.base.there b o e hx
  exact free b o' (neC b o e hx) e1 (I.base.free b o e n hx)
 ·obtain⟨o',e1⟩:=I.base.there b o e hx
  exact there b o' (neC b o e hx) e1
 ·obtain⟨m1,e1⟩:=I.base.tbls b ps e
  obtain⟨m2,e2⟩:=tbls b _ e1
  exact⟨m1++m2,by rw [e2,Array.append_assoc]⟩
 ·obtain⟨m,hn,hl⟩:=I.loc
  refine⟨m,ns m hn,fun i x v e1 e2 e3=> ?_⟩
  obtain⟨u,r,l⟩:=hl i x v e1 e2 e3
  refine⟨u,r,?_⟩
  rcases l with l|⟨k,c,e,z⟩
  ·exact .inl l
  ·exact .inr ⟨k,c,e,cellK x c e _ z⟩
 ·obtain⟨v,z⟩:=I.cell x c e
  exact⟨v,cellK x c e v z⟩
 ·obtain⟨m,⟨o,_,_,ho,_⟩,_⟩:=I.loc
  exact free _ o (fun z=>(hch _ z).2.1 rfl) ho I.free
 ·obtain⟨v,o,ho,hd⟩:=I.cell x c e
  exact free c o (fun z=>(hch c z).2.2.1 x c e rfl) ho (I.freeC x c e)
 ·obtain⟨e,n,ne,nf,d⟩:=I.pin p hp
  have nch:p.1∉ch:=fun z=>(hch p.1 z).2.2.2 p hp rfl
  exact⟨keep p.1 p.2 ne nf nch e n,free p.1 p.2 nch e n,ne,nf,d⟩
theorem Inv.un{t':Nat}(I:Inv X pins σ H s)(u:Un X.fs [] H H' s.heap h')(hok:HOk X.prog X.w H' h'):Inv X pins σ H' {s with heap:=h',toks:=t'}:=by
 obtain⟨m,⟨o,es,ep,ho,r⟩,_⟩:=id I.loc
 obtain⟨sl,hL⟩:=u.any ho I.free (by simp)
 exact I.step (g':=s.gens) (d':=s.drawn) (ch:=[]) (fun _ z=>nomatch z) (fun b o _ hb _ e n=>u.keep b o e n hb (by simp)) (fun b o _ hb _ e n=>u.slot b o e n hb (by simp)) (fun b o _ e n=>u.free b o e n (by simp)) (fun b o _ e=>u.there b o e (by simp)) u.tups u.frzs u.tbls (fun m' hm=>by
  obtain⟨o',es',ep',ho',r'⟩:=hm
  rw [ho] at ho';cases ho'
  exact⟨_,es',ep',hL,r'⟩) hok I.bare
theorem Inv.call{g':Array GenState}{t':Nat}{d':Drawn}{ch:List Addr}(I:Inv X pins σ H s)(u:Un (frs X.stack) ch H H' s.heap h')(hok:HOk X.prog X.w H' h')(hg:AllBare g')
  (hch:∀b∈ch,(b∈X.ex\/X.s₀.heap.objs.size<=b)/\b≠X.env.locals/\(∀x c,X.env.cells.lookup x=some c->c≠b)/\∀p∈X.pn++pins,p.1≠b):
  Inv X pins σ H' {s with heap:=h',gens:=g',drawn:=d',toks:=t'}:=by
 obtain⟨m,⟨o,es,ep,ho,r⟩,_⟩:=id I.loc
 obtain⟨sl,hL⟩:=u.any ho I.free fun z=>(hch _ z).2.1 rfl
 exact I.step (ch:=ch) hch (fun b o hL hb hc e n=>u.keep b o e n (fun z=>(Z8.mp (I.stkSub b z)).elim hL hb) hc) (fun b o _ _ hc e n=>u.any e n hc) (fun b o hc e n=>u.free b o e n hc) (fun b o hc e=>u.there b o e hc) u.tups u.frzs u.tbls (fun m' hm=>by
  obtain⟨o',es',ep',ho',r'⟩:=hm
  rw [ho] at ho';cases ho'
  exact⟨_,es',ep',hL,r'⟩) hok hg
theorem Inv.turned{t':Nat}{it:Addr}(I:Inv X pins σ H s)(k:∀b o,b≠it->s.heap.get? b=some o->h'.get? b=some o)(hn:H it=none)(hL:it≠X.env.locals)
  (h1:it∈X.ex\/X.s₀.heap.objs.size<=it) (h2:∀x c,X.env.cells.lookup x=some c->c≠it) (h3:∀p∈X.pn++pins,p.1≠it):Inv X pins σ H {s with heap:=h',toks:=t'}:=by
 have nit:∀b u,H b=some u->b≠it:=fun b u e z=>by rw [z,hn] at e;cases e
 refine I.step (g':=s.gens) (d':=s.drawn) (ch:=[it]) (fun b hb=> ?_) (fun b o _ _ hc e _=>k b o (fun z=>hc (by simp [z])) e) (fun b o _ _ hc e _=>⟨o.slots,k b o (fun z=>hc (by simp [z])) e⟩) (fun _ _ _ _ n=>n)
  (fun b o hc e=>⟨o,k b o (fun z=>hc (by simp [z])) e⟩) (fun _ _ e=>e) (fun _ _ _ e=>e) (fun b ps e=>⟨#[],by rw [e];simp⟩) (fun m hm=> ?_) (fun b u e=> ?_) I.bare
 ·have e:b=it:=by simpa using hb
  subst e
  exact⟨h1,hL,h2,h3⟩
 ·obtain⟨o,es,ep,ho,r⟩:=hm
  exact⟨o,es,ep,k _ o (Y6 hL) ho,r⟩
 ·refine(I.hok b u e).stay (fun c v hc q=>k c v ?_ q) (fun _ q=>q) fun _ _ q=>q
  rcases hc with z|z
  ·rw [z];exact nit b u e
  ·exact nit c _ z
theorem Inv.tok(I:Inv X pins σ H s)(t:Nat):Inv X pins σ H {s with toks:=t}:=I.un (h':=s.heap) (t':=t) Un.refl I.hok
theorem Inv.kept{t':Nat}(I:Inv X pins σ H s)(k:∀b u,s.heap.get? b=some u->h'.get? b=some u):Inv X pins σ H {s with heap:=h',toks:=t'}:=I.un (Un.kept k) (I.hok.kept k)
theorem Inv.laid{a:Addr}{o:HO}{t':Nat}(I:Inv X pins σ H s)(k:∀b u,s.heap.get? b=some u->h'.get? b=some u)(hp:s.heap.objs.size<=a)(new:dA X.prog X.w (upd H a o) h' a o):
  Inv X pins σ (upd H a o) {s with heap:=h',toks:=t'}:=I.un (Un.laid k hp (I.hok.fresh hp)) (I.hok.laid k hp new)
theorem Inv.write{x e:Addr}{o:HO}{t':Nat}(I:Inv X pins σ H s)(mu:Mut (H x))(he:e=x\/H e=some (.own x))(k:∀b u,b≠e->s.heap.get? b=some u->h'.get? b=some u)(heo:∃u,h'.get? e=some u)
  (new:dA X.prog X.w (upd H x o) h' x o):Inv X pins σ (upd H x o) {s with heap:=h',toks:=t'}:=I.un (Un.write mu he k heo) (I.hok.write mu he k heo new)
theorem Inv.pins_of{pins':tzB}(I:Inv X pins σ H s)(h:∀p∈pins',s.heap.get? p.1=some p.2/\H p.1=none/\p.1≠X.env.locals/\p.1∉X.fs/\∀v,p.2.data≠ .cell v):Inv X pins' σ H s:=
 ⟨I.ok,I.os,I.bare,I.base,I.loc,I.cell,I.free,I.freeC,fun p hp=>(ZB.mp hp).elim (fun z=>I.pin p (Zs _ z)) (h p),I.hok,I.len⟩
theorem zi3{N:List Str}(hN:N.Nodup){i j:Nat}{x:Str}(a:N[i]? =some x)(b:N[j]? =some x):i=j:=by
 obtain⟨h1,e1⟩:=Z6.mp a
 obtain⟨h2,e2⟩:=Z6.mp b
 exact(List.getElem_inj hN).mp (e1.trans e2.symm)
theorem yc5{M:Model}{A:Around}{E:Value->Shared->Prop}{i:Nat}{x:Str}{v:V}{u:Value}{Q:Unit->Shared->Prop}(I:Inv X pins σ H s)(hN:X.N.Nodup)(hi:X.N[i]? =some x)(hx:Loc X.env.scope x)(r:cC v u)
  (h:∀s',Inv X pins (σ.set i (some v)) H s'->(∃a,Heap.SameBut a s.heap s'.heap/\(a=X.env.locals\/X.env.cells.lookup x=some a))->Q () s') (hf:X.fn x=true\/X.env.scope.names.lookup x=some .local:=by first|exact .inl rfl|exact .inr rfl|assumption):wpAny M A (storeName X.env x u) Q E s:=by
 obtain⟨m,hn,hl⟩:=id I.loc
 have hcls:(X.env.scope.kind== .class||(X.env.scope.kind== .module&&X.env.locals !=X.env.globals))=false:=by rw [I.ok.kind];rfl
 have hiσ:i<σ.length:=by rw [I.len];exact(Z6.mp hi).1
 have cne:=I.cne
 have tracked:∀{a:Addr} {h':Heap},(∃o,s.heap.get? a=some o/\H a=none)->Heap.SameBut a s.heap h'->HOk X.prog X.w H h':=fun {a h'} ha hs b ob e=>by
  obtain⟨_,_,hfree⟩:=ha
  refine(I.hok b ob e).stay (fun c w' hc q=>(hs.2 c ?_).trans q) (fun _ q=>q) fun _ _ q=>q
  rintro rfl
  rcases hc with rfl|hc
  ·rw [hfree] at e;cases e
  ·rw [hfree] at hc;cases hc
 rcases hx with hk|hk
 ·refine wpAny_storeName_local hk hn (fun h' hn' hs=> ?_) hcls
  obtain⟨oL,_,_,hoL,_⟩:=id hn
  refine h _ ⟨I.ok,I.os,I.bare,⟨fun b o e n hb hx=> ?_,fun b o e n hb hx=> ?_,I.base.free,fun b o e hx=> ?_,I.base.tups,I.base.frzs,I.base.tbls⟩,⟨_,hn',fun j y v' e1 e2 e3=> ?_⟩,fun y c e=> ?_,I.free,I.freeC,fun p hp=> ?_,tracked ⟨oL,hoL,I.free⟩ hs,by simpa using I.len⟩ ⟨_,hs,.inl rfl⟩
  ·exact(hs.2 b (ZG (Zt (Zn e) I.ok.above))).trans (I.base.keep b o e n hb hx)
  ·obtain⟨sl,e1⟩:=I.base.slot b o e n hb hx
   exact⟨sl,(hs.2 b (ZG (Zt (Zn e) I.ok.above))).trans e1⟩
  ·obtain⟨o',e1⟩:=I.base.there b o e hx
   exact⟨o',(hs.2 b (ZG (Zt (Zn e) I.ok.above))).trans e1⟩
  ·by_cases hj:j=i
   ·subst hj
    rw [hi] at e1;cases e1
    rw [Zv hiσ] at e2
    cases e2
    exact⟨u,r,.inl ⟨hk,by simp⟩⟩
   ·rw [Zq (Y6 hj)] at e2
    obtain⟨u',r',q⟩:=hl j y v' e1 e2 e3
    refine⟨u',r',?_⟩
    rcases q with ⟨k,e⟩|⟨k,c,e,z⟩
    ·refine .inl ⟨k,?_⟩
     have:y≠x:=fun e=>hj (zi3 hN e1 (e▸hi))
     simp [this,e]
    ·exact .inr ⟨k,c,e,z.sameBut hs (cne y c e)⟩
  ·obtain⟨w',z⟩:=I.cell y c e
   exact⟨w',z.sameBut hs (cne y c e)⟩
  ·obtain⟨e,n,ne,nf,d⟩:=I.pin p hp
   exact⟨(hs.2 p.1 ne).trans e,n,ne,nf,d⟩
 ·have hfn:X.fn x=true:=by
   rcases hf with z|z
   ·exact z
   ·rw [z] at hk;cases hk
  obtain⟨c,hc⟩:=I.ok.has x (.inl hk)
  obtain⟨w',z⟩:=I.cell x c hc
  refine wpAny_storeName_cell I.ok.kind hk hc z (fun h' hc' hs=> ?_)
  obtain⟨oc,hoc,hocd⟩:=id z
  refine h {s with heap:=h'} ⟨I.ok,I.os,I.bare,⟨fun b o e n hb hx=> ?_,fun b o e n hb hx=> ?_,I.base.free,fun b o e hx=> ?_,I.base.tups,I.base.frzs,I.base.tbls⟩,⟨m,hn.sameBut hs (Y6 (cne x c hc)),fun j y v' e1 e2 e3=> ?_⟩,fun y c' e=> ?_,I.free,I.freeC,fun p hp=> ?_,tracked ⟨oc,hoc,I.freeC x c hc⟩ hs,by simpa using I.len⟩ ⟨c,hs,.inr hc⟩
  ·exact(hs.2 b (ZG (Zt (Zn e) (I.ok.cab x c hfn hc)))).trans (I.base.keep b o e n hb hx)
  ·obtain⟨sl,e1⟩:=I.base.slot b o e n hb hx
   exact⟨sl,(hs.2 b (ZG (Zt (Zn e) (I.ok.cab x c hfn hc)))).trans e1⟩
  ·obtain⟨o',e1⟩:=I.base.there b o e hx
   exact⟨o',(hs.2 b (ZG (Zt (Zn e) (I.ok.cab x c hfn hc)))).trans e1⟩
  ·by_cases hj:j=i
   ·subst hj
    rw [hi] at e1;cases e1
    rw [Zv hiσ] at e2
    cases e2
    exact⟨u,r,.inr ⟨.inl hk,c,hc,hc'⟩⟩
   ·rw [Zq (Y6 hj)] at e2
    obtain⟨u',r',q⟩:=hl j y v' e1 e2 e3
    refine⟨u',r',?_⟩
    rcases q with q|⟨k,c',e,z'⟩
    ·exact .inl q
    ·refine .inr ⟨k,c',e,z'.sameBut hs ?_⟩
     rintro rfl
     exact hj (zi3 hN e1 (I.ok.inj _ _ _ e hc▸hi))
  ·by_cases hcc:c'=c
   ·subst hcc;exact⟨_,hc'⟩
   ·obtain⟨w2,z2⟩:=I.cell y c' e
    exact⟨w2,z2.sameBut hs hcc⟩
  ·obtain⟨e,n,ne,nf,d⟩:=I.pin p hp
   refine⟨(hs.2 p.1 ?_).trans e,n,ne,nf,d⟩
   intro q
   rw [q,hoc] at e
   have q':oc=p.2:=Zz e
   exact d w' (by rw [<-q'];exact hocd)
theorem zi4{M:Model}{A:Around}{E:Value->Shared->Prop}{i:Nat}{x:Str}{v:V}{u:Value}{Q:Unit->Shared->Prop}(I:Inv X pins σ H s)(hN:X.N.Nodup)(hi:X.N[i]? =some x)(hx:Loc X.env.scope x)(r:cC v u)
  (h:∀s',Inv X pins (σ.set i (some v)) H s'->Q () s') (hf:X.fn x=true\/X.env.scope.names.lookup x=some .local:=by first|exact .inl rfl|exact .inr rfl|assumption):wpAny M A (storeName X.env x u) Q E s:=
 yc5 I hN hi hx r (fun s' I' _=>h s' I') hf
theorem Inv.call'{s':Shared}{ch:List Addr}(I:Inv X pins σ H s)(ho:s'.os=s.os)(u:Un (frs X.stack) ch H H' s.heap s'.heap)(hok:HOk X.prog X.w H' s'.heap)(hg:AllBare s'.gens)
  (hch:∀b∈ch,(b∈X.ex\/X.s₀.heap.objs.size<=b)/\b≠X.env.locals/\(∀x c,X.env.cells.lookup x=some c->c≠b)/\∀p∈X.pn++pins,p.1≠b):Inv X pins σ H' s':=by
 obtain⟨h',g',d',t',o'⟩:=s'
 have e:o'=s.os:=ho
 subst e
 exact I.call (g':=g') (t':=t') (d':=d') u hok hg hch
end
abbrev XK:=Value->Option Addr->Hp->Prop
abbrev St:=List (Option V)
abbrev VK:=V->Hp->Prop
abbrev TE:=St->Hp->VK->Prop
abbrev TT:=St->Hp->(Bool->Hp->Prop)->Prop
abbrev TA:=St->Hp->(List V->Hp->Prop)->Prop
structure Ends where
 nx:St->Hp->Prop
 rt:VK
 bk:St->Hp->Prop:=fun _ _=>False
 ct:St->Hp->Prop:=fun _ _=>False
abbrev TS:=Ends->St->Hp->Prop
def EP(X:Cx)(pins:tzB)(σ:St)(Q:VK)(u:Value)(s':Shared):Prop:=∃v H',Inv X pins σ H' s'/\cC v u/\Q v H'
def TP(X:Cx)(pins:tzB)(σ:St)(Q:Bool->Hp->Prop)(b:Bool)(s':Shared):Prop:=∃H',Inv X pins σ H' s'/\Q b H'
def AP(X:Cx)(pins:tzB)(σ:St)(Q:List V->Hp->Prop)(us:List Value)(s':Shared):Prop:=∃vs H',Inv X pins σ H' s'/\bN vs us/\Q vs H'
def SP(X:Cx)(pins:tzB)(D:Ends)(f:Flow)(s':Shared):Prop:=
 match f with
 | .next=>∃σ' H',Inv X pins σ' H' s'/\D.nx σ' H'
 | .brk=>∃σ' H',Inv X pins σ' H' s'/\D.bk σ' H'
 | .cont=>∃σ' H',Inv X pins σ' H' s'/\D.ct σ' H'
 | .ret u=>∃v σ' H',Inv X pins σ' H' s'/\cC v u/\D.rt v H'
def PEd(X:Cx)(e:Expr)(t:TE):Prop:=
 ∀(pins:tzB) (s:Shared) (σ:St) (H:Hp) (Q:VK),Inv X pins σ H s->t σ H Q->wpAny (model X.prog X.w) X.A (eval e X.env) (EP X pins σ Q) X.xe s
structure PE(X:Cx)(e:Expr)(t:TE):Prop where
 go:PEd X e t
instance {X:Cx} {e:Expr} {t:TE}:CoeFun (PE X e t) fun _=>PEd X e t:=⟨PE.go⟩
def PTd(X:Cx)(e:Expr)(t:TT):Prop:=
 ∀(pins:tzB) (s:Shared) (σ:St) (H:Hp) (Q:Bool->Hp->Prop),Inv X pins σ H s->t σ H Q->wpAny (model X.prog X.w) X.A (isTrue e X.env (eval e X.env)) (TP X pins σ Q) X.xe s
structure PT(X:Cx)(e:Expr)(t:TT):Prop where
 go:PTd X e t
instance {X:Cx} {e:Expr} {t:TT}:CoeFun (PT X e t) fun _=>PTd X e t:=⟨PT.go⟩
def PWd(X:Cx)(e:Expr)(t:TT):Prop:=
 ∀(whole:Sem Value) (pins:tzB) (s:Shared) (σ:St) (H:Hp) (Q:Bool->Hp->Prop),Inv X pins σ H s->t σ H Q->wpAny (model X.prog X.w) X.A (isTrue e X.env whole) (TP X pins σ Q) X.xe s
structure PW(X:Cx)(e:Expr)(t:TT):Prop where
 go:PWd X e t
instance {X:Cx} {e:Expr} {t:TT}:CoeFun (PW X e t) fun _=>PWd X e t:=⟨PW.go⟩
theorem PW.pt{X:Cx}{e:Expr}{t:TT}(h:PW X e t):PT X e t:=⟨h _⟩
def PAd(X:Cx)(es:List Expr)(t:TA):Prop:=
 ∀(pos:Pos) (pins:tzB) (s:Shared) (σ:St) (H:Hp) (Q:List V->Hp->Prop),Inv X pins σ H s->t σ H Q->wpAny (model X.prog X.w) X.A (spliced (backTo pos (starEach es X.env))) (AP X pins σ Q) X.xe s
structure PA(X:Cx)(es:List Expr)(t:TA):Prop where
 go:PAd X es t
instance {X:Cx} {es:List Expr} {t:TA}:CoeFun (PA X es t) fun _=>PAd X es t:=⟨PA.go⟩
def PSd(X:Cx)(st:Stmt)(t:TS):Prop:=
 ∀(pins:tzB) (s:Shared) (σ:St) (H:Hp) (D:Ends),Inv X pins σ H s->t D σ H->wpAny (model X.prog X.w) X.A (exec st X.env) (SP X pins D) X.xe s
structure PS(X:Cx)(st:Stmt)(t:TS):Prop where
 go:PSd X st t
instance {X:Cx} {st:Stmt} {t:TS}:CoeFun (PS X st t) fun _=>PSd X st t:=⟨PS.go⟩
def xj9(X:Cx)(st:List Stmt)(t:TS):Prop:=
 ∀(pins:tzB) (s:Shared) (σ:St) (H:Hp) (D:Ends),Inv X pins σ H s->t D σ H->wpAny (model X.prog X.w) X.A (execs st X.env) (SP X pins D) X.xe s
structure PSs(X:Cx)(st:List Stmt)(t:TS):Prop where
 go:xj9 X st t
instance {X:Cx} {st:List Stmt} {t:TS}:CoeFun (PSs X st t) fun _=>xj9 X st t:=⟨PSs.go⟩
theorem thn{α:Type}{t:Sem α}{Q Q':α->Shared->Prop}{M:Model}{A:Around}{E:Value->Shared->Prop}{s:Shared}(h:wpAny M A t Q E s)(hQ:∀a s,Q a s->Q' a s):wpAny M A t Q' E s:=Y5 h hQ fun _ _ x=>x
section
variable{X:Cx}
def xk0(i:Nat):TE:=fun σ H Q=>∃v,σ[i]? =some (some v)/\Q v H
def tC(v:V):TE:=fun _ H Q=>Q v H
theorem rO{i:Nat}{x:Str}{pos:Pos}(hN:X.N[i]? =some x)(hv:Vis X.env.scope x)(hd:NDb x:=by decide)(hcd:(x==("__classdict__":Str))=false:=by decide):PE X (.Name x pos) (xk0 i):=⟨by
 intro pins s σ H Q I h
 obtain⟨v,e,h⟩:=h
 obtain⟨m,hn,hl⟩:=I.loc
 obtain⟨u,r,l⟩:=hl i x v hN e hv
 have fin:EP X pins σ Q u s:=⟨v,H,I,r,h⟩
 rcases l with ⟨hk,hm⟩|⟨hk,c,hc,hcell⟩
 ·exact wpAny_Name (wpAny_loadName_local I.ok.kind hk hn hm fin) hd
 ·rcases hk with hk|hk
  ·exact wpAny_Name (wpAny_loadName_cell I.ok.kind hk hc hcell fin) hd
  ·exact wpAny_Name (wpAny_loadName_free I.ok.kind hk hc hcell fin hcd) hd⟩
theorem gM{i j pos}:PE X (.Constant (.int i) j pos) (tC (.int i)):=⟨fun _ _ _ H _ I h=>wpAny_Constant_int ⟨.int i,H,I.tok _,⟨_,rfl⟩,h⟩⟩
theorem yu9{b j pos}:PE X (.Constant (.bool b) j pos) (tC (.bl b)):=⟨fun _ _ _ H _ I h=>Constant_bool ⟨.bl b,H,I,rfl,h⟩⟩
theorem yc6{j pos}:PE X (.Constant .none j pos) (tC .non):=⟨fun _ _ _ H _ I h=>Constant_none ⟨.non,H,I,rfl,h⟩⟩
theorem yc7{x j pos}:PE X (.Constant (.str x) j pos) (tC (.str x)):=⟨fun _ _ _ H _ I h=>Calls.Constant_str ⟨.str x,H,I.tok _,⟨_,rfl⟩,h⟩⟩
def Gl(X:Cx)(x:Str):Prop:=X.env.kindOf x=some .globalImplicit
theorem vO{E:Value->Shared->Prop}{pins:tzB}{s:Shared}{σ:St}{H:Hp}{x:Str}{u:Value}{pos:Pos}{Q:Value->Shared->Prop}(I:Inv X pins σ H s)(hg:Gl X x)(hm:X.mg x=some u)(h:Q u s)
  (hd:NDb x:=by decide):wpAny (model X.prog X.w) X.A (eval (.Name x pos) X.env) Q E s:=
 XH I.ok.kind hg (Calls.loadGlobal_global (by rw [I.ok.glob];exact I.mod.glob.keeps I.bk) hm h) hd
theorem rP{E:Value->Shared->Prop}{pins:tzB}{s:Shared}{σ:St}{H:Hp}{x:Str}{u:Value}{pos:Pos}{Q:Value->Shared->Prop}(I:Inv X pins σ H s)(hg:Gl X x)(hm:X.mg x=none)(hv:bootBuiltins x=some u)(h:Q u s)
  (hn:x≠"__name__":=by decide) (hd:NDb x:=by decide):wpAny (model X.prog X.w) X.A (eval (.Name x pos) X.env) Q E s:=by
 obtain⟨mb,h1,h2⟩:=I.mod.blt
 exact XH I.ok.kind hg (Calls.loadGlobal_builtin (by rw [I.ok.glob];exact I.mod.glob.keeps I.bk) hm (by rw [I.ok.blt];exact h1.keeps I.bk) ((h2 x hn).trans hv) h) hd
theorem yw7{x:Str}{v:V}{u:Value}{pos:Pos}(hg:Gl X x)(hm:X.mg x=some u)(r:cC v u)(hd:NDb x:=by decide):PE X (.Name x pos) (tC v):=
 ⟨fun _ _ _ H _ I h=>vO I hg hm ⟨v,H,I,r,h⟩ hd⟩
theorem yw8{x:Str}{v:V}{u:Value}{pos:Pos}(hg:Gl X x)(hm:X.mg x=none)(hv:bootBuiltins x=some u)(r:cC v u)(hn:x≠"__name__":=by decide)(hd:NDb x:=by decide):PE X (.Name x pos) (tC v):=
 ⟨fun _ _ _ H _ I h=>rP I hg hm hv ⟨v,H,I,r,h⟩ hn hd⟩
variable{a b:Expr}{ta tb:TE}{pos:Pos}
def PC(X:Cx)(op:CmpOp)(a b:Expr)(t:TE):Prop:=
 ∀(pins:tzB) (s:Shared) (σ:St) (H:Hp) (Q:VK),Inv X pins σ H s->t σ H Q->
  wpAny (model X.prog X.w) X.A (eval a X.env) (fun v s₁=>wpAny (model X.prog X.w) X.A (eval b X.env) (fun u s₂=>wpAny (model X.prog X.w) X.A (compareOp op v u) (EP X pins σ Q) X.xe s₂) X.xe s₁) X.xe s
def tB(t:TE):TT:=fun σ H Q=>t σ H fun x H1=>∃c,x= .bl c/\Q c H1
theorem xe7{op:CmpOp}{t:TE}(h:PC X op a b t)(h1:behindInMarks op b=false:=by first|exact nobehind _ (by decide) (by decide)|rfl):PT X (.Compare a [op] [b] pos) (tB t):=⟨by
 intro pins s σ H Q I hw
 refine wpAny_isTrue_Compare1 (thn (h pins s σ H _ I hw) fun v s1 h1=>thn h1 fun u s2 h2=>thn h2 fun c s3 ⟨x,H1,I1,r1,q1⟩=> ?_) h1
 obtain⟨d,rfl,q⟩:=q1
 cases r1
 exact Y4 ⟨H1,I1,q⟩⟩
variable{tA tB':TT}{rest:List Expr}
def xr0(t u:TT):TT:=fun σ H Q=>t σ H fun c H1=>if c=true then u σ H1 Q else Q false H1
def tOr(t u:TT):TT:=fun σ H Q=>t σ H fun c H1=>if c=true then Q true H1 else u σ H1 Q
def xr1(t:TT):TT:=fun σ H Q=>t σ H fun c H1=>Q (!c) H1
theorem yw9(ha:PT X a tA):PW X (.BoolOp .And [a] pos) tA:=⟨by
 intro wh pins s σ H Q I h
 refine isTrue_and (thn (ha pins s σ H Q I h) fun c s1 e=> ?_)
 cases c with
 |true=>exact isTrue_and_nil e
 |false=>exact e⟩
theorem xe8(ha:PT X a tA):PW X (.BoolOp .Or [a] pos) tA:=⟨by
 intro wh pins s σ H Q I h
 refine isTrue_or (thn (ha pins s σ H Q I h) fun c s1 e=> ?_)
 cases c with
 |false=>exact isTrue_or_nil e
 |true=>exact e⟩
theorem xe9(ha:PT X a tA)(hb:PW X (.BoolOp .And (b::rest) pos) tB'):PW X (.BoolOp .And (a::b::rest) pos) (xr0 tA tB'):=⟨by
 intro wh pins s σ H Q I h
 refine isTrue_and (thn (ha pins s σ H _ I h) fun c s1 ⟨H1,I1,q1⟩=> ?_)
 cases c with
 |true=>exact hb wh pins s1 σ H1 Q I1 q1
 |false=>exact⟨H1,I1,q1⟩⟩
theorem xm5(ha:PT X a tA)(hb:PW X (.BoolOp .Or (b::rest) pos) tB'):PW X (.BoolOp .Or (a::b::rest) pos) (tOr tA tB'):=⟨by
 intro wh pins s σ H Q I h
 refine isTrue_or (thn (ha pins s σ H _ I h) fun c s1 ⟨H1,I1,q1⟩=> ?_)
 cases c with
 |true=>exact⟨H1,I1,q1⟩
 |false=>exact hb wh pins s1 σ H1 Q I1 q1⟩
theorem yc8(ha:PT X a tA):PT X (.UnaryOp .Not a pos) (xr1 tA):=⟨by
 intro pins s σ H Q I h
 exact isTrue_not (ha pins s σ H (fun c H1=>Q (!c) H1) I h)⟩
def xo5(ta tb:TE):TE:=fun σ H Q=>ta σ H fun x H1=>∃c,x= .bl c/\if c=true then tb σ H1 Q else Q (.bl false) H1
def xr2(ta tb:TE):TE:=fun σ H Q=>ta σ H fun x H1=>∃c,x= .bl c/\if c=true then Q (.bl true) H1 else tb σ H1 Q
theorem yc9{op}{t:TE}(h:PE X a t):PE X (.BoolOp op [a] pos) t:=⟨fun pins s σ H Q I hw=>BoolOp_one (h pins s σ H Q I hw)⟩
theorem yd0(ha:PE X a ta)(hb:PE X (.BoolOp .And (b::rest) pos) tb):PE X (.BoolOp .And (a::b::rest) pos) (xo5 ta tb):=⟨by
 intro pins s σ H Q I h
 refine BoolOp_and (thn (ha pins s σ H _ I h) fun v s1 ⟨x,H1,I1,r1,q1⟩=> ?_)
 obtain⟨c,rfl,q1⟩:=q1
 cases r1
 refine Y4 ?_
 cases c with
 |true=>exact hb pins s1 σ H1 Q I1 q1
 |false=>exact⟨.bl false,H1,I1,rfl,q1⟩⟩
theorem xm6(ha:PE X a ta)(hb:PE X (.BoolOp .Or (b::rest) pos) tb):PE X (.BoolOp .Or (a::b::rest) pos) (xr2 ta tb):=⟨by
 intro pins s σ H Q I h
 refine BoolOp_or (thn (ha pins s σ H _ I h) fun v s1 ⟨x,H1,I1,r1,q1⟩=> ?_)
 obtain⟨c,rfl,q1⟩:=q1
 cases r1
 refine Y4 ?_
 cases c with
 |false=>exact hb pins s1 σ H1 Q I1 q1
 |true=>exact⟨.bl true,H1,I1,rfl,q1⟩⟩
end
def SqL(K:tz0)(H:Hp)(a:Addr)(xs:List V):Prop:=
 Rd H a (.lst xs)\/
  ∃(o:Obj) (its:Array Value) (n:Nat),K.lookup a=some o/\o.cls= .type "list"/\o.dict=none/\o.data= .seq its n/\its.size<=sizeLine/\bN xs its.toList
def SqT(K:tz0)(H:Hp)(a:Addr)(xs:List V):Prop:=
 Rd H a (.tup xs)\/
  ∃(o:Obj) (its:Array Value) (n:Nat),K.lookup a=some o/\o.cls= .type "tuple"/\o.data= .seq its n/\its.size<=sizeLine/\bN xs its.toList
def xr3:Value->Option V
 | .none=>some .non
 | .bool b=>some (.bl b)
 | .int i _=>some (.int i)
 | .str x _=>some (.str x)
 | .bytes b _=>some (.byt b)
 | .float b _=>some (.flt b)
 | .ref a=>some (.ref a)
 | .type n=>some (.ty n)
 |_=>none
theorem cC.abs{x:V}{u:Value}(r:cC x u):xr3 u=some x:=by
 cases x with
 |non=>cases r;rfl
 |bl _=>cases r;rfl
 |int _=>obtain⟨t,rfl⟩:=r;rfl
 |str _=>obtain⟨t,rfl⟩:=r;rfl
 |byt _=>obtain⟨t,rfl⟩:=r;rfl
 |flt _=>obtain⟨t,rfl⟩:=r;rfl
 |ref _=>cases r;rfl
 |ty _=>cases r;rfl
theorem cC.inj{x y:V}{u:Value}(r:cC x u)(q:cC y u):x=y:=Zz (r.abs.symm.trans q.abs)
theorem bN.inj:∀{xs ys:List V} {us:List Value},bN xs us->bN ys us->xs=ys
 |_,_,_,.nil,.nil=>rfl
 |_,_,_,.cons r t,.cons r' t'=>by rw [r.inj r',bN.inj t t']
section
variable{X:Cx}{pins:tzB}{σ:St}{H:Hp}{s:Shared}{a:Addr}{xs ys:List V}
theorem Inv.list(I:Inv X pins σ H s)(h:SqL X.K H a xs):∃its:List Value,bN xs its/\PlainL s.heap a its.toArray/\xs.length<=sizeLine:=by
 rcases h with h|⟨o,its,n,hk,hc,hd,hs,hz,r⟩
 ·obtain⟨z,its,n,r,e⟩:=h.ok I.hok
  exact⟨its,r,⟨_,n,e,rfl,rfl,rfl⟩,z⟩
 ·refine⟨its.toList,r,⟨o,n,I.kIn a o hk,hc,hd,by simpa using hs⟩,?_⟩
  have e:=r.length
  simp only [ZQ] at e
  omega
theorem Inv.tuple(I:Inv X pins σ H s)(h:SqT X.K H a xs):∃its:List Value,bN xs its/\IsTup s.heap a its.toArray/\xs.length<=sizeLine:=by
 rcases h with h|⟨o,its,n,hk,hc,hs,hz,r⟩
 ·obtain⟨z,its,r,p⟩:=h.ok I.hok
  exact⟨its,r,p,z⟩
 ·refine⟨its.toList,r,⟨o,I.kIn a o hk,hc,n,by simpa using hs⟩,?_⟩
  have e:=r.length
  simp only [ZQ] at e
  omega
theorem Inv.list_inj(I:Inv X pins σ H s)(h:SqL X.K H a xs)(h':SqL X.K H a ys):xs=ys:=by
 obtain⟨its,r,⟨o,n,e,_,_,d⟩,_⟩:=I.list h
 obtain⟨its',r',⟨o',n',e',_,_,d'⟩,_⟩:=I.list h'
 rw [e] at e';cases e'
 rw [d] at d'
 injection d' with d1 _
 have:its=its':=by simpa using ZP Array.toList d1
 subst this
 exact r.inj r'
theorem Inv.tuple_inj(I:Inv X pins σ H s)(h:SqT X.K H a xs)(h':SqT X.K H a ys):xs=ys:=by
 obtain⟨its,r,⟨o,e,_,n,d⟩,_⟩:=I.tuple h
 obtain⟨its',r',⟨o',e',_,n',d'⟩,_⟩:=I.tuple h'
 rw [e] at e';cases e'
 rw [d] at d'
 injection d' with d1 _
 have:its=its':=by simpa using ZP Array.toList d1
 subst this
 exact r.inj r'
end
abbrev Cx.wish(X:Cx)(E:Value->Shared->Prop):Cx:={X with xe:=E}
abbrev Cx.nox(X:Cx):Cx:=X.wish fun _ _=>False
theorem Cx.Ok.wish{X:Cx}(ok:X.Ok)(E:Value->Shared->Prop):(X.wish E).Ok:=
 ⟨ok.mod,ok.kind,ok.glob,ok.blt,ok.above,ok.inj,ok.has,ok.cab,ok.hd,ok.frames,ok.stk,ok.exf,ok.bs,ok.bsz,ok.noex,ok.exfs,ok.funs,ok.frf⟩
theorem Cx.Ok.unwish{X:Cx}{E:Value->Shared->Prop}(ok:(X.wish E).Ok):X.Ok:=
 ⟨ok.mod,ok.kind,ok.glob,ok.blt,ok.above,ok.inj,ok.has,ok.cab,ok.hd,ok.frames,ok.stk,ok.exf,ok.bs,ok.bsz,ok.noex,ok.exfs,ok.funs,ok.frf⟩
section
variable{X:Cx}{pins:tzB}{σ:St}{H:Hp}{s:Shared}{E:Value->Shared->Prop}
theorem Inv.wish(I:Inv X pins σ H s)(E:Value->Shared->Prop):Inv (X.wish E) pins σ H s:=⟨I.ok.wish E,I.os,I.bare,I.base,I.loc,I.cell,I.free,I.freeC,I.pin,I.hok,I.len⟩
theorem Inv.unwish(I:Inv (X.wish E) pins σ H s):Inv X pins σ H s:=⟨I.ok.unwish,I.os,I.bare,I.base,I.loc,I.cell,I.free,I.freeC,I.pin,I.hok,I.len⟩
theorem SP.unwish{D:Ends}{f:Flow}{s':Shared}(h:SP (X.wish E) pins D f s'):SP X pins D f s':=by
 cases f with
 |next=>obtain⟨σ',H',I,q⟩:=h;exact⟨σ',H',I.unwish,q⟩
 |brk=>obtain⟨σ',H',I,q⟩:=h;exact⟨σ',H',I.unwish,q⟩
 |cont=>obtain⟨σ',H',I,q⟩:=h;exact⟨σ',H',I.unwish,q⟩
 |ret u=>obtain⟨v,σ',H',I,r,q⟩:=h;exact⟨v,σ',H',I.unwish,r,q⟩
theorem PSs.nox{st:List Stmt}{t:TS}(h:PSs X.nox st t):PSs X st t:=⟨fun pins s σ H D I hw=>
 Y5 (h pins s σ H D (I.wish _) hw) (fun _ _ q=>q.unwish) fun _ _ z=>False.elim z⟩
end
section
variable{X:Cx}{st:Stmt}{rest:List Stmt}{t u:TS}{e:Expr}{te:TE}{pos:Pos}
def xo6:TS:=fun D σ H=>D.nx σ H
def xr4(t u:TS):TS:=fun D σ H=>t {D with nx:=u D} σ H
theorem zr5:PSs X [] xo6:=⟨fun _ _ σ H _ I h=>YY ⟨σ,H,I,h⟩⟩
theorem lH(h1:PS X st t)(h2:PSs X rest u):PSs X (st::rest) (xr4 t u):=⟨by
 intro pins s σ H D I h
 refine wpAny_execs_cons (thn (h1 pins s σ H {D with nx:=u D} I h) fun f s1 q=> ?_)
 cases f with
 |next=>
  obtain⟨σ',H',I',q⟩:=q
  exact h2 pins s1 σ' H' D I' q
 |ret v=>exact q
 |brk=>exact q
 |cont=>exact q⟩
theorem vP(h1:PS X st t):PSs X [st] t:=⟨by
 intro pins s σ H D I h
 refine wpAny_execs_cons (thn (h1 pins s σ H D I h) fun f s1 q=> ?_)
 cases f with
 |next=>exact YY q
 |ret v=>exact q
 |brk=>exact q
 |cont=>exact q⟩
theorem Inv.quiet{pins:tzB}{σ:St}{H:Hp}{s:Shared}(I:Inv X pins σ H s):interactive X.env=false:=by simp [interactive,I.ok.kind]
def xo7(te:TE):TS:=fun D σ H=>te σ H fun _ H1=>D.nx σ H1
theorem yx0(he:PE X e te)(hs:swapsWith e none pos.line X.env=pure false:=by rfl):PS X (.Expr e pos) (xo7 te):=⟨by
 intro pins s σ H D I h
 exact wpAny_Expr_any (thn (he pins s σ H _ I h) fun v s1 ⟨x,H1,I1,r1,q1⟩=>⟨σ,H1,I1,q1⟩) I.quiet hs⟩
def xr5(te:TE):TS:=fun D σ H=>te σ H D.rt
theorem uF(he:PE X e te):PS X (.Return (some e) pos) (xr5 te):=⟨by
 intro pins s σ H D I h
 exact wpAny_Return_some (thn (he pins s σ H _ I h) fun v s1 ⟨x,H1,I1,r1,q1⟩=>⟨x,σ,H1,I1,r1,q1⟩)⟩
def xr6(c:TT)(t u:TS):TS:=fun D σ H=>c σ H fun b H1=>if b=true then t D σ H1 else u D σ H1
theorem yv0{c:Expr}{a b:List Stmt}{tc:TT}(hc:PT X c tc)(ha:PSs X a t)(hb:PSs X b u):PS X (.If c a b pos) (xr6 tc t u):=⟨by
 intro pins s σ H D I h
 refine wpAny_If (thn (hc pins s σ H _ I h) fun d s1 ⟨H1,I1,q1⟩=> ?_)
 cases d with
 |true=>exact ha pins s1 σ H1 D I1 q1
 |false=>exact hb pins s1 σ H1 D I1 q1⟩
end
abbrev TG:=V->St->Hp->(St->Hp->Prop)->Prop
abbrev TGs:=List V->St->Hp->(St->Hp->Prop)->Prop
def PGd(X:Cx)(target:Expr)(t:TG):Prop:=
 ∀(pins:tzB) (s:Shared) (σ:St) (H:Hp) (v:V) (u:Value) (Q:St->Hp->Prop),Inv X pins σ H s->cC v u->t v σ H Q->
  wpAny (model X.prog X.w) X.A (assign target X.env u) (fun _ s'=>∃σ' H',Inv X pins σ' H' s'/\Q σ' H') X.xe s
structure PG(X:Cx)(target:Expr)(t:TG):Prop where
 go:PGd X target t
instance {X:Cx} {target:Expr} {t:TG}:CoeFun (PG X target t) fun _=>PGd X target t:=⟨PG.go⟩
def xk1(X:Cx)(ts:List Expr)(t:TGs):Prop:=
 ∀(pins:tzB) (s:Shared) (σ:St) (H:Hp) (vs:List V) (us:List Value) (Q:St->Hp->Prop),Inv X pins σ H s->bN vs us->t vs σ H Q->
  wpAny (model X.prog X.w) X.A (assignInOrder ((assignEach ts X.env).map (·.2)) us) (fun _ s'=>∃σ' H',Inv X pins σ' H' s'/\Q σ' H') X.xe s
structure PGs(X:Cx)(ts:List Expr)(t:TGs):Prop where
 go:xk1 X ts t
instance {X:Cx} {ts:List Expr} {t:TGs}:CoeFun (PGs X ts t) fun _=>xk1 X ts t:=⟨PGs.go⟩
abbrev yt6:=V->V->V->Hp->(Hp->Prop)->Prop
def xk2(X:Cx)(t:yt6):Prop:=
 ∀(pins:tzB) (s:Shared) (σ:St) (H:Hp) (o i v:V) (ov iv u:Value) (Q:Hp->Prop),Inv X pins σ H s->cC o ov->cC i iv->cC v u->t o i v H Q->
  wpAny (model X.prog X.w) X.A (setItem ov iv u) (fun _ s'=>∃H',Inv X pins σ H' s'/\Q H') X.xe s
section
variable{X:Cx}{pos:Pos}
def tM(i:Nat):TG:=fun v σ H Q=>Q (σ.set i (some v)) H
theorem kK{i:Nat}{x:Str}(hN:X.N.Nodup)(hi:X.N[i]? =some x)(hx:Loc X.env.scope x)(hf:X.fn x=true\/X.env.scope.names.lookup x=some .local:=by first|exact .inl rfl|exact .inr rfl|assumption):PG X (.Name x pos) (tM i):=⟨by
 intro pins s σ H v u Q I r h
 exact wpAny_assign_Name (zi4 I hN hi hx r (fun s' I'=>⟨_,H,I',h⟩) hf)⟩
def xk3:TGs:=fun vs σ H Q=>vs=[]/\Q σ H
def yw0(t:TG)(u:TGs):TGs:=fun vs σ H Q=>∃v r,vs=v::r/\t v σ H fun σ' H'=>u r σ' H' Q
theorem zr6:PGs X [] xk3:=⟨by
 intro pins s σ H vs us Q I r h
 obtain⟨e,h⟩:=h
 subst e
 cases r
 exact assignInOrder_nil ⟨σ,H,I,h⟩⟩
theorem mZ{e:Expr}{es:List Expr}{t:TG}{u:TGs}(h1:PG X e t)(h2:PGs X es u)
  (hs:(assignEach (e::es) X.env).map (·.2)=assign e X.env::(assignEach es X.env).map (·.2):=by rfl):PGs X (e::es) (yw0 t u):=⟨by
 intro pins s σ H vs us Q I r h
 obtain⟨v,vr,e1,h⟩:=h
 subst e1
 cases r with
 |cons r rr=>
  rw [hs]
  refine assignInOrder_cons (thn (h1 pins s σ H _ _ _ I r h) fun _ s1 ⟨σ1,H1,I1,q1⟩=> ?_)
  exact h2 pins s1 σ1 H1 _ _ Q I1 rr q1⟩
def yt7(K:tz0)(n:Nat)(t:TGs):TG:=fun v σ H Q=>∃a xs,v= .ref a/\SqT K H a xs/\xs.length=n/\t xs σ H Q
theorem xf0{es:List Expr}{k:Nat}{t:TGs}{n:Nat}(hc:X.calm=true)(h:PGs X es t)
  (hn:(assignEach es X.env).length=n:=by rfl) (hst:(assignEach es X.env).findIdx? (·.1)=none:=by rfl):PG X (.Tuple es k pos) (yt7 X.K n t):=⟨by
 intro pins s σ H v u Q I r hw
 obtain⟨a,xs,e1,hq,hl,hw⟩:=hw
 subst e1
 cases r
 obtain⟨its,rv,ht,hz⟩:=I.tuple hq
 refine assign_Tuple_tuple (I.ok.hd hc) ht (by simp [hn,<-hl,rv.length]) hst fun h' hx=> ?_
 have I1:Inv X pins σ H {s with heap:=h'}:=I.kept (t':=s.toks) fun b o e=>hx b o (ZG (Zn e)) e
 exact h pins _ σ H xs _ Q I1 (by simpa using rv) hw⟩
def xr7(to ti:TE)(t:yt6):TG:=fun v σ H Q=>to σ H fun o H1=>ti σ H1 fun i H2=>t o i v H2 fun H3=>Q σ H3
theorem xf1{o i:Expr}{to ti:TE}{t:yt6}(ho:PE X o to)(hi:PE X i ti)(hs:xk2 X t)
  (ha:∀v,assign (.Subscript o i pos) X.env v=(do
   let ov<-holding [v] (eval o X.env)
   let iv<-holding [v,ov] (eval i X.env)
   standAt pos
   holding [v,ov,iv] (setItem ov iv v)
   release [v,ov,iv] []):=by intro _;rfl):PG X (.Subscript o i pos) (xr7 to ti t):=⟨by
 intro pins s σ H v u Q I r h
 rw [ha]
 refine Zg (YL (thn (ho pins s σ H _ I h) fun ov s1 ⟨x,H1,I1,r1,q1⟩=> ?_))
 refine Zg (YL (thn (hi pins s1 σ H1 _ I1 q1) fun iv s2 ⟨y,H2,I2,r2,q2⟩=> ?_))
 refine Zg (XL (Zg (YL (thn (hs pins s2 σ H2 x y v ov iv u _ I2 r1 r2 r q2) fun _ s3 ⟨H3,I3,q3⟩=> ?_))))
 exact wpAny_release ⟨σ,H3,I3,q3⟩⟩
def xk4(te:TE)(g:TG):TS:=fun D σ H=>te σ H fun x H1=>g x σ H1 D.nx
theorem yd1{tg e:Expr}{te:TE}{g:TG}(he:PE X e te)(hg:PG X tg g)(hs:swapsWithSole [tg] e pos.line X.env=pure false:=by rfl)(hw:swappedStores [tg] e X.env=pure none:=by rfl)
  (h1:(assignEach [tg] X.env).map (·.2)=[assign tg X.env]:=by rfl):PS X (.Assign [tg] e pos) (xk4 te g):=⟨by
 intro pins s σ H D I h
 refine wpAny_Assign_stores (thn (he pins s σ H _ I h) fun v s1 ⟨x,H1,I1,r1,q1⟩=> ?_) hs hw
 rw [h1]
 exact thn (hg pins s1 σ H1 x v _ I1 r1 q1) fun _ s2 q=>q⟩
theorem pO{i:Nat}{x:Str}{e:Expr}{te:TE}{pos':Pos}(hN:X.N.Nodup)(hi:X.N[i]? =some x)(hx:Loc X.env.scope x)(he:PE X e te)(hs:swapsWith e (some (.Name x pos')) pos.line X.env=pure false:=by rfl)(hf:X.fn x=true\/X.env.scope.names.lookup x=some .local:=by first|exact .inl rfl|exact .inr rfl|assumption):
  PS X (.Assign [.Name x pos'] e pos) (xk4 te (tM i)):=⟨by
 intro pins s σ H D I h
 refine wpAny_Assign_Name (thn (he pins s σ H _ I h) fun v s1 ⟨y,H1,I1,r1,q1⟩=> ?_) hs
 exact zi4 I1 hN hi hx r1 (fun s2 I2=>⟨_,H1,I2,q1⟩) hf⟩
def xk5(c:TT)(tb:TS):TS:=fun D σ H=>∃W:Nat->St->Hp->Prop,(∃m,W m σ H)/\∀m σ H,W m σ H->
 c σ H fun b H1=>if b=true then ∃N:St->Hp->Prop,(∀σ' H',N σ' H'->∃m',m'<m/\W m' σ' H')/\tb {D with nx:=N,ct:=N,bk:=D.nx} σ H1 else D.nx σ H1
theorem ym4{c:Expr}{body:List Stmt}{tc:TT}{tb:TS}(hp:PassesOwn (model X.prog X.w) X.A X.env X.xe)(hc:PT X c tc)(hb:PSs X body tb):PS X (.While c body [] pos) (xk5 tc tb):=⟨by
 intro pins s σ H D I h
 obtain⟨W,⟨m0,w0⟩,turn⟩:=h
 refine wpAny_While (codeAny_whileLoop (fun n s'=>∃σ' H',Inv X pins σ' H' s'/\W n σ' H') ?_ m0 ⟨σ,H,I,w0⟩)
 rintro n s1 ⟨σ1,H1,I1,w1⟩
 refine Ye hp (thn (hc pins s1 σ1 H1 _ I1 (turn n σ1 H1 w1)) fun b s2 ⟨H2,I2,q2⟩=> ?_)
 cases b with
 | true=>
  obtain⟨N,hN,q2⟩:=q2
  rw [if_pos rfl]
  refine Ye hp (thn (hb pins s2 σ1 H2 _ I2 q2) fun f s3 q3=> ?_)
  cases f with
  |next=>
   obtain⟨σ3,H3,I3,n3⟩:=q3
   obtain⟨m',hm,w3⟩:=hN σ3 H3 n3
   exact⟨m',hm,σ3,H3,I3,w3⟩
  |cont=>
   obtain⟨σ3,H3,I3,n3⟩:=q3
   obtain⟨m',hm,w3⟩:=hN σ3 H3 n3
   exact⟨m',hm,σ3,H3,I3,w3⟩
  |brk=>exact q3
  |ret v=>exact q3
 |false=>
  rw [if_neg Z5]
  exact YY ⟨σ1,H2,I2,q2⟩⟩
end
structure It where
 go:Nat->Hp->Prop
 yld:Nat->Hp->V->Hp->Prop
 stop:Nat->Hp->Prop
def mO(X:Cx)(pins:tzB)(H:Hp)(b:Addr):Prop:=
 H b=none/\b≠X.env.locals/\b∉X.fs/\(b∈X.ex\/X.s₀.heap.objs.size<=b)/\(∀x c,X.env.cells.lookup x=some c->c≠b)/\∀p∈X.pn++pins,p.1≠b
theorem Inv.fpOk{X:Cx}{pins:tzB}{σ:St}{H H':Hp}{s:Shared}{b:Addr}(I:Inv X pins σ H s)(hb:s.heap.objs.size<=b)(hn:H' b=none):mO X pins H' b:=by
 refine⟨hn,Xy (Zt I.lt hb),I.nofs hb,.inr (ZD I.sz hb),fun x c e z=> ?_,fun p hp z=> ?_⟩
 ·obtain⟨v,q⟩:=I.cell x c e
  exact absurd (Zt q.lt (by rw [z];exact hb)) (ZY _)
 ·exact absurd (Zt (Zn (I.pin p hp).1) (by rw [z];exact hb)) (ZY _)
structure Turn(P:Program)(w:World)(K:tz0)(tg:Expr)(J:It)(fp:List Addr)(it:Addr)(tn:Nat->Heap->Prop):Prop where
 mem:it∈fp
 obj:∀i h,tn i h->∀b∈fp,∃o,h.get? b=some o/\∀v,o.data≠ .cell v
 keep:∀i h h',tn i h->(∀b∈fp,∀o,h.get? b=some o->h'.get? b=some o)->tn i h'
 item:∀(X:Cx),X.prog=P->X.w=w->X.K=K->X.calm=true->∀(i:Nat) (pins:tzB) (s:Shared) (σ:St) (H:Hp) (E:Value->Shared->Prop),Inv X pins σ H s->(∀b∈fp,mO X pins H b)->tn i s.heap->J.go i H->
  wpAny (model P w) X.A (pyNext (.ref it)) (fun r s1=>∃u,r=some u/\
   wpAny (model P w) X.A (letOwnedTupleGo tg (.ref it) u) (fun _ s2=>∃x H',Inv X pins σ H' s2/\cC x u/\J.yld i H x H'/\tn (i+1) s2.heap/\∀b∈fp,H' b=none) E s1) E s
 done:∀(X:Cx),X.prog=P->X.w=w->X.K=K->X.calm=true->∀(i:Nat) (pins:tzB) (s:Shared) (σ:St) (H:Hp) (E:Value->Shared->Prop),Inv X pins σ H s->(∀b∈fp,mO X pins H b)->tn i s.heap->J.stop i H->
  wpAny (model P w) X.A (pyNext (.ref it)) (fun r s1=>r=none/\Inv X pins σ H s1) E s
 self:∀(A:Around) (i:Nat) (s:Shared) (Q:Value->Shared->Prop) (E:Value->Shared->Prop),tn i s.heap->Q (.ref it) s->wpAny (model P w) A (pyIter (.ref it)) Q E s
abbrev TI:=St->Hp->(It->Hp->Prop)->Prop
def PIE(X:Cx)(pins:tzB)(σ:St)(tg:Expr)(R:It->Hp->Prop)(itv:Value)(s2:Shared):Prop:=
 ∃(it:Addr) (fp:List Addr) (tn:Nat->Heap->Prop) (J:It) (H':Hp),itv= .ref it/\Inv X pins σ H' s2/\Turn X.prog X.w X.K tg J fp it tn/\tn 0 s2.heap/\(∀b∈fp,mO X pins H' b)/\R J H'
def PId(X:Cx)(tg iter:Expr)(wi:TI):Prop:=
 ∀(pins:tzB) (s:Shared) (σ:St) (H:Hp) (R:It->Hp->Prop),Inv X pins σ H s->wi σ H R->
  wpAny (model X.prog X.w) X.A (eval iter X.env) (fun v s1=>wpAny (model X.prog X.w) X.A (pyIter v) (PIE X pins σ tg R) X.xe s1) X.xe s
structure PI(X:Cx)(tg iter:Expr)(wi:TI):Prop where
 go:PId X tg iter wi
instance {X:Cx} {tg iter:Expr} {wi:TI}:CoeFun (PI X tg iter wi) fun _=>PId X tg iter wi:=⟨PI.go⟩
theorem xJ{M:Model}{A:Around}{E:Value->Shared->Prop}{s:Shared}{tg:Expr}{it:Addr}{u:Value}{o:Obj}{n:String}{vs:Array Value}{Q:Unit->Shared->Prop}(ho:s.heap.get? it=some o)(hc:o.cls= .type n)(hd:o.data= .fields vs)
  (hn:["enumerate","zip","dict_itemiterator","dict_reverseitemiterator","odict_iterator","itertools.zip_longest","itertools.pairwise"].contains n=false) (hQ:Q () s):wpAny M A (letOwnedTupleGo tg (.ref it) u) Q E s:=by
 unfold letOwnedTupleGo
 cases tg<;>first
  |exact ZE hQ
  | (cases u<;>first
    |exact ZE hQ
    | (refine Zg (wpAny_load ho ?_)
       rw [hc,hd]
       show wpAny M A (if (["enumerate","zip","dict_itemiterator","dict_reverseitemiterator","odict_iterator","itertools.zip_longest","itertools.pairwise"].contains n&&vs[0]? ==some (rawInt _))=true then _ else _) Q E s
       rw [if_neg (by intro h;rw [hn,Xk] at h;cases h)]
       exact ZE hQ))
def Itl(K:tz0)(a:Addr):It:=
 ⟨fun i H=>∃xs x,SqL K H a xs/\xs[i]? =some x,fun i H x H'=>H'=H/\∀xs,SqL K H a xs->xs[i]? =some x,fun i H=>∃xs,SqL K H a xs/\xs.length<=i⟩
def Itt(K:tz0)(a:Addr):It:=
 ⟨fun i H=>∃xs x,SqT K H a xs/\xs[i]? =some x,fun i H x H'=>H'=H/\∀xs,SqT K H a xs->xs[i]? =some x,fun i H=>∃xs,SqT K H a xs/\xs.length<=i⟩
def Itr(lo:Int)(n:Nat):It:=⟨fun i _=>i<n,fun i H x H'=>H'=H/\x= .int (lo+i),fun i _=>n<=i⟩
theorem yd2{P:Program}{w:World}{K:tz0}{tg:Expr}(a it:Addr):Turn P w K tg (Itl K a) [it] it (fun i h=>h.IsListIter it a i) where
 mem:=by simp
 obj:=fun i h st b hb=>by
  have e:b=it:=by simpa using hb
  subst e
  obtain⟨o,e,c,d⟩:=st
  exact⟨o,e,fun v z=>by rw [d] at z;cases z⟩
 keep:=fun i h h' st k=>st.at fun o e=>k it (by simp) o e
 item:=by
  intro X hP hw hK hc i pins s σ H E I hf st hg
  subst hP hw hK
  obtain⟨xs,x,hq,hx⟩:=hg
  obtain⟨its,rv,p,hz⟩:=I.list hq
  obtain⟨u,hu,ru⟩:=rv.get hx
  obtain⟨f0,f1,f2,f3,f4,f5⟩:=hf it (by simp)
  refine wpAny_pyNext_list_item st p.isList (x:=u) (by simpa using hu) fun h' st' sb=> ?_
  have I1:Inv X pins σ H {s with heap:=h'}:=I.turned (t':=s.toks) (fun b o hb e=>(sb.2 b hb).trans e) f0 f1 f3 f4 f5
  obtain⟨o,e,c,d⟩:=id st'
  exact⟨u,rfl,xJ (s:={s with heap:=h'}) e c d (by decide) ⟨x,H,I1,ru,⟨rfl,fun ys hy=>by rw [I.list_inj hy hq];exact hx⟩,st',fun b hb=>(hf b hb).1⟩⟩
 done:=by
  intro X hP hw hK hc i pins s σ H E I hf st hg
  subst hP hw hK
  obtain⟨xs,hq,hx⟩:=hg
  obtain⟨its,rv,p,hz⟩:=I.list hq
  obtain⟨f0,f1,f2,f3,f4,f5⟩:=hf it (by simp)
  have hl:=rv.length
  exact wpAny_pyNext_list_end (I.ok.hd hc) st p.isList (by simp;omega) fun h' eb=>⟨rfl,I.turned (t':=s.toks) (fun b o hb e=>eb b o hb e) f0 f1 f3 f4 f5⟩
 self:=fun _ _ _ _ _ st h=>wpAny_pyIter_listiter st h
theorem zv9{P:Program}{w:World}{K:tz0}{tg:Expr}(a it:Addr):Turn P w K tg (Itt K a) [it] it (fun i h=>h.IsTupleIter it a i) where
 mem:=by simp
 obj:=fun i h st b hb=>by
  have e:b=it:=by simpa using hb
  subst e
  obtain⟨o,e,c,d⟩:=st
  exact⟨o,e,fun v z=>by rw [d] at z;cases z⟩
 keep:=fun i h h' st k=>st.at fun o e=>k it (by simp) o e
 item:=by
  intro X hP hw hK hc i pins s σ H E I hf st hg
  subst hP hw hK
  obtain⟨xs,x,hq,hx⟩:=hg
  obtain⟨its,rv,p,hz⟩:=I.tuple hq
  obtain⟨u,hu,ru⟩:=rv.get hx
  obtain⟨f0,f1,f2,f3,f4,f5⟩:=hf it (by simp)
  refine wpAny_pyNext_tuple_item st (show s.heap.IsTuple a its.toArray from p) (x:=u) (by simpa using hu) fun h' st' sb=> ?_
  have I1:Inv X pins σ H {s with heap:=h'}:=I.turned (t':=s.toks) (fun b o hb e=>(sb.2 b hb).trans e) f0 f1 f3 f4 f5
  obtain⟨o,e,c,d⟩:=id st'
  exact⟨u,rfl,xJ (s:={s with heap:=h'}) e c d (by decide) ⟨x,H,I1,ru,⟨rfl,fun ys hy=>by rw [I.tuple_inj hy hq];exact hx⟩,st',fun b hb=>(hf b hb).1⟩⟩
 done:=by
  intro X hP hw hK hc i pins s σ H E I hf st hg
  subst hP hw hK
  obtain⟨xs,hq,hx⟩:=hg
  obtain⟨its,rv,p,hz⟩:=I.tuple hq
  obtain⟨f0,f1,f2,f3,f4,f5⟩:=hf it (by simp)
  have hl:=rv.length
  exact wpAny_pyNext_tuple_end (I.ok.hd hc) st (show s.heap.IsTuple a its.toArray from p) (by simp;omega) fun h' eb=>⟨rfl,I.turned (t':=s.toks) (fun b o hb e=>eb b o hb e) f0 f1 f3 f4 f5⟩
 self:=fun _ _ _ _ _ st h=>wpAny_pyIter_tupleiter st h
theorem zw0{P:Program}{w:World}{K:tz0}{tg:Expr}(it:Addr)(lo:Int)(n:Nat):Turn P w K tg (Itr lo n) [it] it (fun i h=>IsRangeIter h it (lo+(i:Nat)*1) ((n:Int)-(i:Nat)) 1) where
 mem:=by simp
 obj:=fun i h st b hb=>by
  have e:b=it:=by simpa using hb
  subst e
  exact⟨_,st,fun v z=>by
   have z':Data.fields _=Data.cell v:=z
   cases z'⟩
 keep:=fun i h h' st k=>k it (by simp) _ st
 item:=by
  intro X hP hw hK hc i pins s σ H E I hf st hg
  subst hP hw hK
  obtain⟨f0,f1,f2,f3,f4,f5⟩:=hf it (by simp)
  have W:=Walks.range (prog:=X.prog) (w:=X.w) (I.ok.hd hc) it lo 1 n
  refine W.item i s _ _ hg st fun v h' tk hv st' kk=> ?_
  obtain⟨t,rfl⟩:=hv
  have I1:Inv X pins σ H {s with heap:=h',toks:=tk}:=I.turned (fun b o hb e=>kk b o (by simpa using hb) e) f0 f1 f3 f4 f5
  refine⟨_,rfl,xJ (s:={s with heap:=h',toks:=tk}) (n:="range_iterator") st' rfl rfl (by decide) ⟨.int (lo+i),H,I1,⟨t,?_⟩,⟨rfl,rfl⟩,st',fun b hb=>(hf b hb).1⟩⟩
  rw [Int.mul_one]
 done:=by
  intro X hP hw hK hc i pins s σ H E I hf st hg
  subst hP hw hK
  obtain⟨f0,f1,f2,f3,f4,f5⟩:=hf it (by simp)
  exact wpAny_pyNext_range_end (I.ok.hd hc) st (by have:n<=i:=hg;omega) fun h' eb=>⟨rfl,I.turned (t':=s.toks) (fun b o hb e=>eb b o hb e) f0 f1 f3 f4 f5⟩
 self:=fun _ _ _ _ _ st h=>wpAny_pyIter_rangeiter st h
section
variable{X:Cx}{tg:Expr}
theorem zi5{pins:tzB}{σ:St}{H:Hp}{s:Shared}{R:It->Hp->Prop}{E:Value->Shared->Prop}{lo hi:Int}{t u v:Tok}{tk:Nat}(I:Inv X pins σ H s)(h1: -(2^62)<=lo)(h2:lo<2^62)(h3: -(2^62)<=hi)(h4:hi<2^62)
  (q:R (Itr lo (hi-lo).toNat) H):wpAny (model X.prog X.w) X.A (pyIter (.ref s.heap.objs.size)) (PIE X pins σ tg R) E {s with heap:=s.heap.push {cls:= .type "range",data:= .fields #[.int lo t,.int hi u,.int 1 v]},toks:=tk}:=by
 refine wpAny_pyIter_range (IsRange.new ..) (small_one h1 h2 h3 h4) ?_
 have I1:Inv X pins σ H {s with heap:=s.heap.push {cls:= .type "range",data:= .fields #[.int lo t,.int hi u,.int 1 v]},toks:=tk}:=I.kept fun b o e=>Zk _ e
 refine⟨(s.heap.push {cls:= .type "range",data:= .fields #[.int lo t,.int hi u,.int 1 v]}).objs.size,[(s.heap.push {cls:= .type "range",data:= .fields #[.int lo t,.int hi u,.int 1 v]}).objs.size],_,_,H,rfl,
  I1.kept (t':=tk) fun b o e=>Zk _ e,zw0 _ lo (hi-lo).toNat,?_,fun b hb=> ?_,q⟩
 ·have e1:lo+((0:Nat):Int)*1=lo:=by simp
  have e2:(((hi-lo).toNat:Nat):Int)-((0:Nat):Int)=Builtin.Range.rangeSize lo hi 1:=by rw [rangeSize_one];split<;>omega
  show IsRangeIter _ _ (lo+((0:Nat):Int)*1) ((((hi-lo).toNat:Nat):Int)-((0:Nat):Int)) 1
  rw [e1,e2]
  exact Zw _ rfl
 ·have e:b=(s.heap.push {cls:= .type "range",data:= .fields #[.int lo t,.int hi u,.int 1 v]}).objs.size:=by simpa using hb
  subst e
  exact I1.fpOk (Z9 _) (I1.hok.fresh (Z9 _))
def xo8(ta:TA):TI:=fun σ H R=>ta σ H fun vs H1=>∃j:Int,vs=[.int j]/\ -(2^62)<=j/\j<2^62/\R (Itr 0 j.toNat) H1
def xo9(ta:TA):TI:=fun σ H R=>ta σ H fun vs H1=>∃i j:Int,vs=[.int i,.int j]/\(-(2^62)<=i/\i<2^62/\ -(2^62)<=j/\j<2^62)/\R (Itr i (j-i).toNat) H1
theorem yd3{a:Expr}{ta:TA}{p pos:Pos}(hg:Gl X "range")(hm:X.mg "range"=none)(ha:PA X [a] ta)(hs:starEach [a] X.env=[(false,eval a X.env)]:=by rfl):PI X tg (.Call (.Name "range" p) [a] [] pos) (xo8 ta):=⟨by
 intro pins s σ H R I h
 refine Call_ (rP I hg hm boot_range (Y9 (thn (ha pos pins s σ H _ I h) fun us s1 ⟨vs,H1,I1,r1,q1⟩=> ?_) hs rfl))
 obtain⟨j,e,q1,q2,q⟩:=q1
 subst e
 cases r1 with
 |cons r rr=>
  cases rr
  obtain⟨t,rfl⟩:=r
  exact call_range_1 (zi5 I1 (by omega) (by omega) q1 q2 (by simpa using q))⟩
theorem yd4{a b:Expr}{ta:TA}{p pos:Pos}(hg:Gl X "range")(hm:X.mg "range"=none)(ha:PA X [a,b] ta)(hs:starEach [a,b] X.env=[(false,eval a X.env),(false,eval b X.env)]:=by rfl)(hs2:starEach [b] X.env=[(false,eval b X.env)]:=by rfl):
  PI X tg (.Call (.Name "range" p) [a,b] [] pos) (xo9 ta):=⟨by
 intro pins s σ H R I h
 refine Call_ (rP I hg hm boot_range (Y9 (thn (ha pos pins s σ H _ I h) fun us s1 ⟨vs,H1,I1,r1,q1⟩=> ?_) (by rw [hs,hs2]) (by rw [hs2];rfl)))
 obtain⟨i,j,e,⟨q1,q2,q3,q4⟩,q⟩:=q1
 subst e
 cases r1 with
 | cons r rr=>
  cases rr with
  |cons r' rr=>
   cases rr
   obtain⟨t,rfl⟩:=r
   obtain⟨t',rfl⟩:=r'
   exact call_range_2 (zi5 I1 q1 q2 q3 q4 q)⟩
def xr8(wi:TI)(g:TG)(tb:TS):TS:=fun D σ H=>wi σ H fun J H1=>∃W:Nat->Nat->St->Hp->Prop,(∃m,W 0 m σ H1)/\∀i m σ H,W i m σ H->
 (J.stop i H/\D.nx σ H)\/(J.go i H/\∃N:St->Hp->Prop,(∀σ' H',N σ' H'->∃m',m'<m/\W (i+1) m' σ' H')/\∀x H',J.yld i H x H'->g x σ H' fun σ2 H2=>tb {D with nx:=N,ct:=N,bk:=D.nx} σ2 H2)
def sD(fp:List Addr)(h:Heap):tzB:=fp.filterMap fun b=>(h.get? b).map fun o=>(b,o)
theorem oV{fp:List Addr}{h:Heap}{b:Addr}{o:Obj}(hb:b∈fp)(e:h.get? b=some o):(b,o)∈sD fp h:=XM.mpr ⟨b,hb,by rw [e];rfl⟩
theorem yd5{fp:List Addr}{h:Heap}{p:Addr×Obj}(hp:p∈sD fp h):p.1∈fp/\h.get? p.1=some p.2:=by
 obtain⟨b,hb,e⟩:=XM.mp hp
 cases q:h.get? b with
 |none=>rw [q] at e;cases e
 |some o=>
  rw [q] at e
  have e':(b,o)=p:=Zz e
  subst e'
  exact⟨hb,q⟩
theorem Inv.pinned{pins:tzB}{σ:St}{H:Hp}{s:Shared}{fp:List Addr}(I:Inv X pins σ H s)(hf:∀b∈fp,mO X pins H b)(ho:∀b∈fp,∃o,s.heap.get? b=some o/\∀v,o.data≠ .cell v):Inv X (pins++sD fp s.heap) σ H s:=
 I.pins_of fun p hp=>(ZB.mp hp).elim (fun z=>I.pin p (Zb _ z)) fun z=>by
  obtain⟨hb,e⟩:=yd5 z
  obtain⟨f0,f1,f2,_⟩:=hf p.1 hb
  obtain⟨o,e',d⟩:=ho p.1 hb
  rw [e] at e';cases e'
  exact⟨e,f0,f1,f2,d⟩
theorem Inv.unpinned{pins pl:tzB}{σ:St}{H:Hp}{s:Shared}(I:Inv X (pins++pl) σ H s):Inv X pins σ H s:=I.pins_of fun p hp=>I.pin p (Zb _ (Zs _ hp))
theorem zi6{iter:Expr}{body:List Stmt}{wi:TI}{g:TG}{tb:TS}{pos:Pos}(hp:PassesOwn (model X.prog X.w) X.A X.env X.xe)(hc:X.calm=true)(hi:PI X tg iter wi)(hg:PG X tg g)(hb:PSs X body tb)
  (hs:∀x,foldedSetIterable iter X.env x=pure x:=by intro _;rfl):PS X (.For tg iter body [] pos) (xr8 wi g tb):=⟨by
 intro pins s σ H D I h
 refine wpAny_For (thn (hi pins s σ H _ I h) fun v s1 h1=>thn h1 fun itv s2 h2=> ?_) hs
 obtain⟨it,fp,tn,J,H2,e,I2,T,st2,f2,W,⟨m0,w0⟩,turn⟩:=h2
 subst e
 have stat:∀{H':Hp},(∀b∈fp,H' b=none)->∀b∈fp,mO X pins H' b:=fun hn b hb=>⟨hn b hb,(f2 b hb).2⟩
 refine codeAny_forLoop_any (fun n s'=>∃i σ' H',Inv X pins σ' H' s'/\tn i s'.heap/\(∀b∈fp,H' b=none)/\W i n σ' H') ?_ m0 ⟨0,σ,H2,I2,st2,fun b hb=>(f2 b hb).1,w0⟩
 rintro n s3 ⟨i,σ3,H3,I3,st3,fr3,w3⟩
 rcases turn i n σ3 H3 w3 with ⟨stop,qn⟩|⟨go,N,hN,step⟩
 ·refine Ye hp (thn (T.done X rfl rfl rfl hc i pins s3 σ3 H3 X.xe I3 (stat fr3) st3 stop) fun r s4 ⟨hr,I4⟩=> ?_)
  subst hr
  exact YY ⟨σ3,H3,I4,qn⟩
 ·refine Ye hp (thn (T.item X rfl rfl rfl hc i pins s3 σ3 H3 X.xe I3 (stat fr3) st3 go) fun r s4 ⟨u,hr,h4⟩=> ?_)
  subst hr
  refine Ye hp (thn h4 fun _ s5 ⟨x,H5,I5,r5,y5,st5,fr5⟩=> ?_)
  have I5':=I5.pinned (stat fr5) (T.obj _ _ st5)
  refine Ye hp (thn (hg _ s5 σ3 H5 x u _ I5' r5 (step x H5 y5)) fun _ s6 ⟨σ6,H6,I6,q6⟩=> ?_)
  refine Ye hp (thn (hb _ s6 σ6 H6 _ I6 q6) fun f s7 q7=> ?_)
  have again:∀{σ7:St} {H7:Hp},Inv X (pins++sD fp s5.heap) σ7 H7 s7->N σ7 H7->∃m,m<n/\∃i σ' H',Inv X pins σ' H' s7/\tn i s7.heap/\(∀b∈fp,H' b=none)/\W i m σ' H':=fun {σ7 H7} I7 n7=>by
   obtain⟨m',hm,w7⟩:=hN σ7 H7 n7
   refine⟨m',hm,i+1,σ7,H7,I7.unpinned,T.keep _ _ _ st5 fun b hb o e=>(I7.pin (b,o) (Zb _ (Zb _ (oV hb e)))).1,fun b hb=> ?_,w7⟩
   obtain⟨o,e,d⟩:=T.obj _ _ st5 b hb
   exact(I7.pin (b,o) (Zb _ (Zb _ (oV hb e)))).2.1
  cases f with
  |next=>obtain⟨σ7,H7,I7,n7⟩:=q7;exact again I7 n7
  |cont=>obtain⟨σ7,H7,I7,n7⟩:=q7;exact again I7 n7
  |brk=>obtain⟨σ7,H7,I7,q7⟩:=q7;exact⟨σ7,H7,I7.unpinned,q7⟩
  |ret v=>obtain⟨x7,σ7,H7,I7,r7,q7⟩:=q7;exact⟨x7,σ7,H7,I7.unpinned,r7,q7⟩⟩
end
abbrev R2:=V->V->Hp->VK->Prop
def xk6(X:Cx)(f:Value->Value->Sem Value)(r:R2):Prop:=
 ∀(pins:tzB) (s:Shared) (σ:St) (H:Hp) (x y:V) (v u:Value) (Q:VK),Inv X pins σ H s->cC x v->cC y u->r x y H Q->
  wpAny (model X.prog X.w) X.A (f v u) (EP X pins σ Q) X.xe s
structure OpR(X:Cx)(f:Value->Value->Sem Value)(r:R2):Prop where
 go:xk6 X f r
instance {X:Cx} {f:Value->Value->Sem Value} {r:R2}:CoeFun (OpR X f r) fun _=>xk6 X f r:=⟨OpR.go⟩
def UnR(X:Cx)(f:Value->Sem Value)(r:V->Hp->VK->Prop):Prop:=
 ∀(pins:tzB) (s:Shared) (σ:St) (H:Hp) (x:V) (v:Value) (Q:VK),Inv X pins σ H s->cC x v->r x H Q->
  wpAny (model X.prog X.w) X.A (f v) (EP X pins σ Q) X.xe s
def yl7(X:Cx)(f:Value)(r:List V->Hp->VK->Prop):Prop:=
 ∀(pins:tzB) (s:Shared) (σ:St) (H:Hp) (xs:List V) (us:List Value) (Q:VK),Inv X pins σ H s->bN xs us->r xs H Q->
  wpAny (model X.prog X.w) X.A (call f us) (EP X pins σ Q) X.xe s
structure CallR(X:Cx)(f:Value)(r:List V->Hp->VK->Prop):Prop where
 go:yl7 X f r
instance {X:Cx} {f:Value} {r:List V->Hp->VK->Prop}:CoeFun (CallR X f r) fun _=>yl7 X f r:=⟨CallR.go⟩
def xr9(X:Cx)(r:V->Hp->(Bool->Hp->Prop)->Prop):Prop:=
 ∀(pins:tzB) (s:Shared) (σ:St) (H:Hp) (x:V) (v:Value) (Q:Bool->Hp->Prop),Inv X pins σ H s->cC x v->r x H Q->
  wpAny (model X.prog X.w) X.A (truthy v) (TP X pins σ Q) X.xe s
def tOp(r:R2)(ta tb:TE):TE:=fun σ H Q=>ta σ H fun x H1=>tb σ H1 fun y H2=>r x y H2 Q
def tUn(r:V->Hp->VK->Prop)(ta:TE):TE:=fun σ H Q=>ta σ H fun x H1=>r x H1 Q
def rI(C:Int->Int->Prop)(g:Int->Int->V):R2:=fun x y H Q=>∃i j,x= .int i/\y= .int j/\C i j/\Q (g i j) H
def rI0(g:Int->Int->V):R2:=fun x y H Q=>∃i j,x= .int i/\y= .int j/\Q (g i j) H
def rU(g:Int->V):V->Hp->VK->Prop:=fun x H Q=>∃i,x= .int i/\Q (g i) H
section
variable{X:Cx}{a b c:Expr}{ta tb tc:TE}{pos:Pos}
theorem ym5(ha:PE X a ta)(hb:PE X b tb){pins:tzB}{s:Shared}{σ:St}{H:Hp}{R:V->V->Hp->Prop}(I:Inv X pins σ H s)
  (h:ta σ H fun x H1=>tb σ H1 fun y H2=>R x y H2) {Q:Value->Shared->Prop} {f:Value->Value->Sem Value}
  (hf:∀v u s2 x y H2,Inv X pins σ H2 s2->cC x v->cC y u->R x y H2->wpAny (model X.prog X.w) X.A (f v u) Q X.xe s2):
  wpAny (model X.prog X.w) X.A (eval a X.env) (fun v s₁=>wpAny (model X.prog X.w) X.A (eval b X.env) (fun u s₂=>wpAny (model X.prog X.w) X.A (f v u) Q X.xe s₂) X.xe s₁) X.xe s:=by
 refine thn (ha pins s σ H _ I h) fun v s1 ⟨x,H1,I1,r1,q1⟩=> ?_
 refine thn (hb pins s1 σ H1 _ I1 q1) fun u s2 ⟨y,H2,I2,r2,q2⟩=> ?_
 exact hf v u s2 x y H2 I2 r1 r2 q2
theorem fM{op:Operator}{r:R2}(ho:OpR X (binaryOp op) r)(ha:PE X a ta)(hb:PE X b tb):PE X (.BinOp a op b pos) (tOp r ta tb):=⟨by
 intro pins s σ H Q I h
 exact wpAny_BinOp (ym5 ha hb I h fun v u s2 x y H2 I2 rx ry q=>ho pins s2 σ H2 x y v u Q I2 rx ry q)⟩
theorem xm7{op:UnaryOp}{r:V->Hp->VK->Prop}(ho:UnR X (unaryOp op) r)(ha:PE X a ta):PE X (.UnaryOp op a pos) (tUn r ta):=⟨by
 intro pins s σ H Q I h
 exact UnaryOp_ (thn (ha pins s σ H _ I h) fun v s1 ⟨x,H1,I1,r1,q1⟩=>ho pins s1 σ H1 x v Q I1 r1 q1)⟩
theorem opI{f:Value->Value->Sem Value}{C:Int->Int->Prop}{g:Int->Int->Int}
  (rule:∀(i j:Int) (t u:Tok) (s:Shared) (Q:Value->Shared->Prop) (E:Value->Shared->Prop),C i j->Q (.int (g i j) s.toks) {s with toks:=s.toks+1}->wpAny (model X.prog X.w) X.A (f (.int i t) (.int j u)) Q E s):
  OpR X f (rI C fun i j=> .int (g i j)):=⟨by
 intro pins s σ H x y v u Q I rx ry h
 obtain⟨i,j,rfl,rfl,hc,q⟩:=h
 obtain⟨t,rfl⟩:=rx
 obtain⟨t',rfl⟩:=ry
 exact rule i j t t' s _ _ hc ⟨.int (g i j),H,I.tok _,⟨_,rfl⟩,q⟩⟩
theorem ym6{f:Value->Value->Sem Value}{g:Int->Int->Int}
  (rule:∀(i j:Int) (t u:Tok) (s:Shared) (Q:Value->Shared->Prop) (E:Value->Shared->Prop),Q (.int (g i j) s.toks) {s with toks:=s.toks+1}->wpAny (model X.prog X.w) X.A (f (.int i t) (.int j u)) Q E s):
  OpR X f (rI0 fun i j=> .int (g i j)):=⟨by
 intro pins s σ H x y v u Q I rx ry h
 obtain⟨i,j,rfl,rfl,q⟩:=h
 obtain⟨t,rfl⟩:=rx
 obtain⟨t',rfl⟩:=ry
 exact rule i j t t' s _ _ ⟨.int (g i j),H,I.tok _,⟨_,rfl⟩,q⟩⟩
theorem zw1{f:Value->Value->Sem Value}{g:Int->Int->Bool}
  (rule:∀(i j:Int) (t u:Tok) (s:Shared) (Q:Value->Shared->Prop) (E:Value->Shared->Prop),Q (.bool (g i j)) s->wpAny (model X.prog X.w) X.A (f (.int i t) (.int j u)) Q E s):
  OpR X f (rI0 fun i j=> .bl (g i j)):=⟨by
 intro pins s σ H x y v u Q I rx ry h
 obtain⟨i,j,rfl,rfl,q⟩:=h
 obtain⟨t,rfl⟩:=rx
 obtain⟨t',rfl⟩:=ry
 exact rule i j t t' s _ _ ⟨.bl (g i j),H,I,rfl,q⟩⟩
def xs0(i j:Int):Prop:=0<j/\j<1073741824
def yt8(i j:Int):Prop:=(-(2^64)<i/\i<2^64)\/(-(2^64)<j/\j<2^64)
theorem yt8.ok{i j:Int}(h:yt8 i j):IntMulOk i j:=by
 rcases h with ⟨h1,h2⟩|⟨h1,h2⟩
 ·exact .of_left (intBits_le_64 h1 h2)
 ·exact .of_right (intBits_le_64 h1 h2)
theorem zw2(k:Nat):(0:Int)<=2^k:=by
 rw [two_pow_cast]
 exact Int.natCast_nonneg _
theorem rQ:OpR X (binaryOp .Add) (rI0 fun i j=> .int (i+j)):=ym6 fun _ _ _ _ _ _ _ q=>add_int q
theorem xf2:OpR X (binaryOp .Sub) (rI0 fun i j=> .int (i-j)):=ym6 fun _ _ _ _ _ _ _ q=>sub_int q
theorem lX:OpR X (binaryOp .Mult) (rI yt8 fun i j=> .int (i*j)):=opI fun _ _ _ _ _ _ _ hc q=>mul_int q hc.ok
theorem zr7:OpR X (binaryOp .FloorDiv) (rI xs0 fun i j=> .int (i/j)):=opI fun i j _ _ _ _ _ hc q=>by
 have h1:(0:Int)<j:=hc.1
 have h2:j<1073741824:=hc.2
 exact floordiv_int (by omega) (by rw [Xl i (by omega)];exact q) (.inl (PyProof.noPylong_small (by omega)))
theorem xK:OpR X (binaryOp .Mod) (rI (fun _ j=>0<j) fun i j=> .int (i % j)):=opI fun i j _ _ _ _ _ hc q=>by
 have h1:(0:Int)<j:=hc
 exact mod_int' (by omega) (by rw [Int.fmod_eq_emod_of_nonneg i (by omega)];exact q)
theorem xf3:OpR X (binaryOp .RShift) (rI (fun _ j=>0<=j) fun i j=> .int (i/2^j.toNat)):=opI fun i j _ _ _ _ _ hc q=>
 rshift_int hc (by rw [Xl i (zw2 _)];exact q)
theorem yd6:OpR X (binaryOp .BitAnd) (rI0 fun i j=> .int (Builtin.bitAnd i j)):=ym6 fun _ _ _ _ _ _ _ q=>and_int q
theorem unI{f:Value->Sem Value}{g:Int->Int}
  (rule:∀(i:Int) (t:Tok) (s:Shared) (Q:Value->Shared->Prop) (E:Value->Shared->Prop),Q (.int (g i) s.toks) {s with toks:=s.toks+1}->wpAny (model X.prog X.w) X.A (f (.int i t)) Q E s):
  UnR X f (rU fun i=> .int (g i)):=by
 intro pins s σ H x v Q I rx h
 obtain⟨i,rfl,q⟩:=h
 obtain⟨t,rfl⟩:=rx
 exact rule i t s _ _ ⟨.int (g i),H,I.tok _,⟨_,rfl⟩,q⟩
theorem xf4:UnR X (unaryOp .USub) (rU fun i=> .int (-i)):=unI fun _ _ _ _ _ q=>neg_int q
end
def xk7:V->V->Bool
 | .non,.non=>true| .non,.int _=>true| .int _,.non=>true| .non,.bl _=>true| .bl _,.non=>true| .non,.str _=>true| .str _,.non=>true
 | .int _,.int _=>true| .bl _,.bl _=>true| .str _,.str _=>true| .byt _,.byt _=>true
 | .int _,.str _=>true| .str _,.int _=>true| .bl _,.str _=>true| .str _,.bl _=>true
 |_,_=>false
def rEq:R2:=fun x y H Q=>xk7 x y=true/\Q (.bl (decide (x=y))) H
def rNe:R2:=fun x y H Q=>xk7 x y=true/\Q (.bl (!decide (x=y))) H
theorem zr8{i j:Int}:decide (V.int i=V.int j)=(i==j):=by
 rw [Yh]
 simp
theorem yd7{i j:Bool}:decide (V.bl i=V.bl j)=(i==j):=by
 rw [Yh]
 simp
theorem zr9{i j:Str}:decide (V.str i=V.str j)=(i==j):=by
 rw [Yh]
 simp
theorem zs0{i j:Array UInt8}:decide (V.byt i=V.byt j)=(i.toList==j.toList):=by
 rw [Yh]
 cases i
 cases j
 simp
section
variable{X:Cx}{a b c:Expr}{ta tb tc:TE}{pos:Pos}
theorem cV{pins:tzB}{σ:St}{H:Hp}{s:Shared}{Q:VK}{k k':Bool}(I:Inv X pins σ H s)(q:Q (.bl k) H)(e:k=k'):EP X pins σ Q (.bool k') s:=by
 subst e
 exact⟨.bl k,H,I,rfl,q⟩
theorem zw3:OpR X (compareOp .Eq) rEq:=⟨by
 intro pins s σ H x y v u Q I rx ry h
 obtain⟨hs,q⟩:=h
 cases x with
 |non=>
  cases rx
  cases y with
  |non=>cases ry;exact PySem.EqNone.eq_none_none (cV I q (by simp))
  |bl j=>cases ry;exact PySem.EqNone.eq_none_bool (cV I q (by simp))
  |int j=>obtain⟨t',rfl⟩:=ry;exact PySem.EqNone.eq_none_int (cV I q (by simp))
  |str j=>obtain⟨t',rfl⟩:=ry;exact PySem.EqNone.eq_none_str (cV I q (by simp))
  |_=>exact absurd (show false=true from hs) Z5
 |bl i=>
  cases rx
  cases y with
  |non=>cases ry;exact PySem.EqNone.eq_bool_none (cV I q (by simp))
  |bl j=>cases ry;exact eq_bool (cV I q yd7)
  |str j=>obtain⟨t',rfl⟩:=ry;exact PySem.EqMixed.eq_bool_str (cV I q (by simp))
  |_=>exact absurd (show false=true from hs) Z5
 |int i=>
  obtain⟨t,rfl⟩:=rx
  cases y with
  |non=>cases ry;exact PySem.EqNone.eq_int_none (cV I q (by simp))
  |int j=>obtain⟨t',rfl⟩:=ry;exact eq_int (cV I q zr8)
  |str j=>obtain⟨t',rfl⟩:=ry;exact PySem.EqMixed.eq_int_str (cV I q (by simp))
  |_=>exact absurd (show false=true from hs) Z5
 |str i=>
  obtain⟨t,rfl⟩:=rx
  cases y with
  |non=>cases ry;exact PySem.EqNone.eq_str_none (cV I q (by simp))
  |bl j=>cases ry;exact PySem.EqMixed.eq_str_bool (cV I q (by simp))
  |int j=>obtain⟨t',rfl⟩:=ry;exact PySem.EqMixed.eq_str_int (cV I q (by simp))
  |str j=>obtain⟨t',rfl⟩:=ry;exact eq_str (cV I q zr9)
  |_=>exact absurd (show false=true from hs) Z5
 |byt i=>
  obtain⟨t,rfl⟩:=rx
  cases y with
  |byt j=>obtain⟨t',rfl⟩:=ry;exact PySem.W.eq_bytes (cV I q zs0)
  |_=>exact absurd (show false=true from hs) Z5
 |_=>cases y<;>exact absurd (show false=true from hs) Z5⟩
theorem yv1:OpR X (compareOp .NotEq) rNe:=⟨by
 intro pins s σ H x y v u Q I rx ry h
 obtain⟨hs,q⟩:=h
 cases x with
 |non=>
  cases rx
  cases y with
  |non=>cases ry;exact PySem.EqNone.ne_none_none (cV I q (by simp))
  |bl j=>cases ry;exact PySem.EqNone.ne_none_bool (cV I q (by simp))
  |int j=>obtain⟨t',rfl⟩:=ry;exact PySem.EqNone.ne_none_int (cV I q (by simp))
  |str j=>obtain⟨t',rfl⟩:=ry;exact PySem.EqNone.ne_none_str (cV I q (by simp))
  |_=>exact absurd (show false=true from hs) Z5
 |bl i=>
  cases rx
  cases y with
  |non=>cases ry;exact PySem.EqNone.ne_bool_none (cV I q (by simp))
  |bl j=>cases ry;exact ne_bool (cV I q (ZP not yd7))
  |str j=>obtain⟨t',rfl⟩:=ry;exact PySem.EqMixed.ne_bool_str (cV I q (by simp))
  |_=>exact absurd (show false=true from hs) Z5
 |int i=>
  obtain⟨t,rfl⟩:=rx
  cases y with
  |non=>cases ry;exact PySem.EqNone.ne_int_none (cV I q (by simp))
  |int j=>obtain⟨t',rfl⟩:=ry;exact ne_int (cV I q (ZP not zr8))
  |str j=>obtain⟨t',rfl⟩:=ry;exact PySem.EqMixed.ne_int_str (cV I q (by simp))
  |_=>exact absurd (show false=true from hs) Z5
 |str i=>
  obtain⟨t,rfl⟩:=rx
  cases y with
  |non=>cases ry;exact PySem.EqNone.ne_str_none (cV I q (by simp))
  |bl j=>cases ry;exact PySem.EqMixed.ne_str_bool (cV I q (by simp))
  |int j=>obtain⟨t',rfl⟩:=ry;exact PySem.EqMixed.ne_str_int (cV I q (by simp))
  |str j=>obtain⟨t',rfl⟩:=ry;exact ne_str (cV I q (ZP not zr9))
  |_=>exact absurd (show false=true from hs) Z5
 |byt i=>
  obtain⟨t,rfl⟩:=rx
  cases y with
  |byt j=>obtain⟨t',rfl⟩:=ry;exact PySem.W.ne_bytes (cV I q (ZP not zs0))
  |_=>exact absurd (show false=true from hs) Z5
 |_=>cases y<;>exact absurd (show false=true from hs) Z5⟩
theorem xm8:OpR X (compareOp .Lt) (rI0 fun i j=> .bl (decide (i<j))):=zw1 fun _ _ _ _ _ _ _ q=>lt_int q
theorem xm9:OpR X (compareOp .LtE) (rI0 fun i j=> .bl (decide (i<=j))):=zw1 fun _ _ _ _ _ _ _ q=>le_int q
theorem xn0:OpR X (compareOp .Gt) (rI0 fun i j=> .bl (decide (j<i))):=zw1 fun _ _ _ _ _ _ _ q=>gt_int q
theorem xn1:OpR X (compareOp .GtE) (rI0 fun i j=> .bl (decide (j<=i))):=zw1 fun _ _ _ _ _ _ _ q=>ge_int q
theorem xf5:OpR X (compareOp .Is) (fun x y H Q=>y= .non/\Q (.bl (decide (x= .non))) H):=⟨by
 intro pins s σ H x y v u Q I rx ry h
 obtain⟨rfl,q⟩:=h
 cases ry
 refine is_none_gen (cV I q ?_)
 cases x<;>first
  |(cases rx;rfl)
  |(obtain⟨t,rfl⟩:=rx;rfl)⟩
theorem yx1:OpR X (compareOp .IsNot) (fun x y H Q=>y= .non/\Q (.bl (!decide (x= .non))) H):=⟨by
 intro pins s σ H x y v u Q I rx ry h
 obtain⟨rfl,q⟩:=h
 cases ry
 refine isnot_none_gen (cV I q ?_)
 cases x<;>first
  |(cases rx;rfl)
  |(obtain⟨t,rfl⟩:=rx;rfl)⟩
theorem bI(b:Expr){op:CmpOp}(h:op≠ .In:=by decide)(h2:op≠ .NotIn:=by decide):behindInMarks op b=false:=by
 have e1:(op==CmpOp.In)=false:=by cases op<;>first|rfl|exact absurd rfl h
 have e2:(op==CmpOp.NotIn)=false:=by cases op<;>first|rfl|exact absurd rfl h2
 cases b<;>simp [behindInMarks,e1,e2]
theorem yx2{op:CmpOp}{r:R2}(ho:OpR X (compareOp op) r)(ha:PE X a ta)(hb:PE X b tb)(hm:behindInMarks op b=false):PE X (.Compare a [op] [b] pos) (tOp r ta tb):=⟨by
 intro pins s σ H Q I h
 exact wpAny_Compare1 (ym5 ha hb I h fun v u s2 x y H2 I2 rx ry q=>ho pins s2 σ H2 x y v u Q I2 rx ry q) hm⟩
def yw1(t:TE):TT:=fun σ H Q=>t σ H fun x H'=>∃k,x= .bl k/\Q k H'
theorem zs1{op:CmpOp}{r:R2}(ho:OpR X (compareOp op) r)(ha:PE X a ta)(hb:PE X b tb)(hm:behindInMarks op b=false):PT X (.Compare a [op] [b] pos) (yw1 (tOp r ta tb)):=⟨by
 intro pins s σ H Q I h
 refine wpAny_isTrue_Compare1 (thn (ha pins s σ H _ I h) fun v s1 ⟨x,H1,I1,r1,q1⟩=>thn (hb pins s1 σ H1 _ I1 q1) fun u s2 ⟨y,H2,I2,r2,q2⟩=>
  thn (ho pins s2 σ H2 x y v u _ I2 r1 r2 q2) fun c s3 ⟨z,H3,I3,r3,k,e,q3⟩=> ?_) hm
 subst e
 cases r3
 exact Y4 ⟨H3,I3,q3⟩⟩
def yl8(r r':R2)(ta tb tc:TE):TE:=fun σ H Q=>ta σ H fun x H1=>tb σ H1 fun y H2=>r x y H2 fun z H3=>∃k,z= .bl k/\
 (if k=true then tc σ H3 fun w' H4=>r' y w' H4 Q else Q (.bl false) H3)
theorem ym7{op op':CmpOp}{r r':R2}(ho:OpR X (compareOp op) r)(ho':OpR X (compareOp op') r')(ha:PE X a ta)(hb:PE X b tb)(hc:PE X c tc)
  (hm:lastMarks [op,op'] [b,c]=false:=by with_unfolding_all rfl):PT X (.Compare a [op,op'] [b,c] pos) (yw1 (yl8 r r' ta tb tc)):=⟨by
 intro pins s σ H Q I h
 refine isTrue_chain (thn (ha pins s σ H _ I h) fun v s1 ⟨x,H1,I1,r1,q1⟩=>test_link (thn (hb pins s1 σ H1 _ I1 q1) fun u s2 ⟨y,H2,I2,r2,q2⟩=>
  thn (ho pins s2 σ H2 x y v u _ I2 r1 r2 q2) fun d s3 ⟨z,H3,I3,r3,k,e,q3⟩=> ?_)) hm
 subst e
 cases r3
 refine Y4 ?_
 cases k with
 |false=>
  obtain⟨k',e',q'⟩:=q3
  cases e'
  exact ite_ff ⟨H3,I3,q'⟩
 |true=>
  refine ite_tt (test_last (thn (hc pins s3 σ H3 _ I3 q3) fun w' s4 ⟨z',H4,I4,r4,q4⟩=>thn (ho' pins s4 σ H4 y z' u w' _ I4 r2 r4 q4) fun d' s5 ⟨z2,H5,I5,r5,k2,e2,q5⟩=> ?_))
  subst e2
  cases r5
  exact Y4 ⟨H5,I5,q5⟩⟩
def yt9(K:tz0)(x:V)(H:Hp)(k:Bool):Prop:=
 match x with
 | .non=>k=false
 | .bl b=>k=b
 | .int i=>k=(i !=0)
 | .str y=>y.length<=sizeLine/\k=((y.length:Int) !=0)
 | .byt y=>y.size<=sizeLine/\k=((y.size:Int) !=0)
 | .ref p=>(∃xs,SqL K H p xs/\k= !xs.isEmpty)\/(∃xs,SqT K H p xs/\k= !xs.isEmpty)\/∃kvs,H p=some (.dK kvs)/\k= !kvs.isEmpty
 |_=>False
theorem zw4{U:Type}{kvs:List (U×V)}{vs:List (U×Value)}(r:KV kvs vs):(!vs.isEmpty)= !kvs.isEmpty:=by
 cases r<;>rfl
theorem xL{xs:List V}{its:List Value}(r:bN xs its):(!its.toArray.isEmpty)= !xs.isEmpty:=by
 cases r<;>simp
theorem pP:(sizeLine:Nat)<2^63:=by rw [Ya];decide
theorem xf6:xr9 X (fun x H Q=>∃k,yt9 X.K x H k/\Q k H):=by
 intro pins s σ H x v Q I rx h
 obtain⟨k,e,q⟩:=h
 have hl:=pP
 have hs:sizeLine=16777216:=Ya
 cases x with
 |non=>
  cases rx
  have e':k=false:=e
  subst e'
  exact truthy_none ⟨H,I,q⟩
 |bl b=>
  cases rx
  have e':k=b:=e
  subst e'
  exact Y4 ⟨H,I,q⟩
 |int i=>
  obtain⟨t,rfl⟩:=rx
  have e':k=(i !=0):=e
  subst e'
  exact PySem.P.truthy_int ⟨H,I,q⟩
 |str y=>
  obtain⟨t,rfl⟩:=rx
  obtain⟨hy,e'⟩:y.length<=sizeLine/\k=((y.length:Int) !=0):=e
  subst e'
  exact PySem.P.truthy_str (by omega) ⟨H,I.tok _,q⟩
 |byt y=>
  obtain⟨t,rfl⟩:=rx
  obtain⟨hy,e'⟩:y.size<=sizeLine/\k=((y.size:Int) !=0):=e
  subst e'
  exact PySem.W.truthy_bytes (by omega) ⟨H,I.tok _,q⟩
 | ref p=>
  cases rx
  have e':(∃xs,SqL X.K H p xs/\k= !xs.isEmpty)\/(∃xs,SqT X.K H p xs/\k= !xs.isEmpty)\/∃kvs,H p=some (.dK kvs)/\k= !kvs.isEmpty:=e
  rcases e' with ⟨xs,hx,e'⟩|⟨xs,hx,e'⟩|⟨kvs,hx,e'⟩
  ·subst e'
   obtain⟨its,r,pl,hz⟩:=I.list hx
   have hlen:=r.length
   exact wpAny_truthy_list pl.isList (by simp only [Zm];omega) ⟨H,I.tok _,by rw [xL r];exact q⟩
  ·subst e'
   obtain⟨its,r,pl,hz⟩:=I.tuple hx
   have hlen:=r.length
   exact truthy_tuple pl (by simp only [Zm];omega) ⟨H,I.tok _,by rw [xL r];exact q⟩
  ·subst e'
   obtain⟨hz,hS,vs,r,m⟩:kvs.length<=sizeLine/\(p==sysModules)=false/\∃vs,KV kvs vs/\s.heap.DictOf (eQ X.prog X.w) p vs:=I.hok p _ hx
   have hlen:kvs.length=vs.length:=ZC r
   exact wpAny_truthy_dict hS m (by omega) ⟨H,I.tok _,by rw [zw4 r];exact q⟩
 |_=>exact(show False from e).elim
theorem zi7(ha:PE X a ta)(he:∀whole,isTrue a X.env whole=(do let v<-whole;standAt a.pos;holding [v] (truthy v))):
  PT X a (fun σ H Q=>ta σ H fun x H'=>∃k,yt9 X.K x H' k/\Q k H'):=⟨by
 intro pins s σ H Q I h
 exact isTrue_plain (thn (ha pins s σ H _ I h) fun v s1 ⟨x,H1,I1,r1,q1⟩=>xf6 pins s1 σ H1 x v Q I1 r1 q1) (he _)⟩
theorem zw5:OpR X (binaryOp .Add) (fun x y H Q=>∃i j,x= .str i/\y= .str j/\i.length+j.length<=sizeLine/\Q (.str (i++j)) H):=⟨by
 intro pins s σ H x y v u Q I rx ry h
 obtain⟨i,j,rfl,rfl,hz,q⟩:=h
 obtain⟨t,rfl⟩:=rx
 obtain⟨t',rfl⟩:=ry
 exact add_str (fun t' tk=>⟨.str (i++j),H,I.tok _,⟨_,rfl⟩,q⟩) hz⟩
theorem vQ{x:V}{us:List Value}(r:bN [x] us):∃u,us=[u]/\cC x u:=by
 cases r with
 |cons r1 r2=>cases r2;exact⟨_,rfl,r1⟩
theorem zf2{x y:V}{us:List Value}(r:bN [x,y] us):∃u w',us=[u,w']/\cC x u/\cC y w':=by
 cases r with
 |cons r1 r2=>
  cases r2 with
  |cons r3 r4=>cases r4;exact⟨_,_,rfl,r1,r3⟩
theorem yd8(hc:X.calm=true):CallR X (.builtin "max") (fun xs H Q=>∃i j,xs=[.int i,.int j]/\Q (.int (if j>i then j else i)) H):=⟨by
 intro pins s σ H xs us Q I r h
 obtain⟨i,j,rfl,q⟩:=h
 obtain⟨u,w',rfl,⟨t,rfl⟩,⟨t',rfl⟩⟩:=zf2 r
 refine max_two_ints (I.ok.hd hc) fun h' tk k=>⟨_,H,I.kept k,?_,q⟩
 by_cases hj:j>i
 ·rw [if_pos hj,if_pos hj];exact⟨_,rfl⟩
 ·rw [if_neg hj,if_neg hj];exact⟨_,rfl⟩⟩
theorem yd9(hc:X.calm=true):CallR X (.builtin "min") (fun xs H Q=>∃i j,xs=[.int i,.int j]/\Q (.int (if j<i then j else i)) H):=⟨by
 intro pins s σ H xs us Q I r h
 obtain⟨i,j,rfl,q⟩:=h
 obtain⟨u,w',rfl,⟨t,rfl⟩,⟨t',rfl⟩⟩:=zf2 r
 refine min_two_ints (I.ok.hd hc) fun h' tk k=>⟨_,H,I.kept k,?_,q⟩
 by_cases hj:j<i
 ·rw [if_pos hj,if_pos hj];exact⟨_,rfl⟩
 ·rw [if_neg hj,if_neg hj];exact⟨_,rfl⟩⟩
end
structure ObjM(h:Heap)(x dx C:Addr)(mA:tzA):Prop where
 obj:h.get? x=some (PySem.W.instObj C dx)
 ns:h.Ns1 dx mA
 ne:dx≠x
theorem ye0{h:Heap}{dx:Addr}{mA:tzA}(n:h.Ns1 dx mA):∃od,h.get? dx=some od/\∀name,PySem.W.lookIn name od=some (mA name):=by
 obtain⟨o,es,ep,ho,hd,hk,_,hm⟩:=n
 refine⟨o,ho,fun name=> ?_⟩
 have e:=hm name
 unfold nsFind findBy at e
 rw [<-Array.find?_toList] at e
 unfold PySem.W.lookIn
 rw [hd]
 dsimp only
 split
 ·rename_i y q
  rw [q] at e
  exact ZP some e
 ·rename_i q
  rw [q] at e
  have a:es.toList.any (·.refKey)=false:=by
   rw [List.any_eq_false]
   intro y hy
   obtain⟨z,t,hkey⟩:=hk y (Array.mem_toList_iff.mp hy)
   simp [DictEntry.refKey,hkey]
  have a':¬es.toList.any (·.refKey)=true:=by rw [a];exact Z5
  rw [if_neg a']
  exact ZP some e
theorem ObjM.look{h:Heap}{x dx C:Addr}{mA:tzA}(I:ObjM h x dx C mA):∃od,PySem.W.InstAt h x (PySem.W.instObj C dx) C (some od)/\∀name,PySem.W.lookIn name od=some (mA name):=
 let ⟨od,ho,hl⟩:=ye0 I.ns
 ⟨od,⟨I.obj,rfl,rfl,ho⟩,hl⟩
section
variable{prog:Program}{w:World}{A:Around}{E:Value->Shared->Prop}{s:Shared}{K:tz0}{x dx C f:Addr}{mA:tzA}{name:Str}{v:Value}
theorem zs2{expr:Bool}{Q:Value->Shared->Prop}(X:K.In s.heap)(I:ObjM s.heap x dx C mA)(hg:PySem.W.plainGet K C name=true)(hh:PySem.W.hasDictIn K C=true)
  (ha:PySem.W.findIn K (.ref C) name=some none) (hv:mA name=some v) (hv':PySem.W.handedIn v=true) (h:Q v {s with toks:=s.toks+1}):
  wpAny (model prog w) A (getAttr (.ref x) name expr) Q E s:=by
 obtain⟨od,J,hl⟩:=I.look
 exact PySem.W.get_value X J (YU hg).1 (PySem.W.findObj_own hh ha rfl (by rw [hl,hv])) hv' h
theorem zi8{pl:Sem Bool}{Q:Value×List Value->Shared->Prop}(X:K.In s.heap)(I:ObjM s.heap x dx C mA)(hg:PySem.W.plainGet K C name=true)
  (hf:PySem.W.findIn K (.ref C) name=some (some (.ref f))) (ht:PySem.W.isFn K (.ref f)=true) (hv:mA name=none) (h:Q (.ref f,[.ref x]) s):
  wpAny (model prog w) A (getMethod (.ref x) name pl) Q E s:=by
 obtain⟨od,J,hl⟩:=I.look
 exact PySem.W.method_fn X J (YU hg).1 (YU hg).2 hf (Yr.mp ht) (by show(PySem.W.lookIn name od).map (·.isSome)=some false;rw [hl,hv];rfl) h
theorem yx3{ns:List Str}{Q:Unit->Shared->Prop}(X:K.In s.heap)(I:ObjM s.heap x dx C mA)
  (hs:PySem.W.findIn K (.ref C) "__setattr__"=some (some (.builtin "object.__setattr__"))) (hp:PySem.W.plainOver K C=true) (ht:PySem.W.takerIn K C name=some none) (hh:PySem.W.hasDictIn K C=true)
  (hw:PySem.Within mA ns) (hsz:ns.length<=sizeLine)
  (h:∀h',ObjM h' x dx C (fun y=>if y=name then some v else mA y)->Heap.SameBut dx s.heap h'->Q () {s with heap:=h',toks:=s.toks+2}):
  wpAny (model prog w) A (setAttr (.ref x) name v) Q E s:=by
 obtain⟨od,J,hl⟩:=I.look
 refine PySem.W.set_plain X J hs (PySem.W.osa_open (s:={s with toks:=s.toks+1}) (r:=none) X J hp ht fun b=> ?_)
 obtain⟨cd,hc,hd'⟩:=PySem.W.any_some hh
 have hx:s.heap.get? x=some ⟨.ref C,some dx,.plain,#[]⟩:=I.obj
 refine Zg (ZE (Zg (Zg (wpAny_loadPart hx (Zg (PySem.W.Looks.here (s:={s with toks:=s.toks+1}) (PySem.W.looks_clsIn X hc) ?_))))))
 rw [hd']
 refine ZE (a:=some dx) (Zg (ZE (Zg ?_)))
 refine wpAny_nsSet1 (s:={s with toks:=s.toks+1}) I.ns fun h' hn2 hs2=> ?_
 obtain⟨oD,esD,epD,hoD,hdD,hcD⟩:=hn2.count (PySem.Within.cons name v hw)
 refine Zg (wpAny_lookBehind hoD (by rw [hdD];exact pastItsLine_dict (ZD hcD (by rw [Z4];omega))) ?_)
 exact ZE (h _ ⟨(hs2.2 _ (Y6 I.ne)).trans I.obj,hn2,I.ne⟩ hs2)
theorem ym8{R:Result->Shared->Prop}{vs:List Value}{kw:List (Str×Value)}(X:K.In s.heap)(hm:PySem.W.makesIn K C=true)
  (hi:PySem.W.findIn K (.ref C) "__init__"=some (some (.ref f))) (hf:PySem.W.typeIn K (.ref f)=some (.type "function"))
  (h:codeAny (model prog w) (A.under (.builtin "type.__call__" ⟨.ref C::vs,kw⟩)) (.call (.ref f) ⟨.ref (s.heap.objs.size+1)::vs,kw⟩) (PySem.W.InitBack (s.heap.objs.size+1) R)
   {s with heap:=(s.heap.push PySem.W.emptyDict).push (PySem.W.instObj C s.heap.objs.size)}):
  codeAny (model prog w) A (.call (.ref C) ⟨vs,kw⟩) R s:=by
 obtain⟨hh,g,d,t,os⟩:=s
 exact PySem.W.make_core (PySem.W.makes_of X hm) (PySem.W.looks_findIn X hi) (fun self=>PySem.W.bind_fn X self hf) (.inl rfl) h
end
def fQ(f:Str)(v:V):List (Str×V)->List (Str×V)
 |[]=>[(f,v)]
 |(g,x)::r=>if g=f then(g,v)::r else(g,x)::fQ f v r
theorem wM(f g:Str)(v:V):∀fs:List (Str×V),(fQ f v fs).lookup g=if g=f then some v else fs.lookup g
 | []=>by
  show List.lookup g [(f,v)]=_
  by_cases h:g=f
  ·have hb:(g==f)=true:=Yr.mpr h
   simp only [List.lookup,hb,if_pos h]
  ·have hb:(g==f)=false:=ZZ.mpr h
   simp only [List.lookup,hb,if_neg h]
 | (k,x)::r=>by
  have ih:=wM f g v r
  rw [show fQ f v ((k,x)::r)=(if k=f then(k,v)::r else(k,x)::fQ f v r) from rfl]
  by_cases hk:k=f
  ·rw [if_pos hk]
   by_cases h:g=k
   ·have hb:(g==k)=true:=Yr.mpr h
    simp only [List.lookup,hb,if_pos (h.trans hk)]
   ·have hb:(g==k)=false:=ZZ.mpr h
    simp only [List.lookup,hb,if_neg (fun e:g=f=>h (e.trans hk.symm))]
  ·rw [if_neg hk]
   by_cases h:g=k
   ·have hb:(g==k)=true:=Yr.mpr h
    simp only [List.lookup,hb,if_neg (fun e:g=f=>hk (h.symm.trans e))]
   ·have hb:(g==k)=false:=ZZ.mpr h
    simp only [List.lookup,hb]
    exact ih
theorem uG(f:Str)(v:V):∀fs:List (Str×V),f∈(fQ f v fs).map (·.1)/\∀g,g∈fs.map (·.1)->g∈(fQ f v fs).map (·.1)
 |[]=>⟨by simp [fQ],fun g h=>by simp at h⟩
 | (k,x)::r=>by
  obtain⟨i1,i2⟩:=uG f v r
  rw [show fQ f v ((k,x)::r)=(if k=f then(k,v)::r else(k,x)::fQ f v r) from rfl]
  by_cases hk:k=f
  ·rw [if_pos hk]
   subst hk
   exact⟨by simp,fun g h=>by simpa using h⟩
  ·rw [if_neg hk]
   refine⟨?_,fun g h=> ?_⟩
   ·rw [Za]
    exact Z1 _ i1
   ·rw [Za] at h|-
    rcases Z8.mp h with e|e
    ·exact Z8.mpr (.inl e)
    ·exact Z1 _ (i2 g e)
theorem wN(f:Str)(v:V):∀fs:List (Str×V),(fQ f v fs).length<=fs.length+1
 |[]=>by simp [fQ]
 |(k,x)::r=>by
  have ih:=wN f v r
  rw [show fQ f v ((k,x)::r)=(if k=f then(k,v)::r else(k,x)::fQ f v r) from rfl]
  by_cases hk:k=f
  ·rw [if_pos hk,Z4,Z4];omega
  ·rw [if_neg hk,Z4,Z4];omega
theorem jB.some_of{v:V}{o:Option Value}(r:jB (some v) o):∃u,o=some u/\cC v u:=by
 cases o with
 |none=>exact(show False from r).elim
 |some u=>exact⟨u,rfl,r⟩
theorem jB.none_of{o:Option Value}(r:jB none o):o=none:=by
 cases o with
 |none=>rfl
 |some u=>exact(show False from r).elim
theorem za9{v:V}{u:Value}(r:cC v u):PySem.W.handedIn u=true:=by
 cases v with
 |non=>cases(show u=Value.none from r);rfl
 |bl b=>cases(show u=Value.bool b from r);rfl
 |int i=>obtain⟨t,e⟩:=(show ∃t,u=Value.int i t from r);cases e;rfl
 |str x=>obtain⟨t,e⟩:=(show ∃t,u=Value.str x t from r);cases e;rfl
 |byt b=>obtain⟨t,e⟩:=(show ∃t,u=Value.bytes b t from r);cases e;rfl
 |flt b=>obtain⟨t,e⟩:=(show ∃t,u=Value.float b t from r);cases e;rfl
 |ref a=>cases(show u=Value.ref a from r);rfl
 |ty n=>cases(show u=Value.type n from r);rfl
section
variable{P:Program}{w:World}{H H':Hp}{h h':Heap}{a C dx:Addr}{fs fs':List (Str×V)}
theorem vR(hok:HOk P w H h)(e:H a=some (.ins C dx fs)):∃mA,ObjM h a dx C mA/\(∀f,jB (fs.lookup f) (mA f))/\PySem.Within mA (fs.map (·.1))/\fs.length<=1000/\H dx=some (.own a):=by
 obtain⟨d,z,ne,ob,mA,n,r,q⟩:=(show dA P w H h a (.ins C dx fs) from hok a _ e)
 exact⟨mA,⟨ob,n,ne⟩,r,q,z,d⟩
end
structure Cls(K:tz0)(C:Addr):Prop where
 pg:PySem.W.plainGet K C Str.empty=true
 hd:PySem.W.hasDictIn K C=true
 po:PySem.W.plainOver K C=true
 sa:PySem.W.findIn K (.ref C) "__setattr__"=some (some (.builtin "object.__setattr__"))
theorem Cls.get{K:tz0}{C:Addr}(c:Cls K C)(f:Str):PySem.W.plainGet K C f=true:=c.pg
def cY(K:tz0)(C:Addr)(f:Str):Prop:=PySem.W.findIn K (.ref C) f=some none
theorem cY.taker{K:tz0}{C:Addr}{f:Str}(n:cY K C f):PySem.W.takerIn K C f=some none:=by
 unfold PySem.W.takerIn
 rw [show PySem.W.findIn K (.ref C) f=some none from n]
 rfl
structure Meth(K:tz0)(C:Addr)(m:Str)(f:Addr):Prop where
 at_:PySem.W.findIn K (.ref C) m=some (some (.ref f))
 fn:PySem.W.isFn K (.ref f)=true
 kp:PySem.W.keepIn K (.ref f)=true
section
variable{X:Cx}{pins:tzB}{σ:St}{H:Hp}{s:Shared}{a C dx:Addr}{fs:List (Str×V)}{f:Str}{v:V}{A:Around}{E:Value->Shared->Prop}
theorem zw6{b:Bool}{Q:Value->Shared->Prop}(I:Inv X pins σ H s)(e:H a=some (.ins C dx fs))(c:Cls X.K C)(n:cY X.K C f)(l:fs.lookup f=some v)
  (h:∀u s',Inv X pins σ H s'->cC v u->Q u s'):wpAny (model X.prog X.w) A (getAttr (.ref a) f b) Q E s:=by
 obtain⟨mA,O,r,_,_,_⟩:=vR I.hok e
 obtain⟨u,hu,ru⟩:=jB.some_of (v:=v) (o:=mA f) (by rw [<-l];exact r f)
 exact zs2 I.kIn O (c.get f) c.hd n hu (za9 ru) (h u _ (I.tok _) ru)
theorem zw7{m:Str}{g:Addr}{pl:Sem Bool}{Q:Value×List Value->Shared->Prop}(I:Inv X pins σ H s)(e:H a=some (.ins C dx fs))(c:Cls X.K C)(k:Meth X.K C m g)(l:fs.lookup m=none)
  (h:Q (.ref g,[.ref a]) s):wpAny (model X.prog X.w) A (getMethod (.ref a) m pl) Q E s:=by
 obtain⟨mA,O,r,_,_,_⟩:=vR I.hok e
 have hn:mA m=none:=jB.none_of (by rw [<-l];exact r m)
 exact zi8 I.kIn O (c.get m) k.at_ k.fn hn h
theorem zw8{y:V}{u:Value}{Q:Unit->Shared->Prop}(I:Inv X pins σ H s)(e:H a=some (.ins C dx fs))(c:Cls X.K C)(n:cY X.K C f)(hl:fs.length<1000)(ry:cC y u)
  (h:∀s',Inv X pins σ (upd H a (.ins C dx (fQ f y fs))) s'->Q () s'):wpAny (model X.prog X.w) A (setAttr (.ref a) f u) Q E s:=by
 obtain⟨mA,O,r,wi,_,ho⟩:=vR I.hok e
 have hz:(fs.map (·.1)).length<=sizeLine:=by rw [Zd,Ya];omega
 refine yx3 I.kIn O c.sa c.po n.taker c.hd wi hz fun h' O' sb=>h _ ?_
 have hd:∃o,h'.get? dx=some o:=let ⟨o,_,_,e',_⟩:=O'.ns;⟨o,e'⟩
 refine I.write (x:=a) (e:=dx) (by rw [e];exact True.intro) (.inr ho) (fun b q hb z=>(sb.2 b hb).trans z) hd ?_
 refine⟨by rw [aY O.ne];exact ho,?_,O.ne,O'.obj,_,O'.ns,fun g=> ?_,fun g hg=> ?_⟩
 ·have:=wN f y fs;omega
 ·show jB ((fQ f y fs).lookup g) (if g=f then some u else mA g)
  rw [wM]
  by_cases q:g=f
  ·rw [if_pos q,if_pos q];exact ry
  ·rw [if_neg q,if_neg q];exact r g
 ·by_cases q:g=f
  ·rw [q];exact(uG f y fs).1
  ·refine(uG f y fs).2 g (wi g fun z=>hg ?_)
   show(if g=f then some u else mA g)=none
   rw [if_neg q];exact z
theorem Inv.made(I:Inv X pins σ H s):Inv X pins σ (upd (upd H s.heap.objs.size (.own (s.heap.objs.size+1))) (s.heap.objs.size+1) (.ins C s.heap.objs.size []))
  {s with heap:=(s.heap.push PySem.W.emptyDict).push (PySem.W.instObj C s.heap.objs.size)}:=by
 have e1:(s.heap.push PySem.W.emptyDict).get? s.heap.objs.size=some PySem.W.emptyDict:=Zw s.heap rfl
 have e2:((s.heap.push PySem.W.emptyDict).push (PySem.W.instObj C s.heap.objs.size)).get? (s.heap.objs.size+1)=some (PySem.W.instObj C s.heap.objs.size):=by
  have:=Zw (s.heap.push PySem.W.emptyDict) (o:=PySem.W.instObj C s.heap.objs.size) rfl
  rwa [Heap.size_push] at this
 have e3:(s.heap.push PySem.W.emptyDict).Ns s.heap.objs.size (fun _=>none):=⟨PySem.W.emptyDict,#[],_,e1,rfl,(fun e he=>absurd he (by simp)),fun _=>rfl⟩
 have I1:=I.laid (a:=s.heap.objs.size) (o:= .own (s.heap.objs.size+1)) (h':=s.heap.push PySem.W.emptyDict) (t':=s.toks) (fun b u q=>Zk _ q) (Z9 _) ⟨_,e1⟩
 refine I1.laid (a:=s.heap.objs.size+1) (o:= .ins C s.heap.objs.size []) (t':=s.toks) (fun b u q=>Zk _ q) (Nat.le_of_eq (Heap.size_push _ _)) ?_
 have ne:s.heap.objs.size≠s.heap.objs.size+1:=ZG (X6 _)
 refine⟨by rw [aY ne,bO],ZI _,ne,e2,fun _=>none,(Heap.Ns1.of_empty e3).at fun o q=>Zk _ q,fun _=>True.intro,fun y hy=>absurd rfl hy⟩
theorem zs3{prog:Program}{w:World}{env:Env}{e:Expr}{f:Str}{pos:Pos}{s:Shared}{Q:Value->Shared->Prop}(hb:attributeBase e f env (eval e env)=eval e env)
  (h:wpAny (model prog w) A (eval e env) (fun o s₁=>wpAny (model prog w) A (getAttr o f true) Q E s₁) E s):wpAny (model prog w) A (eval (.Attribute e f pos) env) Q E s:=
 Attribute_any_ h (by rw [arm_eval_Attribute,hb])
end
def xs1(K:tz0)(ta:TE)(f:Str):TE:=fun σ H Q=>ta σ H fun x H1=>∃a C dx fs v,x= .ref a/\H1 a=some (.ins C dx fs)/\Cls K C/\cY K C f/\fs.lookup f=some v/\Q v H1
def xs2(K:tz0)(ta tv:TE)(f:Str):TS:=fun D σ H=>tv σ H fun y H1=>ta σ H1 fun x H2=>∃a C dx fs,x= .ref a/\H2 a=some (.ins C dx fs)/\Cls K C/\cY K C f/\fs.length<1000/\
 D.nx σ (upd H2 a (.ins C dx (fQ f y fs)))
section
variable{X:Cx}{o e value:Expr}{f:Str}{pos pos' tpos:Pos}{ta tv:TE}
theorem xf7(he:PE X e ta)(hb:attributeBase e f X.env (eval e X.env)=eval e X.env):PE X (.Attribute e f pos) (xs1 X.K ta f):=⟨by
 intro pins s σ H Q I h
 refine zs3 hb (thn (he pins s σ H _ I h) fun u s1 ⟨x,H1,I1,rx,a,C,dx,fs,v,ex,ea,c,n,l,q⟩=> ?_)
 subst ex
 obtain rfl:u=Value.ref a:=rx
 exact zw6 I1 ea c n l fun u' s2 I2 ru=>⟨v,H1,I2,ru,q⟩⟩
theorem xf8(ha:PE X o ta)(hv:PE X value tv)(hs:swapsWith value (some (.Attribute o f pos')) pos.line X.env=pure false):PS X (.Assign [.Attribute o f pos'] value pos) (xs2 X.K ta tv f):=⟨by
 intro pins s σ H D I h
 refine plainObj_wpAny_Assign_Attribute (thn (hv pins s σ H _ I h) fun u s1 ⟨y,H1,I1,ry,q⟩=>thn (ha pins s1 σ H1 _ I1 q) fun ov s2 ⟨x,H2,I2,rx,a,C,dx,fs,ex,ea,c,n,l,q2⟩=> ?_) hs
 subst ex
 obtain rfl:ov=Value.ref a:=rx
 exact zw8 I2 ea c n l ry fun s3 I3=>⟨σ,_,I3,q2⟩⟩
end
section
variable{X:Cx}{pins:tzB}{σ:St}{H:Hp}{s:Shared}{A:Around}{E:Value->Shared->Prop}{Q:Value->Shared->Prop}{c:Value}{b:Bool}
inductive TyOf(K:tz0)(H:Hp):V->Value->Prop where
 |non:TyOf K H .non (.type "NoneType")
 |bl (x:Bool):TyOf K H (.bl x) (.type "bool")
 |int (i:Int):TyOf K H (.int i) (.type "int")
 |str (x:Str):TyOf K H (.str x) (.type "str")
 |flt (x:UInt64):TyOf K H (.flt x) (.type "float")
 |lst {a:Addr} {xs:List V} (e:H a=some (.lst xs)):TyOf K H (.ref a) (.type "list")
 |frz {a:Addr} {o:Obj} {xs:List V} (e:H a=some (.frz o (.lst xs))):TyOf K H (.ref a) (.type "list")
 |tup {a:Addr} {xs:List V} (e:H a=some (.tup xs)):TyOf K H (.ref a) (.type "tuple")
 |dK {a:Addr} {kvs:List (Key×V)} (e:H a=some (.dK kvs)):TyOf K H (.ref a) (.type "dict")
 |dT {a:Addr} {kvs:List (List Key×V)} (e:H a=some (.dT kvs)):TyOf K H (.ref a) (.type "dict")
 | ins {a C dx:Addr} {fs:List (Str×V)} (e:H a=some (.ins C dx fs)) (cl:Cls K C) (ha:PySem.W.findIn K (.ref C) "__class__"=some (some (.builtin "object.__class__")))
   (hn:PySem.W.specialIn K (.builtin "object.__class__") "__get__"=some (some (.builtin "getset_descriptor.__get__"))) (htk:PySem.W.takesIn K (.builtin "object.__class__")=some true)
   (hm:PySem.W.mroIn K C (.type "object")=some true):TyOf K H (.ref a) (.ref C)
theorem ye1{x:V}{u t:Value}(I:Inv X pins σ H s)(rx:cC x u)(ty:TyOf X.K H x t)(e:PySem.W.kitOne X.K t c=some b)(h:∀tk,Q (.bool b) {s with toks:=tk}):
  wpAny (model X.prog X.w) A (call (.builtin "isinstance") [u,c]) Q E s:=by
 cases ty with
 |non=>cases(show u=Value.none from rx);exact ZJ PySem.W.kitx_none I.kIn True.intro e (fun z=>nomatch z) h
 |bl y=>cases(show u=Value.bool y from rx);exact ZJ PySem.W.kitx_bool I.kIn True.intro e (fun z=>nomatch z) h
 |int i=>obtain⟨t,q⟩:=(show ∃t,u=Value.int i t from rx);cases q;exact ZJ PySem.W.kitx_int I.kIn True.intro e (fun z=>nomatch z) h
 |str y=>obtain⟨t,q⟩:=(show ∃t,u=Value.str y t from rx);cases q;exact ZJ PySem.W.kitx_str I.kIn True.intro e (fun z=>nomatch z) h
 |flt y=>obtain⟨t,q⟩:=(show ∃t,u=Value.float y t from rx);cases q;exact ZJ PySem.W.kitx_float I.kIn True.intro e (fun z=>nomatch z) h
 | @lst a xs ea=>
  cases(show u=Value.ref a from rx)
  obtain⟨_,_,n,_,h1⟩:=(show dA X.prog X.w H s.heap a (.lst xs) from I.hok a _ ea)
  exact ZJ XS I.kIn ⟨_,h1,rfl⟩ e (fun z=>nomatch z) h
 | @frz a ob xs ea=>
  cases(show u=Value.ref a from rx)
  obtain⟨_,_,_,n,_,h1⟩:=(show dA X.prog X.w H s.heap a (.frz ob (.lst xs)) from I.hok a _ ea)
  exact ZJ XS I.kIn ⟨_,h1,rfl⟩ e (fun z=>nomatch z) h
 | @tup a xs ea=>
  cases(show u=Value.ref a from rx)
  obtain⟨_,_,_,p⟩:=(show dA X.prog X.w H s.heap a (.tup xs) from I.hok a _ ea)
  obtain⟨o,h1,h2,_⟩:=p
  exact ZJ XN I.kIn ⟨o,h1,h2⟩ e (fun z=>nomatch z) h
 | @dK a kvs ea=>
  cases(show u=Value.ref a from rx)
  obtain⟨_,_,vs,_,p⟩:=(show dA X.prog X.w H s.heap a (.dK kvs) from I.hok a _ ea)
  obtain⟨o,es,ep,h1,h2,_⟩:=p
  exact ZJ XT I.kIn ⟨o,h1,h2.1⟩ e (fun z=>nomatch z) h
 | @dT a kvs ea=>
  cases(show u=Value.ref a from rx)
  obtain⟨_,_,xs,_,o,es,ep,h1,h2,_⟩:=(show dA X.prog X.w H s.heap a (.dT kvs) from I.hok a _ ea)
  exact ZJ XT I.kIn ⟨o,h1,h2.1⟩ e (fun z=>nomatch z) h
 | @ins a C dx fs ea cl ha hn htk hm=>
  cases(show u=Value.ref a from rx)
  obtain⟨mA,O,_⟩:=vR I.hok ea
  obtain⟨od,J,_⟩:=O.look
  exact ZJ (PySem.W.kitx_own (cl.get _) cl.hd ha hn htk hm) I.kIn J e (fun z=>nomatch z) h
end
structure Room(k:Nat)(A:Around):Prop where
 hd:A.handled=none
 dp:A.depth+3*k+5<recursionLimit
 un:A.units+16*k+200<cLine
theorem Room.mono{j k:Nat}{A:Around}(r:Room k A)(h:j<=k):Room j A:=⟨r.hd,by have:=r.dp;omega,by have:=r.un;omega⟩
theorem Room.deeper{k:Nat}{A:Around}(r:Room (k+1) A)(env:Env):Room k (A.deeper env):=
 ⟨r.hd,by have:=r.dp;show A.depth+1+3*k+5<_;omega,by have:=r.un;show A.units+3+16*k+200<_;omega⟩
theorem zw9{A:Around}{C:Addr}{us:List Value}{kw:List (Str×Value)}:(A.under (.builtin "type.__call__" ⟨.ref C::us,kw⟩)).depth=A.depth+1:=by
 first|rfl|simp [Around.under,Code.weight,Code.isCreation,Code.isGuard,Code.isCaller,Code.frames,Code.isFrame,guardIds]
theorem zx0{A:Around}{C:Addr}{us:List Value}{kw:List (Str×Value)}:(A.under (.builtin "type.__call__" ⟨.ref C::us,kw⟩)).units=A.units+1:=by
 first|rfl|simp [Around.under,Code.cUnits,Code.frames,Code.isFrame]
theorem Room.make{k:Nat}{A:Around}(r:Room (k+1) A)(C:Addr)(us:List Value)(kw:List (Str×Value)):Room k (A.under (.builtin "type.__call__" ⟨.ref C::us,kw⟩)):=
 ⟨r.hd,by have:=r.dp;rw [zw9];omega,by have:=r.un;rw [zx0];omega⟩
theorem Room.depth{k:Nat}{A:Around}(r:Room k A):A.depth<recursionLimit:=by have:=r.dp;omega
theorem Room.units{k:Nat}{A:Around}(r:Room k A):A.units+64<cLine:=by have:=r.un;omega
theorem Room.units0{k:Nat}{A:Around}(r:Room k A):A.units<cLine:=by have:=r.un;omega
def yu0:TA:=fun _ H Q=>Q [] H
def xp0(ta:TE)(tr:TA):TA:=fun σ H Q=>ta σ H fun x H1=>tr σ H1 fun xs H2=>Q (x::xs) H2
abbrev StE(e:PySem.Expr)(es:List PySem.Expr)(X:Cx):Prop:=starEach (e::es) X.env=(false,eval e X.env)::starEach es X.env
section
variable{X:Cx}{e:Expr}{es:List Expr}{te:TE}{t:TA}{pos:Pos}
theorem lY:PA X [] yu0:=⟨fun _ _ _ _ H Q I h=>Calls.spliced_nil ⟨[],H,I,.nil,h⟩⟩
theorem fH(ha:PE X e te)(hr:PA X es t)(hs:StE e es X:=by rfl):PA X (e::es) (xp0 te t):=⟨by
 intro pos pins s σ H Q I h
 rw [hs]
 show wpAny _ _ (spliced ((false,eval e X.env)::backTo pos (starEach es X.env))) _ _ s
 refine Calls.spliced_cons (thn (ha pins s σ H _ I h) fun u s1 ⟨x,H1,I1,r1,q1⟩=> ?_)
 exact thn (hr pos pins s1 σ H1 _ I1 q1) fun us s2 ⟨xs,H2,I2,r2,q2⟩=>⟨x::xs,H2,I2,.cons r1 r2,q2⟩⟩
def xs3(t:TA):TE:=fun σ H Q=>t σ H fun xs H1=>xs.length<=sizeLine/\∀p,H1 p=none->Q (.ref p) (upd H1 p (.tup xs))
def xs4(t:TA):TE:=fun σ H Q=>t σ H fun xs H1=>xs.length<=sizeLine/\∀p,H1 p=none->Q (.ref p) (upd H1 p (.lst xs))
theorem ye2{x1}(h:PA X es t):PE X (.Tuple es x1 pos) (xs3 t):=⟨by
 intro pins s σ H Q I hq
 refine wpAny_Tuple_spliced (thn (h pos pins s σ H _ I hq) fun us s1 ⟨xs,H1,I1,r,z,q⟩=>⟨by rw [<-r.length];exact z,?_⟩)
 have hf:H1 s1.heap.objs.size=none:=I1.hok.fresh (Z9 _)
 refine⟨.ref s1.heap.objs.size,upd H1 s1.heap.objs.size (.tup xs),I1.laid (t':=s1.toks) (fun b u e=>Zk _ e) (Z9 _) ?_,rfl,q _ hf⟩
 exact⟨z,us,r,⟨_,Zw _ rfl,rfl,_,rfl⟩⟩⟩
theorem xf9(h:PA X es t):PE X (.List es pos) (xs4 t):=⟨by
 intro pins s σ H Q I hq
 refine wpAny_List_spliced (thn (h pos pins s σ H _ I hq) fun us s1 ⟨xs,H1,I1,r,z,q⟩=>⟨by rw [<-r.length];exact z,?_⟩)
 have hf:H1 s1.heap.objs.size=none:=I1.hok.fresh (Z9 _)
 refine⟨.ref s1.heap.objs.size,upd H1 s1.heap.objs.size (.lst xs),I1.laid (t':=s1.toks) (fun b u e=>Zk _ e) (Z9 _) ?_,rfl,q _ hf⟩
 exact⟨z,us,0,r,Zw _ rfl⟩⟩
end
abbrev Sp:=List V->Hp->VK->XK->Prop
abbrev CXT:=List Env->Hp->Shared->XK->Value->Shared->Prop
structure Env0(P:Program)(w:World)(K:tz0)(mg:tzA)(base:Heap)(A:Around)(outer:List Env)(s:Shared)(H:Hp):Prop where
 frames:A.frames=some outer
 mod:Mod K mg base
 bs:∀b o,base.get? b=some o->s.heap.get? b=some o/\H b=none
 bsz:base.objs.size<=s.heap.objs.size
 funs:s.heap.FunFrames base outer
 frf:∀b∈frs outer,H b=none
 hok:HOk P w H s.heap
 bare:AllBare s.gens
def CE(outer:List Env)(P:Program)(w:World)(H:Hp)(s:Shared)(Q:VK)(u:Value)(s':Shared):Prop:=
 ∃v H',s'.os=s.os/\AllBare s'.gens/\Un (frs outer) [] H H' s.heap s'.heap/\HOk P w H' s'.heap/\cC v u/\Q v H'
def CR(CX:CXT)(outer:List Env)(P:Program)(w:World)(H:Hp)(s:Shared)(Q:VK)(E:XK)(r:Result)(s':Shared):Prop:=
 match r with
 | .ok (.ret u)=>CE outer P w H s Q u s'
 | .ok _=>False
 | .error e=>CX outer H s E e s'
structure FnOk(P:Program)(w:World)(K:tz0)(mg:tzA)(base:Heap)(CX:CXT)(k:Nat)(f:Addr)(fd:FuncData)(ps:List Str)(sp:Sp):Prop where
 len:∀vs H Q E,sp vs H Q E->vs.length=ps.length
 run:∀(A:Around) (outer:List Env) (s:Shared) (H:Hp) (args:Args) (us:List Value) (vs:List V) (Q:VK) (E:XK),Room k A->Env0 P w K mg base A outer s H->BindsTo s fd args (ps.zip us)->bN vs us->sp vs H Q E->
  codeAny (model P w) A (.call (.ref f) args) (CR CX outer P w H s Q E) s
theorem FnOk.mono{P:Program}{w:World}{K:tz0}{mg:tzA}{base:Heap}{CX:CXT}{j k:Nat}{f:Addr}{fd:FuncData}{ps:List Str}{sp:Sp}(F:FnOk P w K mg base CX j f fd ps sp)(h:j<=k):
  FnOk P w K mg base CX k f fd ps sp:=⟨F.len,fun A outer s H args us vs Q E hr=>F.run A outer s H args us vs Q E (hr.mono h)⟩
theorem FnOk.imp{P:Program}{w:World}{K:tz0}{mg:tzA}{base:Heap}{CX:CXT}{k:Nat}{f:Addr}{fd:FuncData}{ps:List Str}{sp sp':Sp}(F:FnOk P w K mg base CX k f fd ps sp)
  (h:∀vs H Q E,sp' vs H Q E->sp vs H Q E):FnOk P w K mg base CX k f fd ps sp':=
 ⟨fun vs H Q E q=>F.len vs H Q E (h _ _ _ _ q),fun A outer s H args us vs Q E hr he hb hv hs=>F.run A outer s H args us vs Q E hr he hb hv (h _ _ _ _ hs)⟩
theorem Env0.make{P:Program}{w:World}{K:tz0}{mg:tzA}{base:Heap}{A:Around}{outer:List Env}{s:Shared}{H:Hp}(e:Env0 P w K mg base A outer s H)(C:Addr)(us:List Value)(kw:List (Str×Value)):
  Env0 P w K mg base (A.under (.builtin "type.__call__" ⟨.ref C::us,kw⟩)) outer s H:=⟨by first|exact e.frames|(simpa [Around.under,Code.envs,Code.isFrame,pushEnvs] using e.frames),e.mod,e.bs,e.bsz,e.funs,e.frf,e.hok,e.bare⟩
section
variable{X:Cx}{pins:tzB}{σ:St}{H:Hp}{s s':Shared}
theorem Inv.env0(I:Inv X pins σ H s):Env0 X.prog X.w X.K X.mg X.base X.A X.stack s H:=
 ⟨I.ok.frames,I.ok.mod,I.bs,ZD I.ok.bsz I.sz,I.stack,I.stkFree,I.hok,I.bare⟩
theorem Inv.after{Q:VK}{u:Value}(I:Inv X pins σ H s)(h:CE X.stack X.prog X.w H s Q u s'):EP X pins σ Q u s':=by
 obtain⟨v,H',os,bare,un,hok,r,q⟩:=h
 obtain⟨hh,g,d,t,os'⟩:=s'
 obtain rfl:os'=s.os:=os
 exact⟨v,H',I.call (h':=hh) (g':=g) (d':=d) (t':=t) (ch:=[]) un hok bare (fun b z=>absurd z (by simp)),r,q⟩
end
def zg3(sp:Sp)(dvs:List V)(E:XK)(t:TA):TE:=fun σ H Q=>t σ H fun vs H1=>sp (vs++dvs) H1 Q E
def xp1(C:Addr)(m:Str)(sp:Sp)(dvs:List V)(E:XK)(ta:TE)(t:TA):TE:=fun σ H Q=>ta σ H fun x H1=>∃a dx fs,x= .ref a/\H1 a=some (.ins C dx fs)/\fs.lookup m=none/\
 t σ H1 fun vs H2=>sp (x::(vs++dvs)) H2 Q E
def xp2(C:Addr)(sp:Sp)(dvs:List V)(E:XK)(t:TA):TE:=fun σ H Q=>t σ H fun vs H1=>∀x dx,H1 x=none->H1 dx=none->dx≠x->
 sp (.ref x::(vs++dvs)) (upd (upd H1 dx (.own x)) x (.ins C dx [])) (fun v H2=>v= .non/\Q (.ref x) H2) E
def kP(K:tz0)(fd:FuncData)(ps:List Str)(ds:List Value):Prop:=
 ∀(s:Shared) (us:List Value),K.In s.heap->(us++ds).length=ps.length->BindsTo s fd ⟨us,[]⟩ (ps.zip (us++ds))
theorem kP.all{K:tz0}{fd:FuncData}{ps:List Str}(h:∀us:List Value,us.length=ps.length->bindArgs fd ⟨us,[]⟩=pure (ps.zip us)):kP K fd ps []:=fun s us _ hl=>by
 rw [Zh] at hl|-
 exact .of_eq (h us hl)
def nV(CX:CXT)(X:Cx)(E:XK):Prop:=∀(pins:tzB) (σ:St) (H:Hp) (s:Shared) (e:Value) (s':Shared),Inv X pins σ H s->CX X.stack H s E e s'->X.xe e s'
abbrev BkE(pos:PySem.Pos)(es:List PySem.Expr)(X:Cx):Prop:=(backTo pos (starEach es X.env)).any (·.1)=false
section
variable{X:Cx}{CX:CXT}{k:Nat}{f C:Addr}{fd:FuncData}{ps:List Str}{sp:Sp}{dvs:List V}{ds:List Value}{E:XK}{x m:Str}{p pos apos:Pos}{e o:Expr}{es:List Expr}{ta:TE}{t:TA}
theorem xM{pins:tzB}{σ:St}{H:Hp}{s:Shared}{Q:VK}{us:List Value}{vs:List V}(F:FnOk X.prog X.w X.K X.mg X.base CX k f fd ps sp)(hr:Room k X.A)(hb:kP X.K fd ps ds)(hd:bN dvs ds)(hx:nV CX X E)
  (I:Inv X pins σ H s) (r:bN vs us) (h:sp (vs++dvs) H Q E):wpAny (model X.prog X.w) X.A (call (.ref f) us) (EP X pins σ Q) X.xe s:=by
 have r2:bN (vs++dvs) (us++ds):=r.append hd
 have hl:(us++ds).length=ps.length:=by rw [<-r2.length];exact F.len _ _ _ _ h
 refine wpAny_call (Xm (F.run X.A X.stack s H ⟨us,[]⟩ (us++ds) (vs++dvs) Q E hr I.env0 (hb s us I.kIn hl) r2 h) fun r s' hq=> ?_)
 cases r with
 |error e=>exact hx pins σ H s e s' I hq
 |ok fl=>
  cases fl with
  |ret u=>exact I.after hq
  |next=>exact False.elim hq
  |brk=>exact False.elim hq
  |cont=>exact False.elim hq
theorem yx4(F:FnOk X.prog X.w X.K X.mg X.base CX k f fd ps sp)(hr:Room k X.A)(hg:Gl X x)(hm:X.mg x=some (.ref f))(hk:PySem.W.keepIn X.K (.ref f)=true)(hb:kP X.K fd ps ds)(hd:bN dvs ds)(hx:nV CX X E)
  (ha:PA X (e::es) t) (hdb:NDb x:=by decide) (he:StE e es X:=by rfl) (hpl:BkE pos es X:=by rfl):
  PE X (.Call (.Name x p) (e::es) [] pos) (zg3 sp dvs E t):=⟨by
 intro pins s σ H Q I h
 refine Yd (vO I hg hm ?_ hdb)
 refine Yy (h₀:=X.base) I.ok.mod.kin hk (thn (ha pos pins s σ H _ I h) fun us s1 ⟨vs,H1,I1,r,q⟩=>⟨I1.kIn,?_⟩) he hpl
 exact xM F hr hb hd hx I1 r q⟩
theorem ym9(F:FnOk X.prog X.w X.K X.mg X.base CX k f fd ps sp)(hr:Room k X.A)(hg:Gl X x)(hm:X.mg x=some (.ref f))(hk:PySem.W.keepIn X.K (.ref f)=true)(hb:kP X.K fd ps ds)(hd:bN dvs ds)(hx:nV CX X E)
  (hdb:NDb x:=by decide):PE X (.Call (.Name x p) [] [] pos) (zg3 sp dvs E yu0):=⟨by
 intro pins s σ H Q I h
 refine Yd (vO I hg hm ?_ hdb)
 exact PySem.W.callWith_K0 I.kIn hk (xM (us:=[]) F hr hb hd hx I .nil h)⟩
theorem yx5{pl:Sem Bool}(he:PE X o ta)(c:Cls X.K C)(hm:Meth X.K C m f)(F:FnOk X.prog X.w X.K X.mg X.base CX k f fd ps sp)(hr:Room k X.A)(hb:kP X.K fd ps ds)(hd:bN dvs ds)(hx:nV CX X E)(ha:PA X (e::es) t)
  (hst:StE e es X:=by rfl) (hpl:BkE pos es X:=by rfl)
  (ht:eval (.Call (.Attribute o m apos) (e::es) [] pos) X.env=(do
   let ov<-eval o X.env
   standAt apos.atName
   let (f,first)<-holding [ov] (getMethod ov m pl)
   callWith pos f first (backTo pos (starEach (e::es) X.env)) (backToKw pos (keywordEach [] X.env))):=by rfl):
  PE X (.Call (.Attribute o m apos) (e::es) [] pos) (xp1 C m sp dvs E ta t):=⟨by
 intro pins s σ H Q I h
 refine XD (pl:=pl) (thn (he pins s σ H _ I h) fun u s1 ⟨x,H1,I1,rx,a,dx,fs,ex,ea,l,q⟩=> ?_) ht
 subst ex
 obtain rfl:u=Value.ref a:=rx
 refine zw7 I1 ea c hm l ?_
 refine Yy (first:=[.ref a]) (h₀:=X.base) I.ok.mod.kin hm.kp (thn (ha pos pins s1 σ H1 _ I1 q) fun us s2 ⟨vs,H2,I2,r,q2⟩=>⟨I2.kIn,?_⟩) hst hpl
 exact xM (us:= .ref a::us) (vs:= .ref a::vs) F hr hb hd hx I2 (.cons rfl r) q2⟩
structure Mk(K:tz0)(C f:Addr):Prop where
 makes:PySem.W.makesIn K C=true
 init:PySem.W.findIn K (.ref C) "__init__"=some (some (.ref f))
 fn:PySem.W.isFn K (.ref f)=true
 kp:PySem.W.keepIn K (.ref C)=true
theorem yn0{pins:tzB}{σ:St}{H:Hp}{s:Shared}{Q:VK}{us:List Value}{vs:List V}(M:Mk X.K C f)(F:FnOk X.prog X.w X.K X.mg X.base CX k f fd ps sp)(hr:Room (k+1) X.A)(hb:kP X.K fd ps ds)(hd:bN dvs ds)
  (hx:nV CX X E) (I:Inv X pins σ H s) (r:bN vs us)
  (h:∀x dx,H x=none->H dx=none->dx≠x->sp (.ref x::(vs++dvs)) (upd (upd H dx (.own x)) x (.ins C dx [])) (fun v H2=>v= .non/\Q (.ref x) H2) E):
  wpAny (model X.prog X.w) X.A (call (.ref C) us) (EP X pins σ Q) X.xe s:=by
 have hq:=h (s.heap.objs.size+1) s.heap.objs.size (I.hok.fresh (Nat.le_succ _)) (I.hok.fresh (Z9 _)) (ZG (X6 _))
 have I2:=Inv.made (C:=C) I
 have r2:bN (V.ref (s.heap.objs.size+1)::(vs++dvs)) (Value.ref (s.heap.objs.size+1)::(us++ds)):= .cons rfl (r.append hd)
 have hl:(Value.ref (s.heap.objs.size+1)::us++ds).length=ps.length:=by
  have e:=r2.length
  rw [F.len _ _ _ _ hq] at e
  exact e.symm
 refine wpAny_call (ym8 (f:=f) I.kIn M.makes M.init (Yr.mp M.fn) (Xm (F.run _ X.stack _ _ ⟨Value.ref (s.heap.objs.size+1)::us,[]⟩ (Value.ref (s.heap.objs.size+1)::(us++ds)) _ _ E (hr.make C us [])
  (I2.env0.make C us []) (hb _ (Value.ref (s.heap.objs.size+1)::us) I2.kIn hl) r2 hq) fun r s' hq'=> ?_))
 cases r with
 |error e=>exact hx pins σ _ _ e s' I2 hq'
 | ok fl=>
  cases fl with
  |ret u=>
   obtain⟨v,H',I3,rv,ev,q3⟩:=I2.after hq'
   subst ev
   exact⟨rv,⟨V.ref (s.heap.objs.size+1),H',I3,rfl,q3⟩⟩
  |next=>exact False.elim hq'
  |brk=>exact False.elim hq'
  |cont=>exact False.elim hq'
theorem yx6(M:Mk X.K C f)(F:FnOk X.prog X.w X.K X.mg X.base CX k f fd ps sp)(hr:Room (k+1) X.A)(hg:Gl X x)(hm:X.mg x=some (.ref C))(hb:kP X.K fd ps ds)(hd:bN dvs ds)(hx:nV CX X E)
  (ha:PA X (e::es) t) (hdb:NDb x:=by decide) (he:StE e es X:=by rfl) (hpl:BkE pos es X:=by rfl):
  PE X (.Call (.Name x p) (e::es) [] pos) (xp2 C sp dvs E t):=⟨by
 intro pins s σ H Q I h
 refine Yd (vO I hg hm ?_ hdb)
 refine Yy (h₀:=X.base) I.ok.mod.kin M.kp (thn (ha pos pins s σ H _ I h) fun us s1 ⟨vs,H1,I1,r,q⟩=>⟨I1.kIn,?_⟩) he hpl
 exact yn0 M F hr hb hd hx I1 r q⟩
end
structure FnScope(N P:List Str)(sc:Scope):Prop where
 kind:sc.kind= .function
 co:sc.isCoroutine=false
 gen:sc.isGenerator=false
 nd:N.Nodup
 pre:N.take P.length=P
 par:∀x∈P,sc.names.lookup x=some .local\/sc.names.lookup x=some .cell
 nofree:∀y∈sc.names,y.2≠ .free
theorem zb0{kindOf:Str->Option NameKind}{x:Str}:∀{binds:List (Str×Value)} {m:tzA},(∀v,(x,v)∉binds)->bindL kindOf binds m x=m x
 |[],_,_=>rfl
 | (n,v)::r,m,h=>by
  unfold bindL
  rw [zb0 fun w hw=>h w (Z1 _ hw)]
  split
  ·have:x≠n:=by rintro rfl;exact h v Z0
   simp [this]
  ·rfl
theorem zb1{kindOf:Str->Option NameKind}{x:Str}:∀{binds:List (Str×Value)} {m:tzA},(∀v,(x,v)∉binds)->bindC kindOf binds m x=m x
 |[],_,_=>rfl
 | (n,v)::r,m,h=>by
  unfold bindC
  rw [zb1 fun w hw=>h w (Z1 _ hw)]
  split
  ·rfl
  ·have:x≠n:=by rintro rfl;exact h v Z0
   simp [this]
theorem zb2{kindOf:Str->Option NameKind}{x:Str}{v:Value}:∀{P:List Str} {vs:List Value} {i:Nat} {m:tzA},P.Nodup->P[i]? =some x->vs[i]? =some v->kindOf x=some .local->
  bindL kindOf (P.zip vs) m x=some v
 |[],_,_,_,_,h,_,_=>by simp at h
 |_::_,[],_,_,_,_,h,_=>by simp at h
 |p::P,w::vs,0,m,nd,h1,h2,hk=>by
  simp at h1 h2;subst h1;subst h2
  show bindL kindOf ((p,w)::P.zip vs) m p=_
  unfold bindL
  rw [zb0 fun v hv=>(Zo.mp nd).1 (Xb hv).1,if_pos hk]
  simp
 |p::P,w::vs,i+1,m,nd,h1,h2,hk=>by
  show bindL kindOf ((p,w)::P.zip vs) m x=_
  unfold bindL
  exact zb2 (i:=i) (Zo.mp nd).2 (by simpa using h1) (by simpa using h2) hk
theorem zb3{kindOf:Str->Option NameKind}{x:Str}{v:Value}:∀{P:List Str} {vs:List Value} {i:Nat} {m:tzA},P.Nodup->P[i]? =some x->vs[i]? =some v->kindOf x≠some .local->
  bindC kindOf (P.zip vs) m x=some v
 |[],_,_,_,_,h,_,_=>by simp at h
 |_::_,[],_,_,_,_,h,_=>by simp at h
 |p::P,w::vs,0,m,nd,h1,h2,hk=>by
  simp at h1 h2;subst h1;subst h2
  show bindC kindOf ((p,w)::P.zip vs) m p=_
  unfold bindC
  rw [zb1 fun v hv=>(Zo.mp nd).1 (Xb hv).1,if_neg hk]
  simp
 |p::P,w::vs,i+1,m,nd,h1,h2,hk=>by
  show bindC kindOf ((p,w)::P.zip vs) m x=_
  unfold bindC
  exact zb3 (i:=i) (Zo.mp nd).2 (by simpa using h1) (by simpa using h2) hk
def start(N:List Str)(vs:List V):St:=vs.map some++List.replicate (N.length-vs.length) none
def vB(CX:CXT)(P:Program)(w:World)(K:tz0)(mg:tzA)(base:Heap)(N:List Str)(qual:Str)(scope:Scope)(f:Addr)(cd:Value)(A:Around)(outer:List Env)(s:Shared)(H:Hp)(E:XK):Cx where
 prog:=P
 w:=w
 K:=K
 mg:=mg
 base:=base
 A:=A.deeper (envOfC qual scope s.heap.objs.size f cd)
 N:=N
 s₀:=s
 H₀:=H
 env:=envOfC qual scope s.heap.objs.size f cd
 outer:=outer
 stack:=envOfC qual scope s.heap.objs.size f cd::outer
 ex:=[]
 calm:=true
 fn:=fun _=>true
 pn:=[]
 xe:=fun e s'=>wpAny (model P w) (A.deeper (envOfC qual scope s.heap.objs.size f cd)) (leaving (envOfC qual scope s.heap.objs.size f cd) e) (fun _ s''=>CX outer H s E e s'') (fun e' s''=>CX outer H s E e' s'') s'
theorem zi9{sc:Scope}{n:Nat}{x:Str}(h:sc.names.lookup x=some .cell):∃c,(cellsFrom n sc.names []).lookup x=some c:=by
 have q:=Xz sc.names n [] (.inl h)
 exact Option.isSome_iff_exists.mp q
theorem ye3{CX:CXT}{P:Program}{w:World}{K:tz0}{mg:tzA}{base:Heap}{N ps:List Str}{qual:Str}{scope:Scope}{f:Addr}{cd:Value}{A:Around}{outer:List Env}{s s1:Shared}{H:Hp}{E:XK}{us:List Value}{vs:List V}
  (S:FnScope N ps scope) (hd:A.handled=none) (e0:Env0 P w K mg base A outer s H) (hl:vs.length=ps.length) (r:bN vs us)
  (x:InCallC s s.heap.objs.size (bindL (envOfC qual scope s.heap.objs.size f cd).kindOf (ps.zip us) fun _=>none) (cellsFrom (s.heap.objs.size+1) scope.names []) (bindC (envOfC qual scope s.heap.objs.size f cd).kindOf (ps.zip us) fun _=>none) s1):
  Inv (vB CX P w K mg base N qual scope f cd A outer s H E) [] (start N vs) H s1:=by
 have hpl:ps.length<=N.length:=by have:=ZP List.length S.pre;rw [YD] at this;omega
 obtain⟨h1,tk,rfl,hk⟩:=x.done
 have noA:∀b:Addr,b∉(vB CX P w K mg base N qual scope f cd A outer s H E).ex:=fun b z=>absurd (show b∈([]:List Addr) from z) (by simp)
 refine⟨⟨e0.mod,S.kind,rfl,rfl,Z9 _,fun y z c h1 h2=> ?_,fun y hy=> ?_,fun y c _ h=> ?_,fun _=>hd,Around.frames_deeper e0.frames,.inr ⟨rfl,rfl⟩,fun b z=>absurd z (noA b),e0.bs,e0.bsz,fun b _ _=>noA b,fun b z=>absurd z (noA b),e0.funs,e0.frf⟩,
  rfl,e0.bare,Un.kept hk,⟨_,x.toInCall.ns,fun i y v h1 h2 h3=> ?_⟩,fun y c h=>⟨_,x.cell y c h⟩,e0.hok.fresh (Z9 _),fun y c h=> ?_,fun p hp=>absurd (show p∈([]:tzB) from hp) (by simp),e0.hok.kept hk,?_⟩
 ·exact name_of_addr x.apart (Y2 h1) (Y2 h2)
 ·have hy:scope.names.lookup y=some .cell\/scope.names.lookup y=some .free:=hy
  rcases hy with hy|hy
  ·exact zi9 hy
  ·exact absurd rfl (S.nofree _ (Y2 hy))
 ·exact YI (x.above y c (Y2 h))
 ·have hi:i<vs.length:=by
   unfold start at h2
   by_cases hi:i<vs.length
   ·exact hi
   ·rw [ZW (by simpa using hi)] at h2
    rw [Yj] at h2
    split at h2<;>cases h2
  have ha:vs[i]? =some v:=by
   unfold start at h2
   rw [ZL (by simpa using hi),Zi] at h2
   cases e:vs[i]? with
   |none=>rw [e] at h2;cases h2
   |some a=>rw [e] at h2;cases h2;rfl
  obtain⟨u,hu,rv⟩:=r.get ha
  have hp:ps[i]? =some y:=by
   rw [<-S.pre,List.getElem?_take_of_lt (by omega)];exact h1
  have ndP:ps.Nodup:=by rw [<-S.pre];exact S.nd.sublist (List.take_sublist _ _)
  refine⟨u,rv,?_⟩
  rcases S.par y (ZT hp) with k|k
  ·exact .inl ⟨k,zb2 ndP hp hu k⟩
  ·obtain⟨c,e⟩:=zi9 (n:=s.heap.objs.size+1) k
   refine .inr ⟨.inl k,c,e,?_⟩
   have q:=x.cell y c e
   rw [zb3 ndP hp hu (by show scope.names.lookup y≠_;rw [k];decide)] at q
   exact q
 ·exact e0.hok.fresh (YI (x.above y c (Y2 h)))
 ·unfold start
  show _=N.length
  rw [Z2,Zd,YM]
  omega
theorem xn2{CX:CXT}{P:Program}{w:World}{K:tz0}{mg:tzA}{base:Heap}{k:Nat}{f:Addr}{name qual:Str}{params:Arguments}{body:List Stmt}{scope:Scope}{dV kV doc pm cdv ct oc:Value}{an od:Option Addr}
  {osl:Array (Option Value)} {N ps:List Str} {sp:Sp} (lk:K.lookup f=some ⟨oc,od,.func (PySem.W.fnOf name qual params body scope dV kV doc pm an cdv ct),osl⟩) (hcd:PySem.W.codeIn K cdv qual=true) (S:FnScope N ps scope)
  (len:∀vs H Q E,sp vs H Q E->vs.length=ps.length)
  (hbody:∀(A:Around) (outer:List Env) (s:Shared) (H:Hp) (vs:List V) (Q:VK) (E:XK),Room k (A.deeper (envOfC qual scope s.heap.objs.size f cdv))->sp vs H Q E->
   ∃t,PSs (vB CX P w K mg base N qual scope f cdv A outer s H E) body t/\t {nx:=fun _ H'=>Q .non H',rt:=Q} (start N vs) H):
  FnOk P w K mg base CX (k+1) f (PySem.W.fnOf name qual params body scope dV kV doc pm an cdv ct) ps sp:=by
 refine⟨len,fun A outer s H args us vs Q E hr e0 hb r hsp=> ?_⟩
 have hl:=len _ _ _ _ hsp
 have KX:K.In s.heap:=e0.mod.kin.keeps fun b o e=>(e0.bs b o e).1
 have lim:s.heap.NoLimit:=e0.mod.nolimit.keeps fun b o e=>(e0.bs b o e).1
 have hkind:∀y∈ps.zip us,scope.names.lookup y.1=some .local\/(scope.names.lookup y.1=some .cell/\((cellsFrom (s.heap.objs.size+1) scope.names []).lookup y.1).isSome=true):=fun⟨n,v⟩ hy=>by
  rcases S.par n (Xb hy).1 with q|q
  ·exact .inl q
  ·exact .inr ⟨q,Xz _ _ _ (.inl q)⟩
 refine codeAny_call_function hr.depth (KX _ _ lk) rfl S.co S.gen rfl (PySem.W.codeRec_of KX hcd) (hb _ _ _ _ ?_)
 refine wpAny_newFunctionEnv_cells S.kind hkind fun env he s1 x=> ?_
 subst he
 refine⟨lim.keeps x.toInCall.keep,codeAny_func ?_⟩
 obtain⟨t,ht,hq⟩:=hbody A outer s H vs Q E (hr.deeper _) hsp
 have I:Inv (vB CX P w K mg base N qual scope f cdv A outer s H E) [] (start N vs) H s1:=ye3 S hr.hd e0 hl r x
 refine Y5 (ht [] s1 (start N vs) H _ I hq) (fun fl s' hs=> ?_) fun e s' hs=>hs
 have fin:∀{σ':St} {H':Hp} {v:V} {u:Value},Inv (vB CX P w K mg base N qual scope f cdv A outer s H E) [] σ' H' s'->cC v u->Q v H'->CE outer P w H s Q u s':=
  fun {σ' H' v u} J rv q=>⟨v,H',J.os,J.bare,J.base,J.hok,rv,q⟩
 cases fl with
 |ret u=>
  obtain⟨v,σ',H',J,rv,q⟩:=hs
  exact fin J rv q
 |next=>
  obtain⟨σ',H',J,q⟩:=hs
  exact fin (v:=V.non) (u:=Value.none) J rfl q
 |brk=>
  obtain⟨_,_,_,q⟩:=hs
  exact False.elim q
 |cont=>
  obtain⟨_,_,_,q⟩:=hs
  exact False.elim q
section
variable{X:Cx}{x:Str}{p pos:Pos}{e:Expr}{es:List Expr}{t:TA}{id T:String}{r:List V->Hp->VK->Prop}
def tCB(r:List V->Hp->VK->Prop)(t:TA):TE:=fun σ H Q=>t σ H fun vs H1=>r vs H1 Q
theorem pQ(hc:CallR X (.builtin id) r)(hg:Gl X x)(hm:X.mg x=none)(hv:bootBuiltins x=some (.builtin id))(ha:PA X (e::es) t)(hn:x≠"__name__":=by decide)(hdb:NDb x:=by decide)
  (he:StE e es X:=by rfl) (hpl:BkE pos es X:=by rfl):PE X (.Call (.Name x p) (e::es) [] pos) (tCB r t):=⟨by
 intro pins s σ H Q I h
 refine Yd (rP I hg hm hv ?_ hn hdb)
 exact PyProof.Rows.callWith_builtin1 (thn (ha pos pins s σ H _ I h) fun us s1 ⟨vs,H1,I1,r1,q1⟩=>hc pins s1 σ H1 vs us Q I1 r1 q1) he hpl⟩
theorem ye4(hc:CallR X (.type T) r)(hg:Gl X x)(hm:X.mg x=none)(hv:bootBuiltins x=some (.type T))(ha:PA X (e::es) t)(hn:x≠"__name__":=by decide)(hdb:NDb x:=by decide)
  (he:StE e es X:=by rfl) (hpl:BkE pos es X:=by rfl):PE X (.Call (.Name x p) (e::es) [] pos) (tCB r t):=⟨by
 intro pins s σ H Q I h
 refine Yd (rP I hg hm hv ?_ hn hdb)
 exact Y9 (thn (ha pos pins s σ H _ I h) fun us s1 ⟨vs,H1,I1,r1,q1⟩=>hc pins s1 σ H1 vs us Q I1 r1 q1) he hpl⟩
end
end L2
namespace HT
open PySem PyProof.Rows
def lexLt:List Int->List Int->Bool
 |[],[]=>false
 |[],_::_=>true
 |_::_,[]=>false
 |x::xs,y::ys=>if x=y then lexLt xs ys else decide (x<y)
theorem zx1(x y:Int)(xs ys:List Int):lexLt (x::xs) (y::ys)=if x=y then lexLt xs ys else decide (x<y):=rfl
theorem ze6:lexLt [] []=false:=rfl
theorem zF(y:Int)(ys:List Int):lexLt [] (y::ys)=true:=rfl
theorem zG(x:Int)(xs:List Int):lexLt (x::xs) []=false:=rfl
theorem yn1(A:Around)(s:Shared)(a:Int)(t:Tok)(c:Int)(u:Tok):∃e,SeqAt.EqAt A s (.int a t) (.int c u) e/\(e=true↔a=c):=
 ⟨(a==c),SeqAt.EqAt.int_int a t c u,by simp⟩
theorem yn2(A:Around)(s:Shared)(a:Int)(t:Tok)(c:Int)(u:Tok)(prog:Program)(w:World)(E:Value->Shared->Prop)(Q:Value->Shared->Prop)(h:Q (.bool (decide (a<c))) s):
  wpAny (model prog w) A (richCompare .Lt (.int a t) (.int c u)) Q E s:=
 (PyProof.Rows.lt_int h:wpAny (model prog w) A (compareOp .Lt (.int a t) (.int c u)) Q E s)
section
open PySem.SeqAt
open PySem.AutoSeq1 (wpAny_loadPart')
open PySem.MeetsSeq PySem.MeetsSeq2 PySem.MeetsSeq3
theorem ze7(l b:Addr)(items items2:Array Value)(n n2:Nat)(dd dd2:Option Addr)(sl sl2:Array (Option Value))(ns ms:List Int)(hi:IntsAre items.toList ns)(hj:IntsAre items2.toList ms):
  Meets (Builtin.«tuple.__lt__» ⟨[.ref l,.ref b],[]⟩)
   (fun _ R s=>s.heap.get? l=some {cls:= .type "tuple",dict:=dd,data:= .seq items n,slots:=sl}/\s.heap.get? b=some {cls:= .type "tuple",dict:=dd2,data:= .seq items2 n2,slots:=sl2}/\
    R (.ok (.ret (.bool (lexLt ns ms)))) s):=
 .of_wp fun prog w A R s h=>by
  obtain⟨hp,g,d,tk,os⟩:=s;obtain⟨hl,hb,h⟩:=h
  have f2:=XO
  have z1:items.size=ns.length:=by rw [<-hi.length];simp
  have z2:items2.size=ms.length:=by rw [<-hj.length];simp
  wp_walk using Yf hl,Yf hb,wpAny_forIn_list _ (fun rest b s'=>b.1=none/\s'=⟨hp,g,d,tk,os⟩/\∃(vs ws:List Value) (ns' ms':List Int),rest=vs.zip ws/\
   IntsAre vs ns'/\IntsAre ws ms'/\ns'.length+items2.size=ms'.length+items.size/\R (.ok (.ret (.bool (lexLt ns' ms')))) ⟨hp,g,d,tk,os⟩) _
  case turn=>
   rintro⟨y,x⟩ rest b s' ⟨hb',rfl,vs,ws,ns',ms',hz,hvi,hwi,hlen,hR⟩
   cases hvi with
   |nil=>rw [X0] at hz;cases hz
   | cons a t hvi'=>
    cases hwi with
    |nil=>rw [XQ] at hz;cases hz
    | cons c u hwi'=>
     rw [Y7] at hz
     injection hz with hyx hrest
     injection hyx with hy hx
     subst hy hx
     rw [zx1] at hR
     simp only [Z4] at hlen
     obtain⟨e,he,hiff⟩:=yn1 A.in1 ⟨hp,g,d,tk,os⟩ a t c u
     refine Zg (he prog w _ _ ?_)
     cases e with
     |true=>
      rw [if_pos (hiff.mp rfl)] at hR
      wp_walk
      exact⟨rfl,rfl,_,_,_,_,hrest,hvi',hwi',by omega,hR⟩
     |false=>
      rw [if_neg (fun q=>absurd (hiff.mpr q) Z5)] at hR
      have hri:=yn2 A.in1 ⟨hp,g,d,tk,os⟩ a t c u prog w
      wp_walk using hri
      exact⟨_,rfl,by simpa using hR⟩
  case fin=>
   rintro⟨b1,b2⟩ s' ⟨hb',rfl,vs,ws,ns',ms',hz,hvi,hwi,hlen,hR⟩
   simp only at hb'
   subst hb'
   have hv:lexLt ns' ms'=decide (items.size<items2.size):=by
    cases hvi with
    | nil=>
     cases hwi with
     |nil=>
      simp only [ZR] at hlen
      rw [ze6]
      exact(Zc (by omega)).symm
     |cons c u hw=>
      simp only [ZR,Z4] at hlen
      rw [zF]
      exact(Zl (by omega)).symm
    | cons a t hv=>
     cases hwi with
     |nil=>
      simp only [ZR,Z4] at hlen
      rw [zG]
      exact(Zc (by omega)).symm
     |cons c u hw=>
      rw [Y7] at hz
      cases hz
   rw [hv] at hR
   wp_walk
   exact⟨_,rfl,by simpa [Builtin.Tuple.tupleCompareSizes] using hR⟩
  case h=>
   exact⟨rfl,rfl,items.toList,items2.toList,ns,ms,rfl,hi,hj,by omega,h⟩
end
section
variable{prog:Program}{w:World}{A:Around}{E:Value->Shared->Prop}{s:Shared}
theorem lt_tupInts{l b:Addr}{items items2:Array Value}{ns ms:List Int}{Q:Value->Shared->Prop}(hl:IsTup s.heap l items)(hb:IsTup s.heap b items2)(hi:IntsAre items.toList ns)(hj:IntsAre items2.toList ms)
  (hu:A.units<cLine) (h:Q (.bool (lexLt ns ms)) s):wpAny (model prog w) A (compareOp .Lt (.ref l) (.ref b)) Q E s:=by
 obtain⟨⟨cls,dd,data,sl⟩,ho,hc,n,hd⟩:=id hl
 obtain⟨⟨cls2,dd2,data2,sl2⟩,ho2,hc2,n2,hd2⟩:=id hb
 simp only at hc hd hc2 hd2
 subst hc hd hc2 hd2
 exact richCompare_meets_room (op:= .Lt) ⟨_,ho,rfl⟩ ⟨_,ho2,rfl⟩ XE XA (Xw _ _) (ze7 l b items items2 n n2 dd dd2 sl sl2 ns ms hi hj)
  ⟨ho,ho2,show Value.bool (lexLt ns ms)≠Value.notImplemented/\Q (.bool (lexLt ns ms)) s from⟨(fun x=>nomatch x),h⟩⟩ hu
theorem cat_tup{t b:Addr}{vs ws:List Value}{Q:Value->Shared->Prop}(ht:IsTup s.heap t vs.toArray)(hb:IsTup s.heap b ws.toArray)(hv:vs≠[])
  (h1:ws=[]->Q (.ref t) s) (h2:ws≠[]->Q (.ref s.heap.objs.size) {s with heap:=s.heap.push {cls:= .type "tuple",data:= .seq (vs++ws).toArray}})
  (hsz:vs.length+ws.length<=sizeLine):wpAny (model prog w) A (binaryOp .Add (.ref t) (.ref b)) Q E s:=by
 obtain⟨⟨cls,dd,data,sl⟩,ho,hc,n,hd⟩:=id ht
 obtain⟨⟨cls2,dd2,data2,sl2⟩,ho2,hc2,n2,hd2⟩:=id hb
 simp only at hc hd hc2 hd2
 subst hc hd hc2 hd2
 have e:vs.toArray++ws.toArray=(vs++ws).toArray:=by simp
 by_cases hw:ws=[]
 ·exact concat_meets ⟨_,ho,rfl⟩ ⟨_,ho2,rfl⟩ Xq XR YJ YE (YB _ _)
   (tuple_addW1 t b vs.toArray ws.toArray n n2 dd dd2 sl sl2 (by simpa using hv) (by simp [hw])) ⟨ho,ho2,h1 hw⟩
 ·refine concat_meets ⟨_,ho,rfl⟩ ⟨_,ho2,rfl⟩ Xq XR YJ YE (YB _ _)
   (tuple_addW2 t b vs.toArray ws.toArray n n2 dd dd2 sl sl2 (by simpa using hv) (by simpa using hw) (by rw [Zm,Zm];exact hsz)) ⟨ho,ho2,?_⟩
  rw [e]
  exact h2 hw
end
end HT
namespace L2
open PySem PySem.Spec PyProof.Rows
section
variable{X:Cx}{e:Expr}{te:TE}{lo hi:Option Expr}{tl th:TO}{pos p2:Pos}
def xp3(K:tz0):R2:=fun x y H Q=>∃a b xs ys,x= .ref a/\y= .ref b/\SqT K H a xs/\SqT K H b ys/\xs≠[]/\xs.length+ys.length<=sizeLine/\
 (ys=[]->Q (.ref a) H)/\(ys≠[]->∀p,H p=none->Q (.ref p) (upd H p (.tup (xs++ys))))
theorem bN.nil_iff{xs:List V}{us:List Value}(r:bN xs us):us=[]↔xs=[]:=by
 cases r with
 |nil=>simp
 |cons _ _=>simp
theorem yx7:OpR X (binaryOp .Add) (xp3 X.K):=⟨by
 intro pins s σ H x y v u Q I rx ry h
 obtain⟨a,b,xs,ys,rfl,rfl,ha,hb,hx,hz,q1,q2⟩:=h
 cases rx
 cases ry
 obtain⟨its,r1,p1,_⟩:=I.tuple ha
 obtain⟨its2,r2,p2,_⟩:=I.tuple hb
 refine HT.cat_tup p1 p2 (fun z=>hx (r1.nil_iff.mp z)) (fun z=>⟨.ref a,H,I,rfl,q1 (r2.nil_iff.mp z)⟩) (fun z=> ?_) (by rw [<-r1.length,<-r2.length];exact hz)
 refine⟨.ref s.heap.objs.size,_,I.laid (t':=s.toks) (o:= .tup (xs++ys)) (fun b ob q=>Zk _ q) (Z9 _) ?_,rfl,q2 (fun w=>z (r2.nil_iff.mpr w)) _ (I.hok.fresh (Z9 _))⟩
 exact⟨by rw [Z2];exact hz,_,r1.append r2,IsTup.new _ _⟩⟩
end
def ixN(n:Nat)(i:Int):Option Nat:=if 0<=i then(if i<n then some i.toNat else none) else if-(n:Int)<=i then some (i+n).toNat else none
def atI{α:Type}(xs:List α)(i:Int):Option α:=(ixN xs.length i).bind fun j=>xs[j]?
theorem vS{n:Nat}{i:Int}{j:Nat}(h:ixN n i=some j):seqIndex? i n=some j/\j<n/\ -(n:Int)<=i/\i<n:=by
 unfold ixN at h
 by_cases h0:0<=i
 ·rw [if_pos h0] at h
  by_cases h1:i<n
  ·rw [if_pos h1] at h
   have e:i.toNat=j:=Zz h
   exact⟨by rw [seqIndex_of h0 h1,e],by omega,by omega,h1⟩
  ·rw [if_neg h1] at h;cases h
 ·rw [if_neg h0] at h
  by_cases h1: -(n:Int)<=i
  ·rw [if_pos h1] at h
   have e:(i+n).toNat=j:=Zz h
   exact⟨by rw [seqIndex_neg (by omega) h1,e],by omega,h1,by omega⟩
  ·rw [if_neg h1] at h;cases h
theorem lP{α:Type}{xs:List α}{i:Int}{v:α}(h:atI xs i=some v):∃j,seqIndex? i xs.length=some j/\xs[j]? =some v/\j<xs.length/\ -(xs.length:Int)<=i/\i<xs.length:=by
 unfold atI at h
 cases e:ixN xs.length i with
 |none=>rw [e] at h;cases h
 |some j=>
  rw [e] at h
  obtain⟨h1,h2,h3,h4⟩:=vS e
  exact⟨j,h1,h,h2,h3,h4⟩
theorem zH{α:Type}{xs:List α}{j:Nat}{v:α}(h:xs[j]? =some v):atI xs (j:Int)=some v:=by
 have hj:j<xs.length:=(Z6.mp h).1
 have e:ixN xs.length (j:Int)=some j:=by
  unfold ixN
  rw [if_pos (by omega),if_pos (by omega)];simp
 unfold atI;rw [e];exact h
theorem zj0{α:Type}(xs:List α)(v:α):atI (xs++[v]) (-1)=some v:=by
 have hl:(xs++[v]).length=xs.length+1:=by simp
 have e:ixN (xs++[v]).length (-1)=some xs.length:=by
  unfold ixN
  rw [hl,if_neg (by decide),if_pos (by omega)]
  congr 1
  omega
 unfold atI
 rw [e]
 show(xs++[v])[xs.length]? =some v
 simp
def vZ(b:Expr):Prop:=∀o i,subscripted b false o i=operate [o,i] (getItem o i)
def IxR(X:Cx)(r:R2):Prop:=
 ∀(value slice:Expr) (pins:tzB) (s:Shared) (σ:St) (H:Hp) (x y:V) (v u:Value) (Q:VK),Inv X pins σ H s->cC x v->cC y u->r x y H Q->
  subscripted slice false v u=operate [v,u] (getItem v u)->wpAny (model X.prog X.w) X.A (subscriptTail value slice v u) (EP X pins σ Q) X.xe s
def xk8(X:Cx)(id:String)(r:V->List V->Hp->VK->Prop):Prop:=
 ∀(pins:tzB) (s:Shared) (σ:St) (H:Hp) (x:V) (xs:List V) (v:Value) (us:List Value) (Q:VK),Inv X pins σ H s->cC x v->bN xs us->r x xs H Q->
  wpAny (model X.prog X.w) X.A (call (.builtin id) (v::us)) (EP X pins σ Q) X.xe s
structure MtR(X:Cx)(id:String)(r:V->List V->Hp->VK->Prop):Prop where
 go:xk8 X id r
instance {X:Cx} {id:String} {r:V->List V->Hp->VK->Prop}:CoeFun (MtR X id r) fun _=>xk8 X id r:=⟨MtR.go⟩
section
variable{X:Cx}{a b:Expr}{ta tb:TE}{pos:Pos}
theorem IxR.or{r r':R2}(h:IxR X r)(h':IxR X r'):IxR X (fun x y H Q=>r x y H Q\/r' x y H Q):=by
 intro value slice pins s σ H x y v u Q I rx ry q hs
 rcases q with q|q
 ·exact h value slice pins s σ H x y v u Q I rx ry q hs
 ·exact h' value slice pins s σ H x y v u Q I rx ry q hs
theorem zf3{r:R2}(hr:IxR X r)(ha:PE X a ta)(hb:PE X b tb)(hs:vZ b):PE X (.Subscript a b pos) (tOp r ta tb):=⟨by
 intro pins s σ H Q I h
 exact Subscript_ (ym5 ha hb I h fun v u s2 x y H2 I2 rx ry q=>hr a b pins s2 σ H2 x y v u Q I2 rx ry q (hs _ _))⟩
def xk9(K:tz0):R2:=fun x y H Q=>∃p xs i v,x= .ref p/\y= .int i/\SqL K H p xs/\atI xs i=some v/\Q v H
def xl0(K:tz0):R2:=fun x y H Q=>∃p xs i v,x= .ref p/\y= .int i/\SqT K H p xs/\atI xs i=some v/\Q v H
def xl1:R2:=fun x y H Q=>∃z i c,x= .str z/\y= .int i/\z.length<=sizeLine/\atI z.cps.toList i=some c/\Q (.str ⟨#[c]⟩) H
theorem zI:IxR X (xk9 X.K):=by
 intro value slice pins s σ H x y v u Q I rx ry h hs
 obtain⟨p,xs,i,z,rfl,rfl,hq,he,q⟩:=h
 cases rx
 obtain⟨t,rfl⟩:=ry
 obtain⟨its,r,pl,hz⟩:=I.list hq
 obtain⟨j,h1,h2,h3,h4,h5⟩:=lP he
 obtain⟨w,ew,rw'⟩:=r.get h2
 have hl:=r.length
 have hn:=pP
 have fin:EP X pins σ Q w s:=⟨z,H,I,rw',q⟩
 by_cases h0:0<=i
 ·have hj:i.toNat=j:=by
   rw [seqIndex_of h0 h5] at h1
   exact Zz h1
  exact item_listR pl.isList h0 (by omega) (by rw [hj];simpa using ew) fin hs
 ·have hj:(i+(its.toArray.size:Int)).toNat=j:=by
   rw [seqIndex_neg (by omega) h4] at h1
   rw [Zm,<-hl]
   exact Zz h1
  exact subscriptTail_builtinR (x:=w) pl.isList.typeIs slot_list_getitem.lookup
   (wpAny_getItem_list_neg (Q:=fun r s'=>r=w/\EP X pins σ Q r s') pl.isList (by omega) (by rw [Zm]<;>omega) (by omega) (by rw [hj];simpa using ew) ⟨rfl,fin⟩) hs
theorem xg0:IxR X (xl0 X.K):=by
 intro value slice pins s σ H x y v u Q I rx ry h hs
 obtain⟨p,xs,i,z,rfl,rfl,hq,he,q⟩:=h
 cases rx
 obtain⟨t,rfl⟩:=ry
 obtain⟨its,r,pl,hz⟩:=I.tuple hq
 obtain⟨j,h1,h2,h3,h4,h5⟩:=lP he
 obtain⟨w,ew,rw'⟩:=r.get h2
 have hl:=r.length
 have hn:=pP
 have fin:EP X pins σ Q w s:=⟨z,H,I,rw',q⟩
 exact subscriptTail_builtinR (x:=w) pl.typeIs slot_tuple_getitem.lookup
  (getItem_tuple (j:=j) (Q:=fun r s'=>r=w/\EP X pins σ Q r s') pl (by omega) (by omega) (by rw [Zm,<-hl];exact h1) (by simpa using ew) ⟨rfl,fin⟩) hs
theorem xg1:IxR X xl1:=by
 intro value slice pins s σ H x y v u Q I rx ry h hs
 obtain⟨z,i,c,rfl,rfl,hz,he,q⟩:=h
 obtain⟨t,rfl⟩:=rx
 obtain⟨t',rfl⟩:=ry
 obtain⟨j,h1,h2,h3,h4,h5⟩:=lP he
 have hl:z.cps.toList.length=z.length:=by simp [Str.length]
 rw [hl] at h1 h4 h5
 have hn:=pP
 exact tail_any (Xc s z t) slot_str_getitem.lookup (getItem_str (c:=c) (by
  have e1:decide (i< -(2^63:Int))=false:=Zc (by omega)
  have e2:decide (i>=2^63)=false:=Zc (by omega)
  rw [e1,e2,Bool.or_false]) (by rw [h1];simpa using h2) ⟨.str ⟨#[c]⟩,H,I.tok _,⟨_,rfl⟩,q⟩) hs
def rIx(K:tz0):R2:=fun x y H Q=>xk9 K x y H Q\/xl0 K x y H Q\/xl1 x y H Q
theorem ye5:IxR X (rIx X.K):=zI.or (xg0.or xg1)
theorem zx2(its:List Value)(n j:Nat)(u:Value):Obj.mapSeq (·.setIfInBounds j u) {cls:= .type "list",data:= .seq its.toArray n}={cls:= .type "list",data:= .seq (its.set j u).toArray n}:=by
 simp [Obj.mapSeq]
theorem Inv.lst{pins:tzB}{σ:St}{H:Hp}{s:Shared}{p:Addr}{xs:List V}(I:Inv X pins σ H s)(h:H p=some (.lst xs)):
  ∃(its:List Value) (n:Nat),bN xs its/\s.heap.get? p=some {cls:= .type "list",data:= .seq its.toArray n}/\xs.length<=sizeLine:=by
 obtain⟨z,its,n,r,e⟩:=I.hok p _ h
 exact⟨its,n,r,e,z⟩
theorem Inv.lstUpd{pins:tzB}{σ:St}{H:Hp}{s:Shared}{p:Addr}{xs ys:List V}{its its':List Value}{n n':Nat}{f:Obj->Obj}(I:Inv X pins σ H s)(h:H p=some (.lst xs))
  (ho:s.heap.get? p=some {cls:= .type "list",data:= .seq its.toArray n}) (hf:f {cls:= .type "list",data:= .seq its.toArray n}={cls:= .type "list",data:= .seq its'.toArray n'}) (r:bN ys its') (hz:ys.length<=sizeLine) (t:Nat):
  Inv X pins σ (upd H p (.lst ys)) {s with heap:=s.heap.update p f,toks:=t}:=by
 have e:(s.heap.update p f).get? p=some {cls:= .type "list",data:= .seq its'.toArray n'}:=by
  rw [Heap.get?_update_self f ho (by rw [hf]<;>rfl),hf]
 refine I.write (x:=p) (e:=p) (by rw [h];trivial) (.inl rfl) (fun b u hb q=>(Heap.get?_update_other _ _ (Y6 hb)).trans q) ⟨_,e⟩ ?_
 exact⟨hz,its',n',r,e⟩
def xp4:V->V->V->Hp->(Hp->Prop)->Prop:=fun o i v H Q=>∃p xs k j,o= .ref p/\i= .int k/\H p=some (.lst xs)/\ixN xs.length k=some j/\Q (upd H p (.lst (xs.set j v)))
theorem yn3:xk2 X xp4:=by
 intro pins s σ H o i v ov iv u Q I ro ri rv h
 obtain⟨p,xs,k,j,rfl,rfl,hp,hj,q⟩:=h
 cases ro
 obtain⟨t,rfl⟩:=ri
 obtain⟨its,n,r,ho,hz⟩:=I.lst hp
 obtain⟨h1,h2,h3,h4⟩:=vS hj
 have hl:=r.length
 have hn:=pP
 have I':Inv X pins σ (upd H p (.lst (xs.set j v))) {s with heap:=s.heap.update p (Obj.mapSeq (·.setIfInBounds j u))}:=
  I.lstUpd hp ho (zx2 its n j u) (r.set rv j) (by rw [List.length_set];exact hz) s.toks
 by_cases h0:0<=k
 ·have hk:k.toNat=j:=by
   rw [seqIndex_of h0 h4] at h1
   exact Zz h1
  exact PySem.W.ki_setAt ho h0 (by omega) (by rw [Zm,<-hl];exact h4) (by rw [hk];exact⟨_,I',q⟩)
 ·have hk:(k+(its.toArray.size:Int)).toNat=j:=by
   rw [seqIndex_neg (by omega) h3] at h1
   rw [Zm,<-hl]
   exact Zz h1
  exact PySem.W.ki_setBack ho (by omega) (by rw [Zm,<-hl];exact h3) (by omega) (by rw [hk];exact⟨_,I',q⟩)
def jN:V->Bool
 | .non=>true
 | .bl _=>true
 | .int _=>true
 | .str _=>true
 |_=>false
def eqV:V->V->Bool
 | .non,.non=>true
 | .bl a,.bl b=>a==b
 | .bl a,.int b=>(if a then 1 else 0)==b
 | .int a,.bl b=>a==(if b then 1 else 0)
 | .int a,.int b=>a==b
 | .str a,.str b=>a==b
 |_,_=>false
theorem xg2{A:Around}{s:Shared}{y x:V}{u v:Value}(ry:cC y u)(rx:cC x v)(fy:jN y=true)(fx:jN x=true):SeqAt.EqAt A s u v (eqV y x):=by
 cases y with
 |non=>
  cases ry
  cases x with
  |non=>cases rx;exact SeqAt.EqAt.same _
  |bl b=>cases rx;exact SeqAt.EqAt.none_bool b
  |int b=>obtain⟨t,rfl⟩:=rx;exact SeqAt.EqAt.none_int b t
  |str b=>obtain⟨t,rfl⟩:=rx;exact SeqAt.EqAt.none_str b t
  |_=>exact absurd (show false=true from fx) Z5
 |bl a=>
  cases ry
  cases x with
  |non=>cases rx;exact SeqAt.EqAt.bool_none a
  |bl b=>cases rx;exact SeqAt.EqAt.bool_bool a b
  |int b=>obtain⟨t,rfl⟩:=rx;exact SeqAt.EqAt.bool_int a b t
  |str b=>obtain⟨t,rfl⟩:=rx;exact SeqAt.EqAt.bool_str a b t
  |_=>exact absurd (show false=true from fx) Z5
 |int a=>
  obtain⟨t',rfl⟩:=ry
  cases x with
  |non=>cases rx;exact SeqAt.EqAt.int_none a t'
  |bl b=>cases rx;exact SeqAt.EqAt.int_bool a t' b
  |int b=>obtain⟨t,rfl⟩:=rx;exact SeqAt.EqAt.int_int a t' b t
  |str b=>obtain⟨t,rfl⟩:=rx;exact SeqAt.EqAt.int_str a t' b t
  |_=>exact absurd (show false=true from fx) Z5
 |str a=>
  obtain⟨t',rfl⟩:=ry
  cases x with
  |non=>cases rx;exact SeqAt.EqAt.str_none a t'
  |bl b=>cases rx;exact SeqAt.EqAt.str_bool a t' b
  |int b=>obtain⟨t,rfl⟩:=rx;exact SeqAt.EqAt.str_int a t' b t
  |str b=>obtain⟨t,rfl⟩:=rx;exact SeqAt.EqAt.str_str a t' b t
  |_=>exact absurd (show false=true from fx) Z5
 |_=>exact absurd (show false=true from fy) Z5
def eqU(x:V)(u:Value):Bool:=match u with
 | .none=>eqV .non x
 | .bool b=>eqV (.bl b) x
 | .int i _=>eqV (.int i) x
 | .str z _=>eqV (.str z) x
 |_=>false
theorem ye6{x y:V}{u:Value}(r:cC y u)(f:jN y=true):eqU x u=eqV y x:=by
 cases y with
 |non=>cases r;rfl
 |bl b=>cases r;rfl
 |int i=>obtain⟨t,rfl⟩:=r;rfl
 |str z=>obtain⟨t,rfl⟩:=r;rfl
 |_=>exact absurd (show false=true from f) Z5
theorem zJ{x:V}:∀{xs:List V} {us:List Value},bN xs us->xs.all jN=true->us.any (eqU x)=xs.any fun y=>eqV y x
 |_,_,.nil,_=>rfl
 |y::xs,u::us,.cons r t,f=>by
  rw [Xr,ZF] at f
  rw [YC,YC,ye6 r f.1,zJ t f.2]
theorem wS{A:Around}{s:Shared}{x:V}{v:Value}(rx:cC x v)(fx:jN x=true):∀{xs:List V} {us:List Value},bN xs us->xs.all jN=true->∀u∈us,SeqAt.EqAt A s u v (eqU x u)
 |_,_,.nil,_=>fun u hu=>by cases hu
 |y::xs,u::us,.cons r t,f=>fun u' hu=>by
  rw [Xr,ZF] at f
  rcases Z8.mp hu with rfl|hu
  ·rw [ye6 r f.1];exact xg2 r rx f.1 fx
  ·exact wS rx fx t f.2 u' hu
def inV(x:V)(xs:List V):Bool:=xs.any fun y=>eqV y x
def rIn(K:tz0)(neg:Bool):R2:=fun x y H Q=>∃p xs,y= .ref p/\(SqL K H p xs\/SqT K H p xs)/\jN x=true/\xs.all jN=true/\Q (.bl (if neg then !inV x xs else inV x xs)) H
theorem ye7:OpR X (compareOp .In) (rIn X.K false):=⟨by
 intro pins s σ H x y v u Q I rx ry h
 obtain⟨p,xs,rfl,hq,fx,fs,q⟩:=h
 cases ry
 rcases hq with hq|hq
 ·obtain⟨its,r,pl,hz⟩:=I.list hq
  refine SeqAt.in_listAt (eqU x) pl.isList (fun w hw=>wS rx fx r fs w (by simpa using hw)) ⟨.bl _,H,I,rfl,?_⟩
  rw [show its.toArray.any (eqU x)=its.any (eqU x) by simp,zJ r fs]
  exact q
 ·obtain⟨its,r,pl,hz⟩:=I.tuple hq
  refine SeqAt.in_tupleAt (eqU x) pl (fun w hw=>wS rx fx r fs w (by simpa using hw)) ⟨.bl _,H,I,rfl,?_⟩
  rw [show its.toArray.any (eqU x)=its.any (eqU x) by simp,zJ r fs]
  exact q⟩
theorem iP:CallR X (.builtin "len") (fun xs H Q=>∃p ys,xs=[.ref p]/\(SqL X.K H p ys\/SqT X.K H p ys)/\Q (.int ys.length) H):=⟨by
 intro pins s σ H xs us Q I r h
 obtain⟨p,ys,rfl,hq,q⟩:=h
 obtain⟨u,rfl,rx⟩:=vQ r
 cases rx
 have hn:=pP
 rcases hq with hq|hq
 ·obtain⟨its,r',pl,hz⟩:=I.list hq
  have hlen:=r'.length
  exact Calls.call_len_list pl.isList (by simp only [Zm]<;>omega) ⟨.int ys.length,H,I.tok _,⟨s.toks+1,by rw [Zm,hlen]⟩,q⟩
 ·obtain⟨its,r',pl,hz⟩:=I.tuple hq
  have hlen:=r'.length
  exact len_tuple pl (by simp only [Zm]<;>omega) ⟨.int ys.length,H,I.tok _,⟨s.toks+1,by rw [Zm,hlen]⟩,q⟩⟩
theorem zj1:CallR X (.builtin "len") (fun xs H Q=>∃z,xs=[.str z]/\z.length<=sizeLine/\Q (.int z.length) H):=⟨by
 intro pins s σ H xs us Q I r h
 obtain⟨z,rfl,hz,q⟩:=h
 obtain⟨u,rfl,t,rfl⟩:=vQ r
 have hn:=pP
 exact len_str (by omega) ⟨.int z.length,H,I.tok _,⟨_,rfl⟩,q⟩⟩
theorem tX:CallR X (.type "tuple") (fun xs H Q=>∃p ys,xs=[.ref p]/\((SqL X.K H p ys/\∀l,H l=none->Q (.ref l) (upd H l (.tup ys)))\/(SqT X.K H p ys/\Q (.ref p) H))):=⟨by
 intro pins s σ H xs us Q I r h
 obtain⟨p,ys,rfl,h⟩:=h
 obtain⟨u,rfl,rx⟩:=vQ r
 cases rx
 rcases h with ⟨hq,q⟩|⟨hq,q⟩
 ·obtain⟨its,r',pl,hz⟩:=I.list hq
  have hlen:=r'.length
  refine call_tuple_list pl.isList (fun h' kp=> ?_) (by simp only [Zm]<;>omega)
  have I1:Inv X pins σ H {s with heap:=h'}:=I.kept (t':=s.toks) kp
  have I2:Inv X pins σ (upd H h'.objs.size (.tup ys)) {s with heap:=h'.push {cls:= .type "tuple",data:= .seq its.toArray}}:=
   I1.laid (t':=s.toks) (fun b o e=>Zk _ e) (Z9 _) (show dA X.prog X.w _ _ _ (.tup ys) from⟨hz,its,r',IsTup.new _ _⟩)
  exact⟨.ref h'.objs.size,_,I2,rfl,q _ (I1.hok.fresh (Z9 _))⟩
 ·obtain⟨its,r',pl,hz⟩:=I.tuple hq
  exact call_tuple_same pl ⟨.ref p,H,I,rfl,q⟩⟩
def tyV(K:tz0)(T:String)(x:V)(H:Hp):Prop:=match x with
 | .str _=>T="str"
 | .int _=>T="int"
 | .ref p=>(T="list"/\∃xs,SqL K H p xs)\/(T="tuple"/\∃o,K.lookup p=some o/\o.cls= .type "tuple"/\o.dict=none)\/
   (T="dict"/\((∃kvs,H p=some (.dK kvs))\/∃kvs,H p=some (.dT kvs)))\/(T="set"/\∃S n,H p=some (.set S n))
 |_=>False
theorem ye8{pins:tzB}{σ:St}{H:Hp}{s:Shared}{T:String}{x:V}{v:Value}(I:Inv X pins σ H s)(r:cC x v)(ty:tyV X.K T x H):
  s.TypeIs v T/\∀a,v= .ref a->∃ob,s.heap.get? a=some ob/\ob.dict=none:=by
 cases x with
 |str z=>
  obtain⟨t,rfl⟩:=r
  cases(show T="str" from ty)
  exact⟨Xc s z t,fun _ e=>nomatch e⟩
 |int i=>
  obtain⟨t,rfl⟩:=r
  cases(show T="int" from ty)
  exact⟨typeIs_int s i t,fun _ e=>nomatch e⟩
 | ref p=>
  cases r
  rcases ty with ⟨rfl,xs,hq⟩|⟨rfl,o,hk,hc,hd⟩|⟨rfl,hk⟩|⟨rfl,S,n,hk⟩
  ·obtain⟨its,_,pl,_⟩:=I.list hq
   refine⟨pl.isList.typeIs,fun a e=> ?_⟩
   cases e
   obtain⟨o,n,e,c,hd,_⟩:=pl
   exact⟨o,e,hd⟩
  ·refine⟨⟨o,I.kIn p o hk,hc⟩,fun a e=> ?_⟩
   cases e
   exact⟨o,I.kIn _ o hk,hd⟩
  ·have z:∃o,s.heap.get? p=some o/\o.ExactDict:=by
    rcases hk with ⟨kvs,hk⟩|⟨kvs,hk⟩
    ·obtain⟨_,_,_,_,o,_,_,e,ex,_⟩:=I.hok p _ hk
     exact⟨o,e,ex⟩
    ·obtain⟨_,_,_,_,o,_,_,e,ex,_⟩:=I.hok p _ hk
     exact⟨o,e,ex⟩
   obtain⟨o,e,ex⟩:=z
   refine⟨⟨o,e,ex.1⟩,fun a e2=> ?_⟩
   cases e2
   exact⟨o,e,ex.2.1⟩
  ·obtain⟨o,_,_,_,e,ex,_⟩:=I.hok p _ hk
   refine⟨⟨o,e,ex.1⟩,fun a e2=> ?_⟩
   cases e2
   exact⟨o,e,ex.2.1⟩
 |_=>exact False.elim ty
def xs5(K:tz0)(T:String)(r:V->List V->Hp->VK->Prop)(to:TE):TE:=fun σ H Q=>to σ H fun x H1=>tyV K T x H1/\r x [] H1 Q
def tBM(K:tz0)(T:String)(r:V->List V->Hp->VK->Prop)(to:TE)(t:TA):TE:=fun σ H Q=>to σ H fun x H1=>tyV K T x H1/\t σ H1 fun xs H2=>r x xs H2 Q
variable{o e:Expr}{es:List Expr}{to:TE}{t:TA}{name:Str}{apos cpos:Pos}{T id:String}{r:V->List V->Hp->VK->Prop}
theorem xg3(pa:PlainAttrs T)(slot:Slot T name id)(hty:typeOf (.builtin id)=pure (.type "method_descriptor"))(hm:MtR X id r)(ho:PE X o to)
  (hbase:attributeBase o name X.env (eval o X.env)=eval o X.env:=by rfl) (hline:(apos.endLine==cpos.line)=true:=by rfl):PE X (.Call (.Attribute o name apos) [] [] cpos) (xs5 X.K T r to):=⟨by
 intro pins s σ H Q I h
 refine wpAny_Call_method0_late hbase hline (thn (ho pins s σ H _ I h) fun v s1 ⟨x,H1,I1,r1,ty,q1⟩=> ?_)
 obtain⟨h1,h2⟩:=ye8 I1 r1 ty
 exact⟨T,id,pa,slot,hty,h1,h2,Calls.callWith_builtin rfl (PySem.evalArgs_none (hm pins s1 σ H1 x [] v [] Q I1 r1 .nil q1))⟩⟩
theorem yv2(pa:PlainAttrs T)(slot:Slot T name id)(hty:typeOf (.builtin id)=pure (.type "method_descriptor"))(hm:MtR X id r)(ho:PE X o to)(ha:PA X (e::es) t)
  (hbase:attributeBase o name X.env (eval o X.env)=eval o X.env:=by rfl)
  (hfew:((backTo cpos (starEach (e::es) X.env)).all (fun x=> !x.1)&&(backToKw cpos (keywordEach [] X.env)).all (fun x=>x.1.isSome)
   &&decide ((e::es).length+([]:List Keyword).length+(if ([]:List Keyword).isEmpty then 0 else 1)<30))=true:=by rfl)
  (hline:(apos.endLine==cpos.line)=true:=by rfl) (hs:StE e es X:=by rfl) (hplain:(backTo cpos (starEach es X.env)).any (·.1)=false:=by rfl):
  PE X (.Call (.Attribute o name apos) (e::es) [] cpos) (tBM X.K T r to t):=⟨by
 intro pins s σ H Q I h
 refine wpAny_Call_method_late hbase hfew hline rfl (thn (ho pins s σ H _ I h) fun v s1 ⟨x,H1,I1,r1,ty,q1⟩=> ?_)
 obtain⟨h1,h2⟩:=ye8 I1 r1 ty
 refine⟨T,id,pa,slot,hty,h1,h2,?_⟩
 have hA:=ha cpos pins s1 σ H1 _ I1 q1
 rw [hs] at hA|-
 refine Calls.callWith_builtin (by show(false||(backTo cpos (starEach es X.env)).any (·.1))=false;rw [hplain]<;>rfl) (Calls.evalArgs_plain ?_)
 exact thn hA fun us s2 ⟨vs,H2,I2,r2,q2⟩=>hm pins s2 σ H2 x vs v us Q I2 r1 r2 q2⟩
end
theorem bN.one:∀{x:V} {us:List Value},bN [x] us->∃u,us=[u]/\cC x u
 |_,_,.cons r .nil=>⟨_,rfl,r⟩
theorem bN.zero:∀{us:List Value},bN [] us->us=[]
 |_,.nil=>rfl
theorem bN.dropLast{xs:List V}{us:List Value}(h:bN xs us):bN xs.dropLast us.dropLast:=by
 induction h with
 |nil=>exact .nil
 |cons r t ih=>
  cases t with
  |nil=>exact .nil
  |cons q t'=>exact .cons r ih
theorem bN.rep{xs:List V}{us:List Value}(h:bN xs us):∀k:Nat,bN (List.replicate k xs).flatten (List.replicate k us).flatten
 |0=> .nil
 |k+1=>by
  rw [Y3,Y3,Ym,Ym]
  exact bN.append h (bN.rep h k)
theorem zx3{α:Type}(l:List α):l.eraseIdx (l.length-1)=l.dropLast:=by
 induction l with
 |nil=>rfl
 | cons a r ih=>
  cases r with
  |nil=>rfl
  | cons b r=>
   have e:(a::b::r).length-1=((b::r).length-1)+1:=by
    have h1:(a::b::r).length=r.length+2:=rfl
    have h2:(b::r).length=r.length+1:=rfl
    omega
   rw [e,List.eraseIdx_cons_succ,ih]
   all_goals rfl
section
variable{X:Cx}{pins:tzB}{σ:St}{H:Hp}{s:Shared}{l b:Addr}{xs ys zs:List V}
theorem Inv.lset{its its':List Value}{n:Nat}{f:Array Value->Array Value}{t':Nat}(I:Inv X pins σ H s)(hH:H l=some (.lst xs))
  (e:s.heap.get? l=some {cls:= .type "list",data:= .seq its.toArray n}) (hf:f its.toArray=its'.toArray) (hv:bN ys its') (hz:ys.length<=sizeLine):
  Inv X pins σ (upd H l (.lst ys)) {s with heap:=s.heap.update l (Obj.mapSeq f),toks:=t'}:=by
 have q:=PySem.IsL.update e f
 rw [hf] at q
 refine I.write (x:=l) (e:=l) (by rw [hH];exact trivial) (.inl rfl) (fun b' u hb hu=>(Heap.get?_update_other s.heap (Obj.mapSeq f) (Y6 hb)).trans hu) ⟨_,q⟩ ?_
 exact⟨hz,its',_,hv,q⟩
theorem Inv.lnew{its:List Value}{t':Nat}(I:Inv X pins σ H s)(hv:bN ys its)(hz:ys.length<=sizeLine):
  Inv X pins σ (upd H s.heap.objs.size (.lst ys)) {s with heap:=s.heap.push {cls:= .type "list",data:= .seq its.toArray},toks:=t'}:=
 I.laid (fun _ _ q=>Zk _ q) (Z9 _) ⟨hz,its,0,hv,Zw _ rfl⟩
theorem Inv.fresh(I:Inv X pins σ H s):H s.heap.objs.size=none:=I.hok.fresh (Z9 _)
theorem Inv.lstM(I:Inv X pins σ H s)(hH:H l=some (.lst xs)):xs.length<=sizeLine/\∃(its:List Value) (n:Nat),bN xs its/\xs.length=its.length/\s.heap.get? l=some {cls:= .type "list",data:= .seq its.toArray n}:=by
 obtain⟨z,its,n,r,e⟩:=I.hok l _ hH
 exact⟨z,its,n,r,r.length,e⟩
end
section
variable{X:Cx}
def xe1:V->List V->Hp->VK->Prop:=fun x vs H Q=>∃l xs y,x= .ref l/\vs=[y]/\H l=some (.lst xs)/\xs.length<sizeLine/\Q .non (upd H l (.lst (xs++[y])))
theorem zb4:MtR X "list.append" xe1:=⟨by
 intro pins s σ H x vs v us Q I rx rv h
 obtain⟨l,xs,y,rfl,rfl,hH,hz,q⟩:=h
 cases rx
 obtain⟨u,rfl,ru⟩:=rv.one
 obtain⟨z,its,n,r,hl,e⟩:=I.lstM hH
 refine Xd F.slot_list_append ⟨_,e,rfl⟩ F.entry_list_append (F.args_list_append_2 _ _) (PySem.list_append l its.toArray n u (by rw [Zm];omega)) ⟨e,?_⟩
 refine⟨.non,_,I.lset (its':=its++[u]) hH e (by simp) (r.append (.cons ru .nil)) ?_,rfl,q⟩
 rw [Z2,XF]
 omega⟩
def xs6:V->List V->Hp->VK->Prop:=fun x vs H Q=>∃l xs y,x= .ref l/\vs=[]/\H l=some (.lst xs)/\xs[xs.length-1]? =some y/\Q y (upd H l (.lst xs.dropLast))
theorem xg4:MtR X "list.pop" xs6:=⟨by
 intro pins s σ H x vs v us Q I rx rv h
 obtain⟨l,xs,y,rfl,rfl,hH,hy,q⟩:=h
 cases rx
 have hus:=rv.zero
 subst hus
 obtain⟨z,its,n,r,hl,e⟩:=I.lstM hH
 obtain⟨u,hu,ru⟩:=r.get hy
 have hy':its.toArray[its.toArray.size-1]? =some u:=by
  show its.toArray[its.length-1]? =some u
  rw [<-XG,<-hl]
  exact hu
 refine Xd F.slot_list_pop ⟨_,e,rfl⟩ F.entry_list_pop (F.args_list_pop_1 _) (MeetsSeq.list_pop_last l its.toArray n u hy' (by rw [Zm];omega)) ⟨e,?_⟩
 refine⟨y,_,I.lset (its':=its.dropLast) hH e ?_ r.dropLast ?_,ru,q⟩
 ·show its.toArray.eraseIdxIfInBounds (its.toArray.size-1)=its.dropLast.toArray
  rw [Zm,List.eraseIdxIfInBounds_toArray,zx3]
 ·rw [List.length_dropLast]
  omega⟩
end
end L2
namespace Att
open PySem PySem.W PySem.Calls PyProof.Rows
theorem xN{P:Params}{h:Heap}:∀(ns:List Int) (vs:List Value),WellAll P h vs (ns.map WData.int)->IntsAre vs ns:=by
 intro ns
 induction ns with
 |nil=>
  intro vs w
  rw [X1] at w
  cases w
  exact .nil
 | cons n ns ih=>
  intro vs w
  rw [Za] at w
  cases w with
  |cons a b=>
   cases a
   exact .cons _ _ (ih _ b)
theorem ye9{l:OpenLaw}{n:Nat}(hn:l.most=some n){P:Params}{h:Heap}{args:List WData}{vals:List Value}
  (hpre:l.row.toRowW.claim.pre args=true) (hwl:WellAll P h vals args):
  ∃a vs ns,vals=[Value.ref a]/\args=[WData.list (ns.map WData.int)]/\h.get? a=some {cls:= .type "list",data:= .seq vs.toArray}/\IntsAre vs ns/\ns.length<=n:=by
 have hsh:WShape.hasAll [] args [.list .int]=true:=(pre_splitW hpre).1
 have hc:l.pre.holds [] {args:=args}=true:=(pre_splitW hpre).2
 obtain⟨d,r,rfl,h1,h2⟩:=hasAllW_cons hsh
 obtain rfl:=hasAllW_nil h2
 obtain⟨xs,rfl,h3⟩:=hasW_list h1
 obtain⟨ns,rfl⟩:=items_int h3
 have hlen:ns.length<=n:=by
  unfold OpenLaw.pre at hc
  have h4:(WTm.not (.lt (.lit (.int (n:Int))) (.len (.arg 0)))).holds [] {args:=[.list (ns.map .int)]}=true:=by
   have h4:=(holds_andW hc).1
   rw [hn] at h4
   exact h4
  have h5:=condW_of h4 (w_not (w_lt w_lit (w_len_list (w_arg rfl))))
  rw [Zd] at h5
  refine Nat.le_of_not_lt fun q=> ?_
  have q':(n:Int)<((ns.length:Nat):Int):=by omega
  first
   |(rw [Zl q'] at h5;exact absurd h5 (by decide))
   |(simp at h5;omega)
 cases hwl with
 |cons w1 w2=>
  cases w2
  cases w1 with
  |list ho hall=>exact⟨_,_,ns,rfl,rfl,ho,xN ns _ hall,hlen⟩
theorem yf0(l:OpenLaw)(args:List WData):l.row.toRowW.claim.post args (.bool true) args=true:=
 postW_of (r:=l.row.toRowW) (X:=(true==true))
  (show WShape.has [] (.bool true) .bool=true by first|rfl|decide|simp [WShape.has,WShape.arms,WShape.armsAll])
  (show(WTm.eq .res (.lit (.bool true))).value [] {args:=args,res:=some (.bool true),after:=args}=some (.bool (true==true)) from w_eq_bool (w_res rfl) w_lit) rfl
theorem attach_call{l:OpenLaw}{n:Nat}{q:Program}{loose:List Str}{XP:(tzA)->Heap->Prop}{YP:World->Heap->Prop}{d:DefRec}
  (hn:l.most=some n) (hdf:d.params.defaults=[])
  (call:∀(w:World) (s₀ s₁:Shared) (mg mb:tzA) (fa:Addr) (o:Obj) (pm cd doc:Value) (a:Addr) (vs:List Value) (ns:List Int),
   Ground q loose [] XP w s₀ mg mb s₁.heap->YP w s₁.heap->
   s₁.heap.get? fa=some o->o.data= .func (docDef d.name d.params d.body d.scope pm cd doc)->s₁.heap.CodeRec cd d.name->mg d.name=some (.ref fa)->
   s₁.heap.get? a=some {cls:= .type "list",data:= .seq vs.toArray}->IntsAre vs ns->ns.length<=n->s₁.gens= #[]->
   codeAny (model l.prog w) callerA (.call (.ref fa) ⟨[.ref a],[]⟩) (fun r s'=>r= .ok (.ret (.bool true))/\OldK s₁.heap s'.heap/\s'.os=s₁.os/\AllBare s'.gens) s₁):
  WalkO q loose XP YP l.row.toRowW d [] (fun f vs=>PySem.call f vs):=by
 intro w s₀ s₁ mg mb G Y fa o pm cd doc dV kV ho hd hcd hD hmg hg args vals as hpre hlay hrd hwl hlo
 obtain rfl:dV= .none:=Dflts.none hD hdf
 obtain rfl:kV= .none:=Dflts.noKw hD
 obtain⟨a,vs,ns,rfl,rfl,hobj,hints,hlen⟩:=ye9 hn hpre hwl
 refine enter_call (Xm (call w s₀ s₁ mg mb fa o pm cd doc a vs ns G Y ho (fd_plain hd) hcd hmg hobj hints hlen hg) fun r s' hq=> ?_)
 obtain⟨rfl,h2,h3,h4⟩:=hq
 exact⟨.inl ⟨.bool true,.bool true,[],rfl,fun _=>rfl,.bool true,yf0 l _,fun _=>⟨List.Pairwise.nil,fun _ hm=>(nomatch hm)⟩⟩,h2,h3,h4⟩
end Att
namespace L2
open PySem PySem.Spec PyProof.Rows
theorem zb5:∀{vs:List Value} {ns:List Int},IntsAre vs ns->bN (ns.map V.int) vs
 |_,_,.nil=> .nil
 |_,_,.cons n t h=> .cons ⟨t,rfl⟩ (zb5 h)
def yu1(H:Hp):Prop:=∀b,H b=none\/∃o xs,H b=some (.frz o (.lst xs))
theorem yn4{P:Program}{w:World}{K:tz0}{mg mb:tzA}{CX:CXT}{k:Nat}{fa a:Addr}{fd:FuncData}{x:Str}{sp:Sp}{s₁:Shared}{vs:List Value}{ns:List Int}
  (KX:K.In s₁.heap) (hns:s₁.heap.Ns mainGlobals mg) (hb:s₁.heap.Ns builtinsNs mb) (hbb:∀x:Str,x≠"__name__"->mb x=bootBuiltins x) (hlim:s₁.heap.NoLimit) (hg:s₁.gens= #[])
  (ha:s₁.heap.get? a=some {cls:= .type "list",data:= .seq vs.toArray}) (hi:IntsAre vs ns) (hl:ns.length<=sizeLine) (hr:Room k callerA)
  (F:∀base:Heap,K.In base->base.Ns mainGlobals mg->FnOk P w K mg base CX k fa fd [x] sp) (hbind:∀(s:Shared) (u:Value),BindsTo s fd ⟨[u],[]⟩ [(x,u)])
  (hsp:∀H:Hp,yu1 H->SqL K H a (ns.map V.int)->sp [.ref a] H (fun v _=>v= .bl true) fun _ _ _=>False)
  (hCX:∀H e s',CX [] H s₁ (fun _ _ _=>False) e s'->False):
  codeAny (model P w) callerA (.call (.ref fa) ⟨[.ref a],[]⟩) (fun r s'=>r= .ok (.ret (.bool true))/\OldK s₁.heap s'.heap/\s'.os=s₁.os/\AllBare s'.gens) s₁:=by
 have rv:=zb5 hi
 have lenV:=hi.length
 have core:∀H:Hp,yu1 H->SqL K H a (ns.map V.int)->HOk P w H s₁.heap->(∀b,H b≠none->b=a)->(H a≠none->K.lookup a=none)->
   codeAny (model P w) callerA (.call (.ref fa) ⟨[.ref a],[]⟩) (fun r s'=>r= .ok (.ret (.bool true))/\OldK s₁.heap s'.heap/\s'.os=s₁.os/\AllBare s'.gens) s₁:=by
  intro H hO hS hok hA hK
  have base_of:∀{b:Addr} {o:Obj},s₁.heap.get? b=some o->H b=none->(tL s₁.heap H).get? b=some o:=fun e n=>ym3 e n
  have noA:∀{b:Addr} {o:Obj} {es:Array DictEntry} {ep:Nat},s₁.heap.get? b=some o->o.data= .dict es ep->H b=none:=fun {b o es ep} e d=>by
   cases q:H b with
   |none=>rfl
   |some u=>
    have e':b=a:=hA b (by rw [q];simp)
    subst e'
    rw [ha] at e;cases e
    have d':Data.seq vs.toArray _=Data.dict es ep:=d
    cases d'
  have nsK:∀{b:Addr} {m:tzA},s₁.heap.Ns b m->(tL s₁.heap H).Ns b m:=fun {b m} ⟨o,es,ep,e,d,r⟩=>⟨o,es,ep,base_of e (noA e d),d,r⟩
  have hKb:K.In (tL s₁.heap H):=fun b o e=>base_of (KX b o e) (by
   cases q:H b with
   |none=>rfl
   |some u=>
    have e':b=a:=hA b (by rw [q];simp)
    subst e'
    rw [hK (by rw [q];simp)] at e;cases e)
  have hM:Mod K mg (tL s₁.heap H):=⟨hKb,nsK hns,⟨mb,nsK hb,hbb⟩,let ⟨mc,h1,h2⟩:=hlim;⟨mc,nsK h1,h2⟩⟩
  have e0:Env0 P w K mg (tL s₁.heap H) callerA [] s₁ H:=⟨rfl,hM,fun b o e=>yw6 e,Nat.le_of_eq (yc4 _ _),trivial,fun b hb=>absurd (show b∈([]:List Addr) from hb) (by simp),hok,.of_eq hg⟩
  refine Xm ((F _ hKb (nsK hns)).run callerA [] s₁ H ⟨[.ref a],[]⟩ [.ref a] [.ref a] _ _ hr e0 (hbind s₁ (.ref a)) (.cons rfl .nil) (hsp H hO hS)) fun r s' h=> ?_
  cases r with
  |error e=>exact(hCX H e s' h).elim
  | ok fl=>
   cases fl with
   |next=>exact False.elim h
   |brk=>exact False.elim h
   |cont=>exact False.elim h
   | ret u=>
    obtain⟨v,H',os,bare,un,hok',r',q⟩:=h
    have q':v= .bl true:=q
    subst q'
    obtain rfl:u=Value.bool true:=r'
    refine⟨rfl,OldK.of_keep fun b o e=> ?_,os,bare⟩
    cases q:H b with
    |none=>exact un.keep b o e q (by intro z;exact absurd (show b∈([]:List Addr) from z) (by simp)) (by simp)
    | some u=>
     rcases hO b with z|⟨ob,xs,z⟩
     ·rw [q] at z;cases z
     ·have z2:=un.frzs b ob _ z
      obtain⟨e1,_⟩:=hok b _ z
      obtain⟨e2,_⟩:=hok' b _ z2
      rw [e] at e1;cases e1
      exact e2
 cases hk:K.lookup a with
 |some o=>
  have e:=KX a o hk
  rw [ha] at e
  cases e
  refine core (fun _=>none) (fun _=> .inl rfl) (.inr ⟨_,vs.toArray,_,hk,rfl,rfl,rfl,by rw [Zm,lenV];exact hl,by simpa using rv⟩) (fun b u z=>by have z':(none:Option HO)=some u:=z;cases z') (fun b z=>absurd rfl z) fun z=>absurd rfl z
 | none=>
  refine core (fun b=>if b=a then some (.frz {cls:= .type "list",data:= .seq vs.toArray} (.lst (ns.map V.int))) else none) (fun b=> ?_) (.inl (.inr ⟨{cls:= .type "list",data:= .seq vs.toArray},if_pos rfl⟩)) (fun b u z=> ?_) (fun b z=> ?_) fun _=>hk
  ·by_cases hb:b=a
   ·exact .inr ⟨_,_,if_pos hb⟩
   ·exact .inl (if_neg hb)
  ·by_cases hb:b=a
   ·have z':=(if_pos hb).symm.trans z
    cases z'
    subst hb
    exact⟨ha,by rw [Zd];exact hl,vs,_,rv,ha⟩
   ·have z':=(if_neg hb).symm.trans z
    cases z'
  ·by_cases hb:b=a
   ·exact hb
   ·exact absurd (if_neg hb) z
theorem yx8{l:PySem.W.OpenLaw}{n k:Nat}{q:Program}{loose:List Str}{XP:(tzA)->Heap->Prop}{YP:World->Heap->Prop}{d:DefRec}{K:Params->tz0}{CX:World->CXT}{sp:World->Sp}{x:Str}
  (hn:l.most=some n) (hn2:n<=sizeLine) (hdf:d.params.defaults=[]) (hr:Room k callerA)
  (hY:∀(w:World) (h:Heap),YP w h->(K w.params).In h)
  (F:∀(w:World) (mg:tzA) (fa:Addr) (h:Heap),(K w.params).In h->h.Ns mainGlobals mg->mg d.name=some (.ref fa)->
   ∃fd:FuncData,(∀(s:Shared) (u:Value),BindsTo s fd ⟨[u],[]⟩ [(x,u)])/\
    ∀base:Heap,(K w.params).In base->base.Ns mainGlobals mg->FnOk l.prog w (K w.params) mg base (CX w) k fa fd [x] (sp w))
  (hsp:∀(w:World) (H:Hp) (a:Addr) (ns:List Int),ns.length<=n->yu1 H->SqL (K w.params) H a (ns.map V.int)->sp w [.ref a] H (fun v _=>v= .bl true) fun _ _ _=>False)
  (hCX:∀(w:World) (H:Hp) (s:Shared) (e:Value) (s':Shared),CX w [] H s (fun _ _ _=>False) e s'->False):
  PySem.W.WalkO q loose XP YP l.row.toRowW d [] (fun f vs=>PySem.call f vs):=by
 refine Att.attach_call hn hdf fun w s₀ s₁ mg mb fa o pm cd doc a vs ns G Y ho hd hcd hmg hobj hints hlen hg=> ?_
 have KX:=hY w _ Y
 obtain⟨fd,hb,hF⟩:=F w mg fa _ KX G.T.g hmg
 exact yn4 KX G.T.g G.T.b G.T.builtins G.T.nolimit hg hobj hints (ZD hlen hn2) hr hF hb (fun H hO hS=>hsp w H a ns hlen hO hS) fun H e s'=>hCX w H s₁ e s'
def pM(s:Stmt)(j:Nat):Stmt:=match s with
 | .ClassDef _ _ _ body _ _ _ _ _ _ _=>body.getD j (.Pass ⟨0,0,0,0⟩)
 |_=> .Pass ⟨0,0,0,0⟩
def sE(s:Stmt):Arguments:=match s with
 | .FunctionDef _ a _ _ _ _ _ _ _ _=>a
 |_=>{posonlyargs:=[],args:=[],vararg:=none,kwonlyargs:=[],kw_defaults:=[],kwarg:=none,defaults:=[]}
def lU(s:Stmt):List Stmt:=match s with
 | .FunctionDef _ _ b _ _ _ _ _ _ _=>b
 |_=>[]
def bA(s:Stmt):Scope:=match s with
 | .FunctionDef _ _ _ _ _ _ sc _ _ _=>sc
 |_=>{kind:= .function,names:=[],isGenerator:=false,isCoroutine:=false}
abbrev CX0:CXT:=fun _ _ _ _ _ _=>False
abbrev E0:XK:=fun _ _ _=>False
theorem xO{X:Cx}:nV CX0 X E0:=fun _ _ _ _ _ _ _ h=>h.elim
structure Fun(K:tz0)(x qual:Str)(st:Stmt)(f:Addr)(fd:FuncData):Prop where
 ex:∃(oc:Value) (od:Option Addr) (kV doc pm:Value) (an:Option Addr) (cdv ct:Value) (osl:Array (Option Value)),
  fd=PySem.W.fnOf x qual (sE st) (lU st) (bA st) .none kV doc pm an cdv ct/\K.lookup f=some ⟨oc,od,.func fd,osl⟩/\PySem.W.codeIn K cdv qual=true
 kp:PySem.W.keepIn K (.ref f)=true
section
variable{P:Program}{w:World}{K:tz0}{mg:tzA}{base:Heap}
theorem Fun.ok{x qual:Str}{st:Stmt}{f:Addr}{fd:FuncData}{N ps:List Str}{k:Nat}{sp:Sp}(F:Fun K x qual st f fd)(S:FnScope N ps (bA st))(len:∀vs H Q E,sp vs H Q E->vs.length=ps.length)
  (hbody:∀(cdv:Value) (A:Around) (outer:List Env) (s:Shared) (H:Hp) (vs:List V) (Q:VK) (E:XK),Room k (A.deeper (envOfC qual (bA st) s.heap.objs.size f cdv))->sp vs H Q E->
   ∃t,PSs (vB CX0 P w K mg base N qual (bA st) f cdv A outer s H E).nox (lU st) t/\t {nx:=fun _ H'=>Q .non H',rt:=Q} (start N vs) H):FnOk P w K mg base CX0 (k+1) f fd ps sp:=by
 obtain⟨oc,od,kV,doc,pm,an,cdv,ct,osl,rfl,lk,hcd⟩:=F.ex
 refine xn2 lk hcd S len fun A outer s H vs Q E hr hsp=> ?_
 obtain⟨t,h,q⟩:=hbody cdv A outer s H vs Q E hr hsp
 exact⟨t,h.nox,q⟩
theorem Fun.binds{x qual:Str}{st:Stmt}{f:Addr}{fd:FuncData}{ps:List Str}(F:Fun K x qual st f fd)
  (h:∀(kV doc pm:Value) (an:Option Addr) (cdv ct:Value) (us:List Value),us.length=ps.length->bindArgs (PySem.W.fnOf x qual (sE st) (lU st) (bA st) .none kV doc pm an cdv ct) ⟨us,[]⟩=pure (ps.zip us)):kP K fd ps []:=by
 obtain⟨oc,od,kV,doc,pm,an,cdv,ct,osl,rfl,lk,hcd⟩:=F.ex
 exact .all (h kV doc pm an cdv ct)
theorem yf1{x qual:Str}{st:Stmt}{f:Addr}{oc:Value}{od an:Option Addr}{osl:Array (Option Value)}{kV doc pm cdv ct:Value}(l:K.lookup f=some ⟨oc,od,.func (PySem.W.fnOf x qual (sE st) (lU st) (bA st) .none kV doc pm an cdv ct),osl⟩)
  (c:PySem.W.codeIn K cdv qual=true) (k:PySem.W.keepIn K (.ref f)=true):Fun K x qual st f (PySem.W.fnOf x qual (sE st) (lU st) (bA st) .none kV doc pm an cdv ct):=⟨⟨oc,od,kV,doc,pm,an,cdv,ct,osl,rfl,l,c⟩,k⟩
end
theorem qM{A:Around}{k:Nat}(hr:Room k A):A.units+1<cLine:=Yz (Nat.add_le_add_left (by decide:1<=64) _) hr.units
theorem uH{n:Nat}(h:n<=1000):n<sizeLine:=Yz h (by decide)
section
variable{X:Cx}
theorem pv(i:Nat){x:Str}{pos:Pos}(hN:X.N[i]? =some x:=by rfl)(hv:Vis X.env.scope x:=by first|exact Or.inl rfl|exact Or.inr (Or.inl rfl)|exact Or.inr (Or.inr rfl))(hd:NDb x:=by decide)
  (hcd:(x==("__classdict__":Str))=false:=by decide):PE X (.Name x pos) (xk0 i):=rO hN hv hd hcd
end
theorem xq2{c A B:Prop}[Decidable c](h1:c->A)(h2:¬c->B):if c then A else B:=by
 by_cases h:c
 ·rw [if_pos h]
  exact h1 h
 ·rw [if_neg h]
  exact h2 h
def yb3(H H':Hp):Prop:=∀b o,H b=some o->H' b=some o
theorem yb3.free{H H':Hp}(e:yb3 H H'){l:Addr}(h:H' l=Option.none):H l=Option.none:=by
 cases q:H l with
 |none=>rfl
 |some o=>
  rw [e l o q] at h
  cases h
section
variable{U:Type}[DecidableEq U]
def nD(kvs:List (U×V))(k:U):Option V:=(kvs.find? fun kv=>decide (kv.1=k)).map (·.2)
def eV(kvs:List (U×V))(k:U)(v:V):List (U×V):=
 if (kvs.any fun kv=>decide (kv.1=k))=true then kvs.map (fun kv=>if kv.1=k then(kv.1,v) else kv) else kvs++[(k,v)]
theorem pR{p:U×V}{r:List (U×V)}{k:U}(e:p.1=k):nD (p::r) k=some p.2:=by simp [nD,Yi,e]
theorem pS{p:U×V}{r:List (U×V)}{k:U}(e:¬p.1=k):nD (p::r) k=nD r k:=by simp [nD,Yi,e]
theorem sM(k:U):∀kvs:List (U×V),(kvs.any fun kv=>decide (kv.1=k))=(nD kvs k).isSome
 |[]=>rfl
 |p::r=>by
  rw [YC]
  by_cases e:p.1=k
  ·simp only [pR e,Zl e,Bool.true_or,Option.isSome_some]
  ·rw [pS e,Zc e,Bool.false_or];exact sM k r
theorem wO(kvs:List (U×V))(k:U)(v:V):(eV kvs k v).length<=kvs.length+1:=by
 unfold eV
 split
 ·rw [Zd];omega
 ·rw [Z2,Z4,ZR];omega
theorem jB.isSome_eq{o:Option V}{u:Option Value}(r:jB o u):o.isSome=u.isSome:=by
 cases o with
 |none=>cases u with
  |none=>rfl
  |some _=>exact(show False from r).elim
 |some _=>cases u with
  |none=>exact(show False from r).elim
  |some _=>rfl
theorem KV.val{kvs:List (U×V)}{vs:List (U×Value)}(r:KV kvs vs)(k:U):jB (nD kvs k) (valueAt vs k):=by
 unfold KV at r
 induction r with
 |nil=>exact True.intro
 | @cons p q ps qs h t ih=>
  obtain⟨h1,h2⟩:=h
  by_cases e:p.1=k
  ·have e':q.1=k:=h1.symm.trans e
   have b:valueAt (q::qs) k=some q.2:=by simp [valueAt,Yi,e']
   rw [pR e,b];exact h2
  ·have e':¬q.1=k:=fun z=>e (h1.trans z)
   have b:valueAt (q::qs) k=valueAt qs k:=by simp [valueAt,Yi,e']
   rw [pS e,b];exact ih
theorem KV.any{kvs:List (U×V)}{vs:List (U×Value)}(r:KV kvs vs)(k:U):(kvs.any fun kv=>decide (kv.1=k))=vs.any fun kv=>decide (kv.1=k):=by
 unfold KV at r
 induction r with
 |nil=>rfl
 |cons h t ih=>rw [YC,YC,ih,h.1]
theorem KV.repl{kvs:List (U×V)}{vs:List (U×Value)}(r:KV kvs vs)(k:U){y:V}{u:Value}(ry:cC y u):
  KV (kvs.map fun kv=>if kv.1=k then(kv.1,y) else kv) (vs.map fun kv=>if kv.1=k then(kv.1,u) else kv):=by
 unfold KV at r|-
 induction r with
 |nil=>exact .nil
 | @cons p q ps qs h t ih=>
  rw [Za,Za]
  refine .cons ?_ ih
  obtain⟨h1,h2⟩:=h
  by_cases e:p.1=k
  ·rw [if_pos e,if_pos (h1.symm.trans e)];exact⟨h1,ry⟩
  ·rw [if_neg e,if_neg (fun z=>e (h1.trans z))];exact⟨h1,h2⟩
theorem KV.put{kvs:List (U×V)}{vs:List (U×Value)}(r:KV kvs vs)(k:U){y:V}{u:Value}(ry:cC y u):KV (eV kvs k y) (stored vs k u):=by
 unfold eV stored
 rw [r.any k]
 by_cases e:(vs.any fun kv=>decide (kv.1=k))=true
 ·rw [if_pos e,if_pos e];exact r.repl k ry
 ·rw [if_neg e,if_neg e];exact Paired.snoc r ⟨rfl,ry⟩
theorem KV.length{kvs:List (U×V)}{vs:List (U×Value)}(r:KV kvs vs):kvs.length=vs.length:=ZC r
end
theorem zf4{P:Program}{w:World}{k:Key}{u:Value}(r:cC (kV k) u):(eQ P w).is k u=true:=by
 cases k with
 |inl i=>obtain⟨t,e⟩:=(show ∃t,u=Value.int i t from r);subst e;exact zq6 P w i t
 |inr x=>obtain⟨t,e⟩:=(show ∃t,u=Value.str x t from r);subst e;exact zq7 P w x t
theorem zb6{P:Program}{w:World}:∀{ks:List Key} {us:List Value},bN (ks.map kV) us->ItemsAre (eQ P w) ks us
 |[],_,r=>by rw [X1] at r;cases r;exact .nil
 |k::ks,_,r=>by
  rw [Za] at r
  cases r with
  |cons h t=>exact .cons (zf4 h) (zb6 t)
abbrev KT(H:Hp):List (List Key×V)->List (List Key×Addr×Value)->Prop:=Paired fun p q=>p.1=q.1/\H q.2.1=some (.tup (p.1.map kV))/\cC p.2 q.2.2
theorem KT.val{H:Hp}{kvs:List (List Key×V)}{xs:List (List Key×Addr×Value)}(r:KT H kvs xs)(k:List Key):jB (nD kvs k) ((atKey xs k).map (·.2)):=by
 induction r with
 |nil=>exact True.intro
 | @cons p q ps qs h t ih=>
  obtain⟨h1,_,h2⟩:=h
  by_cases e:p.1=k
  ·have e':q.1=k:=h1.symm.trans e
   have b:atKey (q::qs) k=some q.2:=by simp [atKey,Yi,e']
   rw [pR e,b];exact h2
  ·have e':¬q.1=k:=fun z=>e (h1.trans z)
   have b:atKey (q::qs) k=atKey qs k:=by simp [atKey,Yi,e']
   rw [pS e,b];exact ih
theorem KT.repl{H:Hp}{kvs:List (List Key×V)}{xs:List (List Key×Addr×Value)}(r:KT H kvs xs)(k:List Key){y:V}{u:Value}(ry:cC y u):
  KT H (kvs.map fun kv=>if kv.1=k then(kv.1,y) else kv) (xs.map (putAt k u)):=by
 induction r with
 |nil=>exact .nil
 | @cons p q ps qs h t ih=>
  rw [Za,Za]
  refine .cons ?_ ih
  obtain⟨h1,h2,h3⟩:=h
  unfold putAt
  by_cases e:p.1=k
  ·rw [if_pos e,if_pos (h1.symm.trans e)];exact⟨h1,h2,ry⟩
  ·rw [if_neg e,if_neg (fun z=>e (h1.trans z))];exact⟨h1,h2,h3⟩
theorem KT.put{H:Hp}{kvs:List (List Key×V)}{xs:List (List Key×Addr×Value)}(r:KT H kvs xs)(k:List Key){b:Addr}{y:V}{u:Value}(hb:H b=some (.tup (k.map kV)))(ry:cC y u):
  KT H (eV kvs k y) (storedH xs k b u):=by
 have e:(kvs.any fun kv=>decide (kv.1=k))=(atKey xs k).isSome:=by
  rw [sM,(r.val k).isSome_eq,X2]
 unfold eV storedH
 rw [e]
 by_cases q:(atKey xs k).isSome=true
 ·rw [if_pos q,if_pos q];exact r.repl k ry
 ·rw [if_neg q,if_neg q];exact Paired.snoc r ⟨rfl,hb,ry⟩
theorem KT.keeps{H H':Hp}{kvs:List (List Key×V)}{xs:List (List Key×Addr×Value)}(r:KT H kvs xs)(ht:∀b ys,H b=some (.tup ys)->H' b=some (.tup ys)):KT H' kvs xs:=
 Paired.mapP r fun _ _ z=>⟨z.1,ht _ _ z.2.1,z.2.2⟩
section
variable{P:Program}{w:World}{H:Hp}{h:Heap}{a:Addr}
theorem yv3{u:HO}(ok:HOk P w H h)(e:Rd H a u):dA P w H h a u:=e.ok ok
theorem zf5{kvs:List (Key×V)}(ok:HOk P w H h)(e:Rd H a (.dK kvs)):kvs.length<=sizeLine/\(a==sysModules)=false/\∃vs,KV kvs vs/\h.DictOf (eQ P w) a vs:=
 show dA P w H h a (.dK kvs) from yv3 ok e
theorem xn3{kvs:List (Key×V)}(ok:HOk P w H h)(e:H a=some (.dK kvs)):kvs.length<=sizeLine/\(a==sysModules)=false/\∃vs,KV kvs vs/\h.DictOf (eQ P w) a vs:=zf5 ok (.inl e)
theorem xP{ks:List Key}(ok:HOk P w H h)(e:H a=some (.tup (ks.map kV))):(tupleKind (eQ P w)).is h ks a:=by
 obtain⟨_,its,r,o,h1,h2,n,h3⟩:=(show dA P w H h a (.tup (ks.map kV)) from ok a _ e)
 exact⟨o,its.toArray,n,h1,h2,h3,by simpa using zb6 r⟩
theorem zf6{kvs:List (List Key×V)}(ok:HOk P w H h)(e:Rd H a (.dT kvs)):kvs.length<=sizeLine/\(a==sysModules)=false/\
  ∃xs,KT H kvs xs/\h.DictOfH (tupleKind (eQ P w)) a xs:=by
 obtain⟨z,y,xs,r,o,es,ep,h1,h2,h3,h4,h5⟩:=(show dA P w H h a (.dT kvs) from yv3 ok e)
 refine⟨z,y,xs,r,o,es,ep,h1,h2,h3,h4,fun x hx=> ?_,h5⟩
 have all:∀{l:List (List Key×V)} {m:List (List Key×Addr×Value)},KT H l m->∀x∈m,(tupleKind (eQ P w)).is h x.1 x.2.1:=by
  intro l m q
  induction q with
  |nil=>intro x hx;exact nomatch hx
  | @cons p q ps qs hq t ih=>
   intro x hx
   rcases Z8.mp hx with e|hx
   ·subst e
    exact xP ok (by rw [<-hq.1];exact hq.2.1)
   ·exact ih x hx
 exact all r x hx
theorem xn4{kvs:List (List Key×V)}(ok:HOk P w H h)(e:H a=some (.dT kvs)):kvs.length<=sizeLine/\(a==sysModules)=false/\
  ∃xs,KT H kvs xs/\h.DictOfH (tupleKind (eQ P w)) a xs:=zf6 ok (.inl e)
end
def za1(H:Hp)(a:Addr)(y:V)(r:Option V):Prop:=
 (∃kvs k,Rd H a (.dK kvs)/\y=kV k/\r=nD kvs k)\/∃kvs k b,Rd H a (.dT kvs)/\y= .ref b/\H b=some (.tup (k.map kV))/\r=nD kvs k
def xl2(H:Hp)(a:Addr)(y v:V)(H':Hp):Prop:=
 (∃kvs k,H a=some (.dK kvs)/\y=kV k/\kvs.length<sizeLine/\H'=upd H a (.dK (eV kvs k v)))\/
 ∃kvs k b,H a=some (.dT kvs)/\y= .ref b/\H b=some (.tup (k.map kV))/\kvs.length<sizeLine/\H'=upd H a (.dT (eV kvs k v))
section
variable{X:Cx}{pins:tzB}{σ:St}{H:Hp}{s:Shared}{a:Addr}{y v:V}{u r:Value}{o:Option V}{A:Around}{E:Value->Shared->Prop}
theorem Inv.big(I:Inv X pins σ H s):sysModules<s.heap.objs.size:=by
 have h:mainGlobals<s.heap.objs.size:=(I.mod.glob.keeps I.bk).lt
 exact Nat.lt_trans (by decide) h
theorem yf2{Q:Value->Shared->Prop}(hu:A.units+1<cLine)(I:Inv X pins σ H s)(g:za1 H a y (some v))(ry:cC y u)(h:∀w' s',Inv X pins σ H s'->cC v w'->Q w' s'):
  wpAny (model X.prog X.w) A (getItem (.ref a) u) Q E s:=by
 rcases g with ⟨kvs,k,e,ey,l⟩|⟨kvs,k,b,e,ey,eb,l⟩
 ·subst ey
  obtain⟨z,hd,vs,rel,dd⟩:=zf5 I.hok e
  obtain⟨w',hw,rw'⟩:=jB.some_of (v:=v) (o:=valueAt vs k) (by rw [l];exact rel.val k)
  exact wpAny_getItem_of (zf4 ry) dd.mapOf hw (h w' _ (I.tok _) rw')
 ·subst ey
  cases(show u=Value.ref b from ry)
  obtain⟨z,hd,xs,rel,dd⟩:=zf6 I.hok e
  obtain⟨w',hw,rw'⟩:=jB.some_of (v:=v) (o:=(atKey xs k).map (·.2)) (by rw [l];exact rel.val k)
  obtain⟨p,hp,hp2⟩:=Zj.mp hw
  refine wpAny_getItem_heap (Xe hu) (xP I.hok eb) dd hp ?_
  rw [hp2]
  exact h w' _ (I.tok _) rw'
theorem yx9{Q:Value->Shared->Prop}(hu:A.units+1<cLine)(I:Inv X pins σ H s)(g:za1 H a y o)(ry:cC y u)(h:∀s',Inv X pins σ H s'->Q (.bool (!o.isSome)) s'):
  wpAny (model X.prog X.w) A (compareOp .NotIn u (.ref a)) Q E s:=by
 rcases g with ⟨kvs,k,e,ey,l⟩|⟨kvs,k,b,e,ey,eb,l⟩
 ·subst ey
  obtain⟨z,hd,vs,rel,dd⟩:=zf5 I.hok e
  refine wpAny_notIn_of (zf4 ry) hd dd.mapOf ?_
  rw [<-(rel.val k).isSome_eq,<-l]
  exact h _ (I.tok _)
 ·subst ey
  cases(show u=Value.ref b from ry)
  obtain⟨z,hd,xs,rel,dd⟩:=zf6 I.hok e
  refine wpAny_notIn_heap (Xe hu) (xP I.hok eb) hd dd ?_
  have q:=(rel.val k).isSome_eq
  rw [X2] at q
  rw [<-q,<-l]
  exact h _ (I.tok _)
theorem zs4{h':Heap}{t':Nat}{ob:HO}(I:Inv X pins σ H s)(mu:Mut (H a))(hs:Heap.SameBut a s.heap h')(he:∃q,h'.get? a=some q)(new:dA X.prog X.w (upd H a ob) h' a ob):
  Inv X pins σ (upd H a ob) {s with heap:=h',toks:=t'}:=
 I.write (x:=a) (e:=a) mu (.inl rfl) (fun b q hb z=>(hs.2 b hb).trans z) he new
theorem xg5{P:Program}{w:World}{H':Hp}{h':Heap}{kvs:List (Key×V)}{vs:List (Key×Value)}(z:kvs.length<=sizeLine)(hd:(a==sysModules)=false)(rel:KV kvs vs)(dd:h'.DictOf (eQ P w) a vs):
  dA P w H' h' a (.dK kvs):=⟨z,hd,vs,rel,dd⟩
theorem yf3{H':Hp}{Q:Unit->Shared->Prop}(hu:A.units+1<cLine)(I:Inv X pins σ H s)(g:xl2 H a y v H')(ry:cC y u)(rv:cC v r)(h:∀s',Inv X pins σ H' s'->Q () s'):
  wpAny (model X.prog X.w) A (setItem (.ref a) u r) Q E s:=by
 rcases g with ⟨kvs,k,e,ey,l,eH⟩|⟨kvs,k,b,e,ey,eb,l,eH⟩
 ·subst ey eH
  obtain⟨z,hd,vs,rel,dd⟩:=xn3 I.hok e
  have hz:vs.length<=sizeLine:=by rw [<-rel.length];exact z
  have hl:(eV kvs k v).length<=sizeLine:=by have:=wO kvs k v;omega
  refine wpAny_setItem_pairs (hsz:=hz) (zf4 ry) dd fun h' dd' hs=>h _ ?_
  have he:∃q,h'.get? a=some q:=let ⟨q,_,_,hq,_⟩:=dd';⟨q,hq⟩
  exact zs4 I (by rw [e];exact True.intro) hs he (xg5 hl hd (rel.put k rv) dd')
 ·subst ey eH
  cases(show u=Value.ref b from ry)
  obtain⟨z,hd,xs,rel,dd⟩:=xn4 I.hok e
  have hz:xs.length<=sizeLine:=by rw [<-ZC rel];exact z
  have hl:(eV kvs k v).length<=sizeLine:=by have:=wO kvs k v;omega
  refine wpAny_setItem_heap (hsz:=hz) (Xe hu) (xP I.hok eb) dd fun h' dd' hs=>h _ ?_
  obtain⟨q,es,ep,hq,h2,h3,h4,_,h5⟩:=dd'
  refine zs4 I (by rw [e];exact True.intro) hs ⟨q,hq⟩ ⟨hl,hd,_,(rel.put k eb rv).keeps fun c ys ec=> ?_,q,es,ep,hq,h2,h3,h4,h5⟩
  rw [aY (xm4 ec e (fun z=>nomatch z))]
  exact ec
end
def yu2(i:Expr):Prop:=∀ov iv,subscripted i false ov iv=operate [ov,iv] (getItem ov iv)
theorem yy0{prog:Program}{w:World}{A:Around}{E:Value->Shared->Prop}{s:Shared}{env:Env}{value slice:Expr}{pos:Pos}{T id:String}{Q:Value->Shared->Prop}
  (hl:typeLookup (.type T) "__getitem__"=pure (some (.builtin id))) (hs:yu2 slice)
  (h:wpAny (model prog w) A (eval value env) (fun o s₁=>wpAny (model prog w) A (eval slice env) (fun i s₂=>s₂.TypeIs o T/\wpAny (model prog w) A (getItem o i) Q E s₂) E s₁) E s):
  wpAny (model prog w) A (eval (.Subscript value slice pos) env) Q E s:=by
 refine Subscript_ (Y5 h (fun o s₁ h₁=>Y5 h₁ (fun i s₂ h₂=> ?_) fun _ _ x=>x) fun _ _ x=>x)
 obtain⟨hT,h₂⟩:=h₂
 unfold subscriptTail
 refine Zg ?_
 rw [getitemInPython_of_ne hT.not_modules]
 refine Zg (wpAny_specialOf hT hl ?_)
 have fin:wpAny (model prog w) A (subscripted slice false o i) (fun r s₃=>wpAny (model prog w) A (letTemporaryGo value o r>>=fun _=>pure r) Q E s₃) E s₂:=by
  rw [hs o i]
  exact wpAny_operating (Y5 h₂ (fun r s₃ h₃=>Zg (wpAny_letTemporaryGo (ZE h₃))) fun _ _ x=>x)
 first
  |exact ZE (Zg fin)
  |exact Zg (ZE (Zg fin))
  |exact Zg fin
theorem zq8{X:Cx}{pins:tzB}{σ:St}{H:Hp}{s:Shared}{a:Addr}{y:V}{o:Option V}(I:Inv X pins σ H s)(g:za1 H a y o):s.TypeIs (.ref a) "dict":=by
 rcases g with ⟨kvs,k,e,_,_⟩|⟨kvs,k,b,e,_,_,_⟩
 ·obtain⟨_,_,vs,_,dd⟩:=zf5 I.hok e
  exact dd.typeIs
 ·obtain⟨_,_,xs,_,dd⟩:=zf6 I.hok e
  exact dd.typeIs
def xp5(td ty:TE):TE:=fun σ H Q=>td σ H fun x H1=>ty σ H1 fun y H2=>∃a v,x= .ref a/\za1 H2 a y (some v)/\Q v H2
def xe2(ty td:TE):TE:=fun σ H Q=>ty σ H fun y H1=>td σ H1 fun x H2=>∃a o,x= .ref a/\za1 H2 a y o/\Q (.bl (!o.isSome)) H2
def xp6(td ty tv:TE):TS:=fun D σ H=>tv σ H fun v H1=>td σ H1 fun x H2=>ty σ H2 fun y H3=>∃a H4,x= .ref a/\xl2 H3 a y v H4/\D.nx σ H4
section
variable{X:Cx}{o i e value:Expr}{pos pos' tpos:Pos}{td ty tv:TE}
theorem yy1(hu:X.A.units+1<cLine)(ho:PE X o td)(hi:PE X i ty)(hs:yu2 i):PE X (.Subscript o i pos) (xp5 td ty):=⟨by
 intro pins s σ H Q I h
 refine yy0 PySem.F.slot_dict_getitem.lookup hs (thn (ho pins s σ H _ I h) fun u s1 ⟨x,H1,I1,rx,q1⟩=>thn (hi pins s1 σ H1 _ I1 q1) fun iv s2 ⟨y,H2,I2,ry,a,v,ex,g,q2⟩=> ?_)
 subst ex
 obtain rfl:u=Value.ref a:=rx
 exact⟨zq8 I2 g,yf2 hu I2 g ry fun w' s3 I3 rw'=>⟨v,H2,I3,rw',q2⟩⟩⟩
theorem yf4(hu:X.A.units+1<cLine)(hi:PE X i ty)(ho:PE X o td):PC X .NotIn i o (xe2 ty td):=by
 intro pins s σ H Q I h
 refine thn (hi pins s σ H _ I h) fun iv s1 ⟨y,H1,I1,ry,q1⟩=>thn (ho pins s1 σ H1 _ I1 q1) fun u s2 ⟨x,H2,I2,rx,a,ov,ex,g,q2⟩=> ?_
 subst ex
 obtain rfl:u=Value.ref a:=rx
 exact yx9 hu I2 g ry fun s3 I3=>⟨.bl (!ov.isSome),H2,I3,rfl,q2⟩
theorem yy2(hu:X.A.units+1<cLine)(ho:PE X o td)(hi:PE X i ty)(hv:PE X value tv)(hs:swapsWith value (some (.Subscript o i pos')) pos.line X.env=pure false):
  PS X (.Assign [.Subscript o i pos'] value pos) (xp6 td ty tv):=⟨by
 intro pins s σ H D I h
 refine wpAny_Assign_Subscript (thn (hv pins s σ H _ I h) fun r s1 ⟨v,H1,I1,rv,q1⟩=>thn (ho pins s1 σ H1 _ I1 q1) fun u s2 ⟨x,H2,I2,rx,q2⟩=>thn (hi pins s2 σ H2 _ I2 q2) fun iv s3 ⟨y,H3,I3,ry,a,H4,ex,g,q3⟩=> ?_) hs
 subst ex
 obtain rfl:u=Value.ref a:=rx
 exact yf3 hu I3 g ry rv fun s4 I4=>⟨σ,H4,I4,q3⟩⟩
end
theorem yn5{P:Program}{w:World}{H:Hp}(h:Heap)(hb:sysModules<h.objs.size):dA P w H (h.push {cls:= .type "dict",data:= .dict #[]}) h.objs.size (.dT []):=
 ⟨ZI _,ZZ.mpr (Y6 (ZG hb)),[],.nil,_,#[],0,Zw _ rfl,⟨rfl,rfl,rfl⟩,rfl,rfl,Zf⟩
def xl3:TE:=fun _ H Q=>∀p,H p=none->Q (.ref p) (upd H p (.dT []))
section
variable{X:Cx}{pos:Pos}
theorem yn6:PE X (.Dict [] [] pos) xl3:=⟨fun pins s σ H Q I h=>
 wpAny_Dict_empty ⟨.ref s.heap.objs.size,_,I.laid (a:=s.heap.objs.size) (o:= .dT []) (t':=s.toks) (fun _ _ q=>Zk _ q) (Z9 _) (yn5 s.heap I.big),rfl,h _ (I.hok.fresh (Z9 _))⟩⟩
end
structure Dn(K:tz0)(mg:tzA)(x:Str)(st:Stmt)(ps:List Str)(f:Addr)(fd:FuncData):Prop where
 F:Fun K x x st f fd
 b:kP K fd ps []
 m:mg x=some (.ref f)
section
variable{X:Cx}{x:Str}{st:Stmt}{ps:List Str}{f:Addr}{fd:FuncData}{k:Nat}{sp:Sp}{p pos:Pos}{e:Expr}{es:List Expr}{t:TA}
theorem zx4(D:Dn X.K X.mg x st ps f fd)(G:FnOk X.prog X.w X.K X.mg X.base CX0 k f fd ps sp)(hr:Room k X.A)(hg:Gl X x)(ha:PA X (e::es) t)
  (hdb:NDb x:=by decide) (he:StE e es X:=by rfl) (hpl:BkE pos es X:=by rfl):
  PE X (.Call (.Name x p) (e::es) [] pos) (zg3 sp [] E0 t):=yx4 G hr hg D.m D.F.kp D.b .nil xO ha hdb he hpl
theorem xg6(D:Dn X.K X.mg x st ps f fd)(G:FnOk X.prog X.w X.K X.mg X.base CX0 k f fd ps sp)(hr:Room k X.A)(hg:Gl X x)
  (hdb:NDb x:=by decide):PE X (.Call (.Name x p) [] [] pos) (zg3 sp [] E0 yu0):=ym9 G hr hg D.m D.F.kp D.b .nil xO hdb
end
theorem yn7{H:Hp}{p:Addr}(h:H p=none)(o:HO):yb3 H (upd H p o):=fun b u q=>by rw [aY (kJ q h)];exact q
theorem xQ{n:Nat}(h:n<=1000):n<=sizeLine:=YI (uH h)
def sF(H:Hp):V->Option String
 | .non=>some "NoneType"
 | .bl _=>some "bool"
 | .int _=>some "int"
 | .str _=>some "str"
 | .ref a=>match H a with
  |some (.lst _)=>some "list"
  |some (.frz _ (.lst _))=>some "list"
  |some (.tup _)=>some "tuple"
  |some (.dK _)=>some "dict"
  |_=>none
 |_=>none
def yR(t c:String):Bool:=decide (t=c)||(decide (t="bool")&&decide (c="int"))
def kinds:List String:=["NoneType","bool","int","str","list","tuple","dict"]
theorem zj2(K:tz0):∀t∈kinds,∀c∈["bool","int","str","list","tuple","dict"],PySem.W.kitOne K (.type t) (.type c)=some (yR t c):=by
 intro t ht c hc
 simp only [kinds,Z8,ZK,YF] at ht hc
 rcases ht with rfl|rfl|rfl|rfl|rfl|rfl|rfl<;>rcases hc with rfl|rfl|rfl|rfl|rfl|rfl<;>rfl
theorem yf5{K:tz0}{H:Hp}{x:V}{t:String}(h:sF H x=some t):TyOf K H x (.type t)/\t∈kinds:=by
 cases x with
 |non=>cases h;exact⟨.non,by decide⟩
 |bl b=>cases h;exact⟨.bl b,by decide⟩
 |int i=>cases h;exact⟨.int i,by decide⟩
 |str x=>cases h;exact⟨.str x,by decide⟩
 | ref a=>
  have h':(match H a with
   |some (.lst _)=>some "list"
   |some (.frz _ (.lst _))=>some "list"
   |some (.tup _)=>some "tuple"
   |some (.dK _)=>some "dict"
   |_=>none)=some t:=h
  cases e:H a with
  |none=>rw [e] at h';cases h'
  | some o=>
   rw [e] at h'
   cases o with
   |lst xs=>cases h';exact⟨.lst e,by decide⟩
   |tup xs=>cases h';exact⟨.tup e,by decide⟩
   |dK kvs=>cases h';exact⟨.dK e,by decide⟩
   |frz ob u=>
    cases u with
    |lst xs=>cases h';exact⟨.frz e,by decide⟩
    |_=>cases h'
   |_=>cases h'
 |_=>cases h
section
variable{X:Cx}
theorem yn8:CallR X (.builtin "isinstance") (fun xs H Q=>∃x c t,xs=[x,.ty c]/\sF H x=some t/\c∈["bool","int","str","list","tuple","dict"]/\Q (.bl (yR t c)) H):=⟨by
 intro pins s σ H xs us Q I r h
 obtain⟨x,c,t,rfl,ht,hc,q⟩:=h
 obtain⟨u,v,rfl,rx,rc⟩:=zf2 r
 cases(show v=Value.type c from rc)
 obtain⟨ty,hk⟩:=yf5 (K:=X.K) ht
 exact ye1 I rx ty (zj2 X.K t hk c hc) fun tk=>⟨.bl (yR t c),H,I.tok tk,rfl,q⟩⟩
theorem zj3:∀{ns:List Int} {us:List Value},bN (ns.map V.int) us->IntsAre us ns
 |[],_,.nil=> .nil
 |n::ns,_,.cons r t=>by
  obtain⟨k,rfl⟩:=r
  exact .cons n k (zj3 t)
end
theorem sN{env:Env}:∀(names:List (Str×NameKind)) (cs:List (Str×Addr)),
  (∀y∈names,y.2= .free->∃c,env.cells.lookup y.1=some c)->(∀x c,cs.lookup x=some c->env.cells.lookup x=some c)->
  ∃ cl,(forIn names cs fun(y:Str×NameKind) (r:List (Str×Addr))=>
    (if (y.2== .free)=true then(do let a<-cellOf env y.1;pure (ForInStep.yield ((y.1,a)::r))) else pure (ForInStep.yield r):Sem (ForInStep (List (Str×Addr)))))=pure cl/\
   (∀x c,cl.lookup x=some c->env.cells.lookup x=some c)/\(∀x c,cs.lookup x=some c->∃c',cl.lookup x=some c')/\(∀y∈names,y.2= .free->∃c,cl.lookup y.1=some c)
 |[],cs,_,hc=>⟨cs,rfl,hc,fun x c h=>⟨c,h⟩,fun y hy=>absurd hy (ZK)⟩
 | (n,k)::r,cs,hn,hc=>by
  have hr:∀y∈r,y.2= .free->∃c,env.cells.lookup y.1=some c:=fun y hy=>hn y (Z1 _ hy)
  by_cases hk:k= .free
  ·subst hk
   obtain⟨c,e⟩:=hn (n,.free) Z0 rfl
   have hc':∀x c',((n,c)::cs).lookup x=some c'->env.cells.lookup x=some c':=fun x c' h=>by
    rw [Zx] at h
    cases hx:x==n with
    |true=>
     rw [hx] at h
     have e1:x=n:=by simpa using hx
     have e2:c=c':=Zz h
     rw [e1,<-e2];exact e
    |false=>rw [hx] at h;exact hc x c' h
   obtain⟨cl,h1,h2,h3,h4⟩:=sN (env:=env) r ((n,c)::cs) hr hc'
   refine⟨cl,?_,h2,fun x c' h=> ?_,fun y hy hf=> ?_⟩
   ·rw [List.forIn_cons]
    have e0:cellOf env n=pure c:=by unfold cellOf;rw [e]
    simp only [e0]
    exact h1
   ·cases hx:x==n with
    |true=>
     have e1:x=n:=by simpa using hx
     exact h3 x c (by rw [Zx,hx])
    |false=>exact h3 x c' (by rw [Zx,hx];exact h)
   ·rcases Z8.mp hy with e1|hy
    ·rw [e1];exact h3 n c (by rw [Zx];simp)
    ·exact h4 y hy hf
  ·obtain⟨cl,h1,h2,h3,h4⟩:=sN (env:=env) r cs hr hc
   refine⟨cl,?_,h2,h3,fun y hy hf=> ?_⟩
   ·rw [List.forIn_cons]
    have e0:(k==NameKind.free)=false:=by simpa using hk
    simp only [e0]
    exact h1
   ·rcases Z8.mp hy with e1|hy
    ·rw [e1] at hf;exact absurd hf hk
    ·exact h4 y hy hf
theorem zx5{env:Env}{scope:Scope}(h:∀y∈scope.names,y.2= .free->∃c,env.cells.lookup y.1=some c):
  ∃cl,closureFor scope env=pure cl/\(∀x c,cl.lookup x=some c->env.cells.lookup x=some c)/\(∀y∈scope.names,y.2= .free->∃c,cl.lookup y.1=some c):=by
 obtain⟨cl,h1,h2,_,h4⟩:=sN (env:=env) scope.names [] h (fun x c e=>by simp at e)
 refine⟨cl,?_,h2,h4⟩
 have e:((forIn scope.names [] fun(y:Str×NameKind) (r:List (Str×Addr))=>
    (if (y.2== .free)=true then(do let a<-cellOf env y.1;pure (ForInStep.yield ((y.1,a)::r))) else pure (ForInStep.yield r):Sem (ForInStep (List (Str×Addr)))))>>=fun s=>pure s)=pure cl:=by rw [h1];rfl
 exact e
structure CScope(sc:Scope)(NX N:List Str)(pick:List (Option Nat))(scope:Scope):Prop where
 kind:scope.kind= .function
 nocell:∀y∈scope.names,y.2≠ .cell
 names:∀y∈scope.names,y.2= .local->scope.names.lookup y.1=some .local
 frees:∀y∈scope.names,y.2= .free->sc.names.lookup y.1=some .cell\/sc.names.lookup y.1=some .free
 pk:∀p∈N.zip pick,∀j∈p.2,NX[j]? =some p.1/\scope.names.lookup p.1=some .free
 nd:N.Nodup
 len:pick.length=N.length
def oM(pick:List (Option Nat))(σ:St):St:=pick.map fun o=>o.bind fun j=>(σ[j]?).join
def cxB(X:Cx)(N:List Str)(scope:Scope)(cl:List (Str×Addr))(fp:List Addr)(s:Shared)(H:Hp):Cx where
 prog:=X.prog
 w:=X.w
 K:=X.K
 mg:=X.mg
 base:=X.base
 A:=X.A
 N:=N
 s₀:=s
 H₀:=H
 env:=compEnvC scope cl s.heap.objs.size X.env
 outer:=X.stack
 stack:=X.stack
 ex:=fp
 fn:=fun _=>false
 calm:=X.calm
 pn:=[]
 xe:=fun _ _=>False
def xl4(X:Cx)(ifs:List Expr)(t:TT):Prop:=
 ∀(pins:tzB) (s:Shared) (σ:St) (H:Hp) (Q:Bool->Hp->Prop),Inv X pins σ H s->t σ H Q->
  wpAny (model X.prog X.w) X.A (forIn ifs true fun c r=>if r=true then do let ok<-isTrue c X.env (eval c X.env);pure (ForInStep.yield ok) else pure (ForInStep.yield r)) (TP X pins σ Q) X.xe s
structure PTs(X:Cx)(ifs:List Expr)(t:TT):Prop where
 go:xl4 X ifs t
instance {X:Cx} {ifs:List Expr} {t:TT}:CoeFun (PTs X ifs t) fun _=>xl4 X ifs t:=⟨PTs.go⟩
def xs7:TT:=fun _ H Q=>Q true H
theorem xg7{X:Cx}:PTs X [] xs7:=⟨fun pins s σ H Q I h=>wpAny_tests_nil ⟨H,I,h⟩⟩
section
variable{prog:Program}{w:World}{A:Around}{R:Result->Shared->Prop}{s:Shared}
theorem yf6{elt target iter:Expr}{ifs:List Expr}{scope:Scope}{pos:Pos}{it acc:Value}{env:Env}(I:Nat->Shared->Prop)
  (turn:∀n s,I n s->wpAny (model prog w) A (pyNext it) (fun r s1=>match r with
   |none=>R (.ok .next) s1
   | some v=>wpAny (model prog w) A (letOwnedTupleGo target it v) (fun _ s1=>wpAny (model prog w) A (assign target env v) (fun _ s2=>
     wpAny (model prog w) A (forIn ifs true fun c r=>if r=true then do let ok<-isTrue c env (eval c env);pure (ForInStep.yield ok) else pure (ForInStep.yield r)) (fun ok s3=>
      if ok=true then wpAny (model prog w) A (eval elt env) (fun x s4=>
       wpAny (model prog w) A (call (.builtin "list.append") [acc,x]) (fun _ s5=>∃m,m<n/\I m s5) (fun _ _=>False) s4) (fun _ _=>False) s3
      else ∃m,m<n/\I m s3) (fun _ _=>False) s2) (fun _ _=>False) s1) (fun _ _=>False) s1) (fun _ _=>False) s)
  (n:Nat) (h:I n s):codeAny (model prog w) A (.compLoop (.ListComp elt [⟨target,iter,ifs,0⟩] scope pos) 0 it acc env) R s:=by
 refine codeAny_loop rfl I (fun n s hI=> ?_) n h
 show wpAny _ A ((compTurn (.ListComp elt [⟨target,iter,ifs,0⟩] scope pos) 0 it acc env).onRaise (fun x=>do noteFrame x env;theTreesLotGoes x)) _ _ s
 refine wpAny_noted ?_
 rw [compTurn_list]
 refine Zg (XL (Zg (Y5 (turn n s hI) (fun r s1 h1=> ?_) fun _ _ z=>z.elim)))
 cases r with
 |none=>exact ZE h1
 | some v=>
  refine Zg (Y5 h1 (fun _ s1 h1=>Zg (Y5 h1 (fun _ s2 h2=>Zg (Y5 h2 (fun ok s3 h3=> ?_) fun _ _ z=>z.elim)) fun _ _ z=>z.elim)) fun _ _ z=>z.elim)
  cases ok with
  |false=>exact ZE ⟨rfl,h3⟩
  |true=>
   exact Zg (Zg (Y5 h3 (fun x s4 h4=>Zg (Y5 h4 (fun _ s5 h5=>ZE (ZE ⟨rfl,h5⟩)) fun _ _ z=>z.elim)) fun _ _ z=>z.elim))
end
def xl5(pick:List (Option Nat))(wi:TI)(g:TG)(tt:TT)(te:TE)(σ:St)(H:Hp)(Q:Addr->Hp->Prop):Prop:=wi σ H fun J H1=>∀D,H1 D=none->
 ∃ W:Nat->Nat->St->Hp->Prop,(∃m,W 0 m (oM pick σ) (upd H1 D (.lst [])))/\∀i m σ' H',W i m σ' H'->
  (J.stop i H'/\Q D H')\/(J.go i H'/\∀x H2,J.yld i H' x H2->g x σ' H2 fun σ3 H3=>tt σ3 H3 fun b H4=>
   if b=true then te σ3 H4 fun y H5=>∃ys,H5 D=some (.lst ys)/\ys.length<sizeLine/\∃m',m'<m/\W (i+1) m' σ3 (upd H5 D (.lst (ys++[y]))) else ∃m',m'<m/\W (i+1) m' σ3 H4)
def xp7(pick:List (Option Nat))(wi:TI)(g:TG)(tt:TT)(te:TE):TE:=fun σ H Q=>xl5 pick wi g tt te σ H fun D H'=>Q (.ref D) H'
section
variable{X:Cx}{sc:Scope}{NX N:List Str}{pick:List (Option Nat)}{elt tg iter:Expr}{ifs:List Expr}{scope:Scope}{pos:Pos}{wi:TI}{g:TG}{tt:TT}{te:TE}
theorem gT{env:Env}:∀{names:List (Str×NameKind)} {x:Str} {k:NameKind},(∀y∈names,y.2≠ .cell)->
  (names.map fun(n,k)=>if (k==NameKind.free&&env.scope.kind== .function&&env.kindOf n==some .cell) then(n,NameKind.cell) else(n,k)).lookup x=some k->(k= .cell\/k= .free)->(x,NameKind.free)∈names
 |[],_,_,_,h,_=>by simp at h
 | (n,k0)::r,x,k,hn,h,hk=>by
  have hr:∀y∈r,y.2≠ .cell:=fun y hy=>hn y (Z1 _ hy)
  have h':List.lookup x ((if (k0==NameKind.free&&env.scope.kind== .function&&env.kindOf n==some .cell)=true then(n,NameKind.cell) else(n,k0))::(r.map fun(n,k)=>if (k==NameKind.free&&env.scope.kind== .function&&env.kindOf n==some .cell) then(n,NameKind.cell) else(n,k)))=some k:=h
  by_cases hc:(k0==NameKind.free&&env.scope.kind== .function&&env.kindOf n==some .cell)=true
  ·rw [if_pos hc,Zx] at h'
   cases hx:x==n with
   | true=>
    have e1:x=n:=by simpa using hx
    have e2:k0= .free:=by
     simp only [ZF,Yr] at hc
     exact hc.1.1
    rw [e1,e2];exact Z0
   |false=>rw [hx] at h';exact Z1 _ (gT hr h' hk)
  ·rw [if_neg hc,Zx] at h'
   cases hx:x==n with
   | true=>
    rw [hx] at h'
    have e1:x=n:=by simpa using hx
    have e2:k0=k:=Zz h'
    have e3:k0= .free:=by
     rcases hk with z|z
     ·exact absurd (e2.trans z) (hn (n,k0) Z0)
     ·exact e2.trans z
    rw [e1,e3];exact Z0
   |false=>rw [hx] at h';exact Z1 _ (gT hr h' hk)
theorem qN{env:Env}:∀{names:List (Str×NameKind)} {x:Str},names.lookup x=some .free->
  (names.map fun(n,k)=>if (k==NameKind.free&&env.scope.kind== .function&&env.kindOf n==some .cell) then(n,NameKind.cell) else(n,k)).lookup x=some .cell\/
  (names.map fun(n,k)=>if (k==NameKind.free&&env.scope.kind== .function&&env.kindOf n==some .cell) then(n,NameKind.cell) else(n,k)).lookup x=some .free
 |[],_,h=>by simp at h
 | (n,k0)::r,x,h=>by
  have ih:= @qN env r x
  show List.lookup x ((if (k0==NameKind.free&&env.scope.kind== .function&&env.kindOf n==some .cell)=true then(n,NameKind.cell) else(n,k0))::_)=_\/List.lookup x ((if (k0==NameKind.free&&env.scope.kind== .function&&env.kindOf n==some .cell)=true then(n,NameKind.cell) else(n,k0))::_)=_
  rw [Zx] at h
  cases hx:x==n with
  |true=>
   rw [hx] at h
   have e:k0= .free:=Zz h
   subst e
   by_cases hc:(NameKind.free==NameKind.free&&env.scope.kind== .function&&env.kindOf n==some .cell)=true
   ·rw [if_pos hc];left;rw [Zx,hx]
   ·rw [if_neg hc];right;rw [Zx,hx]
  | false=>
   rw [hx] at h
   rcases ih h with z|z
   ·left
    by_cases hc:(k0==NameKind.free&&env.scope.kind== .function&&env.kindOf n==some .cell)=true
    ·rw [if_pos hc,Zx,hx];exact z
    ·rw [if_neg hc,Zx,hx];exact z
   ·right
    by_cases hc:(k0==NameKind.free&&env.scope.kind== .function&&env.kindOf n==some .cell)=true
    ·rw [if_pos hc,Zx,hx];exact z
    ·rw [if_neg hc,Zx,hx];exact z
theorem yf7{pins:tzB}{σ:St}{H:Hp}{s:Shared}{cl:List (Str×Addr)}{fp:List Addr}{h':Heap}{tk:Nat}(S:CScope sc NX N pick scope)(hsc:X.env.scope=sc)(hNX:X.N=NX)
  (I:Inv X pins σ H s) (hf:∀b∈fp,mO X pins H b) (ho:∀b∈fp,∃o,s.heap.get? b=some o)
  (c1:∀x c,cl.lookup x=some c->X.env.cells.lookup x=some c) (c2:∀y∈scope.names,y.2= .free->∃c,cl.lookup y.1=some c)
  (hns:h'.Ns s.heap.objs.size fun _=>none) (hk:∀b o,s.heap.get? b=some o->h'.get? b=some o):
  Inv (cxB X N scope cl fp s H) [] (oM pick σ) H {s with heap:=h',toks:=tk}:=by
 have lt:∀b∈fp,b<s.heap.objs.size:=fun b hb=>by obtain⟨o,e⟩:=ho b hb;exact Zn e
 refine⟨⟨I.ok.mod,S.kind,I.ok.glob,I.ok.blt,Z9 _,fun x y c h1 h2=>I.ok.inj x y c (c1 x c h1) (c1 y c h2),fun x hx=> ?_,fun x c z=>absurd z (by simp [cxB]),I.ok.hd,I.ok.frames,.inl rfl,
  fun b hb=>⟨ZG (lt b hb),fun x c e=>(hf b hb).2.2.2.2.1 x c (c1 x c e)⟩,I.bs,ZD I.ok.bsz I.sz,fun b o e hb=> ?_,fun b hb z=> ?_,I.stack,I.stkFree⟩,
  rfl,I.bare,Un.kept hk,⟨_,hns,fun i x v h1 h2 h3=> ?_⟩,fun x c e=> ?_,I.hok.fresh (Z9 _),fun x c e=>I.freeC x c (c1 x c e),fun p hp=>absurd (show p∈([]:tzB) from hp) (by simp),I.hok.kept hk,?_⟩
 ·have hx':(relabel scope X.env).names.lookup x=some .cell\/(relabel scope X.env).names.lookup x=some .free:=hx
  have hm:(x,NameKind.free)∈scope.names:=by
   rcases hx' with z|z
   ·exact gT S.nocell z (.inl rfl)
   ·exact gT S.nocell z (.inr rfl)
  exact c2 _ hm rfl
 ·rcases(hf b hb).2.2.2.1 with z|z
  ·exact I.ok.noex b o e z
  ·exact absurd (Zt (Zn e) (ZD I.ok.bsz z)) (ZY _)
 ·rcases Z8.mp (I.stkSub b z) with z|z
  ·exact(hf b hb).2.1 z
  ·exact(hf b hb).2.2.1 z
 ·
  have hN':N[i]? =some x:=h1
  have h2':(oM pick σ)[i]? =some (some v):=h2
  unfold oM at h2'
  rw [Zi] at h2'
  cases ep:pick[i]? with
  |none=>rw [ep] at h2';cases h2'
  | some o=>
   rw [ep] at h2'
   cases o with
   |none=>cases h2'
   | some j=>
    have h4:(σ[j]?).join=some v:=Zz h2'
    have h5:σ[j]? =some (some v):=by
     cases e:σ[j]? with
     |none=>rw [e] at h4;cases h4
     |some q=>rw [e] at h4;exact ZP some h4
    have hz:(x,some j)∈N.zip pick:=by
     refine ZT (i:=i) ?_
     rw [List.getElem?_zip_eq_some];exact⟨hN',ep⟩
    obtain⟨h6,h7⟩:=S.pk _ hz j rfl
    have hfr:(x,NameKind.free)∈scope.names:=Y2 h7
    have hcf:=S.frees _ hfr rfl
    have hcf':X.env.kindOf x=some .cell\/X.env.kindOf x=some .free:=by
     show X.env.scope.names.lookup x=_\/X.env.scope.names.lookup x=_
     rw [hsc];exact hcf
    obtain⟨m,hn,hl⟩:=I.loc
    obtain⟨u,ru,lk⟩:=hl j x v (by rw [hNX];exact h6) h5 (.inr hcf')
    refine⟨u,ru,.inr ⟨qN h7,?_⟩⟩
    obtain⟨c,ec⟩:=c2 _ hfr rfl
    refine⟨c,ec,?_⟩
    rcases lk with ⟨k1,_⟩|⟨_,c',ec',hcell⟩
    ·rcases hcf' with z|z
     ·rw [k1] at z;cases z
     ·rw [k1] at z;cases z
    ·have e':=c1 x c ec
     rw [ec'] at e'
     cases e'
     obtain⟨o,e1,e2⟩:=hcell
     exact⟨o,hk _ _ e1,e2⟩
 ·obtain⟨v,o,e1,e2⟩:=I.cell x c (c1 x c e)
  exact⟨v,o,hk _ _ e1,e2⟩
 ·show(oM pick σ).length=N.length
  unfold oM
  rw [Zd];exact S.len
theorem zx6{pins:tzB}{σ σ':St}{H H':Hp}{s s':Shared}{cl:List (Str×Addr)}{fp:List Addr}(I:Inv X pins σ H s)(hf:∀b∈fp,mO X pins H b)
  (J:Inv (cxB X N scope cl fp s H) [] σ' H' s'):Inv X pins σ H' s':=
 I.call' (ch:=fp) J.os J.base J.hok J.bare fun b hb=>⟨(hf b hb).2.2.2.1,(hf b hb).2.1,(hf b hb).2.2.2.2.1,(hf b hb).2.2.2.2.2⟩
theorem zx7{pins:tzB}{σ:St}{H2:Hp}{s2:Shared}{cl:List (Str×Addr)}{J:It}{fp:List Addr}{it:Addr}{tn:Nat->Heap->Prop}{RR:Value->Addr->Result->Shared->Prop}{E:Value->Shared->Prop}{Q:Addr->Hp->Prop}
  (S:CScope sc NX N pick scope) (hsc:X.env.scope=sc) (hNX:X.N=NX) (hc:X.calm=true)
  (hg:∀cl fp s H,PG (cxB X N scope cl fp s H) tg g) (ht:∀cl fp s H,PTs (cxB X N scope cl fp s H) ifs tt) (he:∀cl fp s H,PE (cxB X N scope cl fp s H) elt te)
  (I2:Inv X pins σ H2 s2) (T:Turn X.prog X.w X.K tg J fp it tn) (st2:tn 0 s2.heap) (f2:∀b∈fp,mO X pins H2 b)
  (c1:∀x c,cl.lookup x=some c->X.env.cells.lookup x=some c) (c2:∀y∈scope.names,y.2= .free->∃c,cl.lookup y.1=some c)
  (q:∀D,H2 D=none->∃W:Nat->Nat->St->Hp->Prop,(∃m,W 0 m (oM pick σ) (upd H2 D (.lst [])))/\∀i m σ' H',W i m σ' H'->
   (J.stop i H'/\Q D H')\/(J.go i H'/\∀x H2,J.yld i H' x H2->g x σ' H2 fun σ3 H3=>tt σ3 H3 fun b H4=>
    if b=true then te σ3 H4 fun y H5=>∃ys,H5 D=some (.lst ys)/\ys.length<sizeLine/\∃m',m'<m/\W (i+1) m' σ3 (upd H5 D (.lst (ys++[y]))) else ∃m',m'<m/\W (i+1) m' σ3 H4))
  (fin:∀D C H' s',Inv X pins σ H' s'->H' C=none->X.s₀.heap.objs.size<=C->C≠X.env.locals->(∀x c,X.env.cells.lookup x=some c->c≠C)->(∀p∈X.pn++pins,p.1≠C)->(∃m,s'.heap.Ns C m)->Q D H'->RR (.ref D) C (.ok .next) s'):
  wpAny (model X.prog X.w) X.A (newList []) (fun acc s3=>wpAny (model X.prog X.w) X.A (newFunctionEnv scope X.env.globals cl [] X.env.qual none .none (some X.env)) (fun cenv s4=>
   codeAny (model X.prog X.w) X.A (.compStart (.ListComp elt [⟨tg,iter,ifs,0⟩] scope pos) 0 (.ref it) acc {cenv with scope:=relabel scope X.env}) (RR acc cenv.locals) s4) E s3) E s2:=by
 have hD:H2 s2.heap.objs.size=none:=I2.hok.fresh (Z9 _)
 obtain⟨W,⟨m0,w0⟩,turn⟩:=q _ hD
 refine YK (wpAny_newFunctionEnv S.nocell (by intro y hy;simp at hy) (fun h1 hns hsb=> ?_) S.kind)
 have I3:Inv X pins σ (upd H2 s2.heap.objs.size (.lst [])) {s2 with heap:=s2.heap.push {cls:= .type "list",dict:=none,data:= .seq ([]:List Value).toArray}}:=
  I2.lnew (t':=s2.toks) (its:=[]) (ys:=[]) .nil (ZI _)
 have ne:∀b∈fp,b≠s2.heap.objs.size:=fun b hb z=>by
  obtain⟨o,e,_⟩:=T.obj _ _ st2 b hb
  exact absurd (Zn e) (by rw [z];exact ZY _)
 have f3:∀b∈fp,mO X pins (upd H2 s2.heap.objs.size (.lst [])) b:=fun b hb=>⟨by rw [aY (ne b hb)];exact(f2 b hb).1,(f2 b hb).2⟩
 have ho3:∀b∈fp,∀o,s2.heap.get? b=some o->(s2.heap.push {cls:= .type "list",dict:=none,data:= .seq ([]:List Value).toArray}).get? b=some o:=fun b _ o e=>Zk _ e
 have st3:=T.keep _ _ _ st2 ho3
 generalize hH3:s2.heap.push {cls:= .type "list",dict:=none,data:= .seq ([]:List Value).toArray}=H3 at hns hsb I3 ho3 st3|-
 dsimp only at hns hsb|-
 have hk:∀b o,H3.get? b=some o->h1.get? b=some o:=fun b o e=>hsb.extBut b o (ZG (Zn e)) (Zk _ e)
 have B0:Inv (cxB X N scope cl fp {s2 with heap:=H3} (upd H2 s2.heap.objs.size (.lst []))) [] (oM pick σ) (upd H2 s2.heap.objs.size (.lst [])) {s2 with heap:=h1,toks:=s2.toks+([]:List (Str×Value)).length}:=
  yf7 (s:={s2 with heap:=H3}) S hsc hNX I3 f3 (fun b hb=>by obtain⟨o,e,_⟩:=T.obj _ _ st3 b hb;exact⟨o,e⟩) c1 c2 hns hk
 have st4:tn 0 h1:=T.keep _ _ _ st3 fun b _ o e=>hk b o e
 have fpY:∀{H':Hp},(∀b∈fp,H' b=none)->∀b∈fp,mO (cxB X N scope cl fp {s2 with heap:=H3} (upd H2 s2.heap.objs.size (.lst []))) [] H' b:=fun hn b hb=>
  ⟨hn b hb,(B0.ok.exf b hb).1,B0.ok.exfs b hb,.inl hb,(B0.ok.exf b hb).2,fun p hp=>absurd (show p∈([]:tzB) from hp) (by simp)⟩
 have loop:∀s4:Shared,s4={s2 with heap:=h1,toks:=s2.toks+([]:List (Str×Value)).length}->
   codeAny (model X.prog X.w) X.A (.compLoop (.ListComp elt [⟨tg,iter,ifs,0⟩] scope pos) 0 (.ref it) (.ref s2.heap.objs.size) (compEnvC scope cl H3.objs.size X.env)) (RR (.ref s2.heap.objs.size) H3.objs.size) s4:=by
  rintro s4 rfl
  refine yf6 (fun n s'=>∃i σ' H',Inv (cxB X N scope cl fp {s2 with heap:=H3} (upd H2 s2.heap.objs.size (.lst []))) [] σ' H' s'/\tn i s'.heap/\(∀b∈fp,H' b=none)/\W i n σ' H') ?_ m0
   ⟨0,_,_,B0,st4,fun b hb=>(f3 b hb).1,w0⟩
  rintro n s5 ⟨i,σ5,H5,I5,st5,fr5,w5⟩
  rcases turn i n σ5 H5 w5 with ⟨stop,qn⟩|⟨go,step⟩
  ·refine thn (T.done (cxB X N scope cl fp {s2 with heap:=H3} (upd H2 s2.heap.objs.size (.lst []))) rfl rfl rfl hc i [] s5 σ5 H5 _ I5 (fpY fr5) st5 stop) fun r s6 ⟨hr,I6⟩=> ?_
   subst hr
   obtain⟨m,hm,_⟩:=I6.loc
   have sz:X.s₀.heap.objs.size<=H3.objs.size:=I3.sz
   refine fin _ _ H5 s6 (zx6 I3 f3 I6) I6.free sz (Xy I3.lt) (fun x c e z=> ?_) (fun p hp z=> ?_) ⟨m,hm⟩ qn
   ·obtain⟨v,z2⟩:=I3.cell x c e
    exact absurd z2.lt (by rw [z];exact ZY _)
   ·exact absurd (Zn (I3.pin p hp).1) (by rw [z];exact ZY _)
  ·refine thn (T.item (cxB X N scope cl fp {s2 with heap:=H3} (upd H2 s2.heap.objs.size (.lst []))) rfl rfl rfl hc i [] s5 σ5 H5 _ I5 (fpY fr5) st5 go) fun r s6 ⟨u,hr,h6⟩=> ?_
   subst hr
   refine thn h6 fun _ s7 ⟨x,H7,I7,r7,y7,st7,fr7⟩=> ?_
   have I7':=I7.pinned (fpY fr7) (T.obj _ _ st7)
   have back:∀{σ8:St} {H8:Hp} {s8:Shared},Inv (cxB X N scope cl fp {s2 with heap:=H3} (upd H2 s2.heap.objs.size (.lst []))) ([]++sD fp s7.heap) σ8 H8 s8->
     tn (i+1) s8.heap/\∀b∈fp,H8 b=none:=fun {σ8 H8 s8} I8=>by
    refine⟨T.keep _ _ _ st7 fun b hb o e=>(I8.pin (b,o) (Zb _ (Zb _ (oV hb e)))).1,fun b hb=> ?_⟩
    obtain⟨o,e,d⟩:=T.obj _ _ st7 b hb
    exact(I8.pin (b,o) (Zb _ (Zb _ (oV hb e)))).2.1
   refine thn (hg _ _ _ _ _ s7 σ5 H7 x u _ I7' r7 (step x H7 y7)) fun _ s8 ⟨σ8,H8,I8,q8⟩=> ?_
   refine thn (ht _ _ _ _ _ s8 σ8 H8 _ I8 q8) fun ok s9 ⟨H9,I9,q9⟩=> ?_
   cases ok with
   |false=>
    rw [if_neg (by decide)] at q9|-
    obtain⟨m',hm,w9⟩:=q9
    obtain⟨b1,b2⟩:=back I9
    exact⟨m',hm,i+1,σ8,H9,I9.unpinned,b1,b2,w9⟩
   | true=>
    rw [if_pos rfl] at q9|-
    refine thn (he _ _ _ _ _ s9 σ8 H9 _ I9 q9) fun v s10 ⟨y,H10,I10,ry,ys,hys,hlen,m',hm,w10⟩=> ?_
    have ap:=zb4 (X:=cxB X N scope cl fp {s2 with heap:=H3} (upd H2 s2.heap.objs.size (.lst []))) ([]++sD fp s7.heap) s10 σ8 H10 (.ref s2.heap.objs.size) [y] (.ref s2.heap.objs.size) [v]
     (fun z H'=>z= .non/\H'=upd H10 s2.heap.objs.size (.lst (ys++[y]))) I10 rfl (.cons ry .nil) ⟨_,ys,y,rfl,rfl,hys,hlen,rfl,rfl⟩
    refine thn ap fun z s11 ⟨z',H11,I11,_,_,e11⟩=> ?_
    subst e11
    obtain⟨b1,b2⟩:=back I11
    exact⟨m',hm,i+1,σ8,_,I11.unpinned,b1,b2,w10⟩
 exact codeAny_compStart_list (loop _ rfl) (T.self _ _ _ _ _ st4 (loop _ rfl))
theorem yy3(S:CScope sc NX N pick scope)(hsc:X.env.scope=sc)(hNX:X.N=NX)(hc:X.calm=true)(hi:PI X tg iter wi)
  (hg:∀cl fp s H,PG (cxB X N scope cl fp s H) tg g) (ht:∀cl fp s H,PTs (cxB X N scope cl fp s H) ifs tt) (he:∀cl fp s H,PE (cxB X N scope cl fp s H) elt te)
  (hs:∀x,foldedSetIterable iter X.env x=pure x:=by intro _;rfl):PE X (.ListComp elt [⟨tg,iter,ifs,0⟩] scope pos) (xp7 pick wi g tt te):=⟨by
 intro pins s σ H Q I h
 rw [eval_ListComp]
 have hfr:∀y∈scope.names,y.2= .free->∃c,X.env.cells.lookup y.1=some c:=fun y hy hf=>I.ok.has y.1 (by
  show X.env.scope.names.lookup y.1=_\/X.env.scope.names.lookup y.1=_
  rw [hsc];exact S.frees y hy hf)
 obtain⟨cl,hcl,c1,c2⟩:=zx5 hfr
 refine wpAny_comprehension_free (use:=none) rfl hs hcl S.kind S.names (thn (hi pins s σ H _ I h) fun v s1 h1=>thn h1 fun itv s2 h2=> ?_)
 obtain⟨it,fp,tn,J,H2,e,I2,T,st2,f2,q⟩:=h2
 subst e
 refine zx7 (RR:=fun acc C=>compPost (model X.prog X.w) X.A X.xe none (EP X pins σ Q) acc C) (Q:=fun D H'=>Q (.ref D) H') S hsc hNX hc hg ht he I2 T st2 f2 c1 c2 q ?_
 intro D C H' s' I' n1 n2 n3 n4 n5 ⟨m,hm⟩ q'
 exact⟨m,hm,fun h' hb=>⟨.ref D,H',I'.turned (t':=s'.toks) (it:=C) (fun b o hbc e=>(hb.2 b hbc).trans e) n1 n3 (.inr n2) n4 n5,rfl,q'⟩⟩⟩
end
section
variable{X:Cx}{tg:Expr}
theorem zb7:∀(l:List (Str×Tok)),bN ((l.map (·.1)).map V.str) (strValues l)
 |[]=> .nil
 |(x,t)::r=> .cons ⟨t,rfl⟩ (zb7 r)
theorem yn9:MtR X "str.split" (fun x xs H Q=>∃z y,x= .str z/\xs=[.str y]/\(y.length==0)=false/\z.length<1000000/\∀p,H p=none->Q (.ref p) (upd H p (.lst ((Txt.split z y).map V.str)))):=⟨by
 intro pins s σ H x xs v us Q I rx r h
 obtain⟨z,y,rfl,rfl,hy,hz,q⟩:=h
 obtain⟨t,rfl⟩:=rx
 obtain⟨u,rfl,t',rfl⟩:=vQ r
 have hs:sizeLine=16777216:=Ya
 have hsz:z.length<=sizeLine:=by omega
 have hoc:=StrLaws.occ_length_le_len z y 0 z.length (z.length+1)
 have hpb:(Builtin.Str.partsBetween z (Builtin.Str.occurrences z y 0 z.length (z.length+1)) y.length).length<=z.length+2:=by
  unfold Builtin.Str.partsBetween
  rw [Zd,List.length_zip]
  simp only [Z4,Zd,Z2,ZR]
  omega
 have hn:H s.heap.objs.size=none:=I.fresh
 have fin:∀(l:List (Str×Tok)) (tk:Nat),l.map (·.1)=Txt.split z y->l.length<=sizeLine->EP X pins σ Q (.ref s.heap.objs.size) {s with heap:=s.heap.push {cls:= .type "list",data:= .seq (strValues l).toArray},toks:=tk}:=fun l tk e hl=>by
  refine⟨.ref s.heap.objs.size,_,I.lnew (t':=tk) (ys:=(l.map (·.1)).map V.str) (zb7 l) (by rw [Zd,Zd];exact hl),rfl,?_⟩
  rw [e];exact q _ hn
 cases h1:(decide (z.length<y.length)||decide (Builtin.Str.strKind z<Builtin.Str.strKind y))
 ·cases hf:(Builtin.Str.occurrences z y 0 z.length (z.length+1)).isEmpty
  ·refine Xd Xs (Xc _ _ _) Xn (Xf _ _) (meets_str_split_sep z y t t' h1 hy hf hsz (by omega)) ?_
   show wants _ _ _ {s with toks:=_,heap:=s.heap.push {cls:= .type "list",data:= .seq (strsFrom s.toks (Builtin.Str.partsBetween z (Builtin.Str.occurrences z y 0 z.length (z.length+1)) y.length)).toArray}}
   rw [strsFrom_eq]
   refine fin (numbered s.toks _) _ ((numbered_texts _ _).trans ((if_neg (YV h1)).trans (if_neg (YV hf))).symm) ?_
   have e:=ZP List.length (numbered_texts s.toks (Builtin.Str.partsBetween z (Builtin.Str.occurrences z y 0 z.length (z.length+1)) y.length))
   rw [Zd] at e
   omega
  ·exact Xd Xs (Xc _ _ _) Xn (Xf _ _) (meets_str_split_not_found z y t t' h1 hy hf) (fin [(z,t)] s.toks ((if_neg (YV h1)).trans (if_pos hf)).symm (by simp;omega))
 ·exact Xd Xs (Xc _ _ _) Xn (Xf _ _) (meets_str_split_cannot_occur z y t t' h1) (fin [(z,t)] s.toks (if_pos h1).symm (by simp;omega))⟩
end
mutual
inductive Dp(K:tz0)(H:Hp):V->PyData->Prop
 |non:Dp K H .non .none
 |bl (b:Bool):Dp K H (.bl b) (.bool b)
 |int (i:Int):Dp K H (.int i) (.int i)
 |str (x:Str):Dp K H (.str x) (.str x)
 |lst {a:Addr} {xs:List V} {ds:List PyData}:SqL K H a xs->DpAll K H xs ds->Dp K H (.ref a) (.list ds)
 |tup {a:Addr} {xs:List V} {ds:List PyData}:SqT K H a xs->DpAll K H xs ds->Dp K H (.ref a) (.tuple ds)
inductive DpAll(K:tz0)(H:Hp):List V->List PyData->Prop
 |nil:DpAll K H [] []
 |cons {v:V} {vs:List V} {d:PyData} {ds:List PyData}:Dp K H v d->DpAll K H vs ds->DpAll K H (v::vs) (d::ds)
end
section
variable{X:Cx}{pins:tzB}{σ:St}{H:Hp}{s:Shared}
mutual
theorem Dp.reads(I:Inv X pins σ H s):∀{v:V} {d:PyData} {u:Value},Dp X.K H v d->cC v u->∃as,Reads s.heap u d as
 |_,_,u,.non,r=>by cases(show u=Value.none from r);exact⟨_,.none⟩
 |_,_,u,.bl b,r=>by cases(show u=Value.bool b from r);exact⟨_,.bool b⟩
 |_,_,u,.int i,r=>by obtain⟨t,rfl⟩:=r;exact⟨_,.int i t⟩
 |_,_,u,.str x,r=>by obtain⟨t,rfl⟩:=r;exact⟨_,.str x t⟩
 |_,_,u,.lst (a:=a) h hs,r=>by
  cases(show u=Value.ref a from r)
  obtain⟨its,rv,p,hz⟩:=I.list h
  obtain⟨as,ra⟩:=DpAll.reads I hs rv
  obtain⟨o,e,c,n,d⟩:=p.isList
  exact⟨_,.list e c d (by simpa using ra)⟩
 |_,_,u,.tup (a:=a) h hs,r=>by
  cases(show u=Value.ref a from r)
  obtain⟨its,rv,p,hz⟩:=I.tuple h
  obtain⟨as,ra⟩:=DpAll.reads I hs rv
  obtain⟨o,e,c,n,d⟩:=p
  exact⟨_,.tuple e c d (by simpa using ra)⟩
theorem DpAll.reads(I:Inv X pins σ H s):∀{vs:List V} {ds:List PyData} {us:List Value},DpAll X.K H vs ds->bN vs us->∃as,ReadsAll s.heap us ds as
 |_,_,_,.nil,.nil=>⟨_,.nil⟩
 |_,_,_,.cons h hs,.cons r rs=>by
  obtain⟨as,ra⟩:=Dp.reads I h r
  obtain⟨bs,rb⟩:=DpAll.reads I hs rs
  exact⟨_,.cons ra rb⟩
end
end
section
variable{X:Cx}
def xl6(K:tz0)(neg:Bool):R2:=fun x y H Q=>∃d e,Dp K H x d/\Dp K H y e/\d.canLay0=true/\e.canLay0=true/\d.depth<=60/\Q (.bl (if neg then !PyData.eqv d e else PyData.eqv d e)) H
theorem xg8(hu:X.A.units+64<cLine):OpR X (compareOp .Eq) (xl6 X.K false):=⟨by
 intro pins s σ H x y v u Q I rx ry h
 obtain⟨d,e,hx,hy,cx,cy,dz,q⟩:=h
 obtain⟨as,ra⟩:=hx.reads I rx
 obtain⟨bs,rb⟩:=hy.reads I ry
 exact SeqAt.compareEq_reads ra rb cx cy (by have:=Nat.min_le_left d.depth e.depth;omega) ⟨.bl _,H,I,rfl,q⟩⟩
theorem xg9(hu:X.A.units+64<cLine):OpR X (compareOp .NotEq) (xl6 X.K true):=⟨by
 intro pins s σ H x y v u Q I rx ry h
 obtain⟨d,e,hx,hy,cx,cy,dz,q⟩:=h
 obtain⟨as,ra⟩:=hx.reads I rx
 obtain⟨bs,rb⟩:=hy.reads I ry
 exact SeqAt.compareNe_reads ra rb cx cy (by have:=Nat.min_le_left d.depth e.depth;omega) ⟨.bl _,H,I,rfl,q⟩⟩
end
section
variable{prog:Program}{w:World}{A:Around}{E:Value->Shared->Prop}{s:Shared}{env:Env}
theorem zq9{l:Addr}{items:Array Value}{elts:List Expr}{k:Nat}{pos:Pos}{Q:Unit->Shared->Prop}(hh:A.handled=none)(hl:s.heap.IsList l items)(hn:(assignEach elts env).length=items.size)
  (hstar:(assignEach elts env).findIdx? (·.1)=none) (h:∀h',Heap.ExtBut s.heap.objs.size s.heap h'->wpAny (model prog w) A (assignInOrder ((assignEach elts env).map (·.2)) items.toList) Q E {s with heap:=h'}):
  wpAny (model prog w) A (assign (.Tuple elts k pos) env (.ref l)) Q E s:=by
 rw [assign_Tuple]
 refine Zg (XL ?_)
 unfold unpack
 rw [hn,hstar]
 exact Zg (YL (PySem.W.kun_itemsOf hh hl h))
end
section
variable{X:Cx}{pos:Pos}
def yu3(K:tz0)(n:Nat)(t:TGs):TG:=fun v σ H Q=>∃a xs,v= .ref a/\SqL K H a xs/\xs.length=n/\t xs σ H Q
theorem xh0{es:List Expr}{k:Nat}{t:TGs}{n:Nat}(hc:X.calm=true)(h:PGs X es t)
  (hn:(assignEach es X.env).length=n:=by rfl) (hst:(assignEach es X.env).findIdx? (·.1)=none:=by rfl):PG X (.Tuple es k pos) (yu3 X.K n t):=⟨by
 intro pins s σ H v u Q I r hw
 obtain⟨a,xs,e1,hq,hl,hw⟩:=hw
 subst e1
 cases r
 obtain⟨its,rv,ht,hz⟩:=I.list hq
 refine zq9 (I.ok.hd hc) ht.isList (by simp [hn,<-hl,rv.length]) hst fun h' hx=> ?_
 have I1:Inv X pins σ H {s with heap:=h'}:=I.kept (t':=s.toks) fun b o e=>hx b o (ZG (Zn e)) e
 exact h pins _ σ H xs _ Q I1 (by simpa using rv) hw⟩
end
inductive AreC:List Expr->List V->Prop
 |nil:AreC [] []
 |int {i:Int} {j:Nat} {pos:Pos} {es:List Expr} {vs:List V}:AreC es vs->AreC (.Constant (.int i) j pos::es) (.int i::vs)
 |str {x:Str} {j:Nat} {pos:Pos} {es:List Expr} {vs:List V}:AreC es vs->AreC (.Constant (.str x) j pos::es) (.str x::vs)
 |bl {b:Bool} {j:Nat} {pos:Pos} {es:List Expr} {vs:List V}:AreC es vs->AreC (.Constant (.bool b) j pos::es) (.bl b::vs)
 |non {j:Nat} {pos:Pos} {es:List Expr} {vs:List V}:AreC es vs->AreC (.Constant .none j pos::es) (.non::vs)
def yS(vs:List V):TA:=fun _ H Q=>Q vs H
theorem yf8{X:Cx}{es:List Expr}{vs:List V}(h:AreC es vs):PA X es (yS vs):=by
 induction h with
 |nil=>exact lY
 |int _ ih=>exact⟨fun pos pins s σ H Q I q=>fH (t:=yS _) gM ih rfl pos pins s σ H Q I q⟩
 |str _ ih=>exact⟨fun pos pins s σ H Q I q=>fH (t:=yS _) yc7 ih rfl pos pins s σ H Q I q⟩
 |bl _ ih=>exact⟨fun pos pins s σ H Q I q=>fH (t:=yS _) yu9 ih rfl pos pins s σ H Q I q⟩
 |non _ ih=>exact⟨fun pos pins s σ H Q I q=>fH (t:=yS _) yc6 ih rfl pos pins s σ H Q I q⟩
set_option genInjectivity true in
inductive D where
 |non|bl (b:Bool)|int (i:Int)|str (x:Str)|ty (n:String)
 |tup (xs:List D)|con (xs:List D)|lst (o:Bool) (xs:List D)|dic (o:Bool) (ks:List Key) (vs:List D)|obj (o:Bool) (C:Str) (ns:List Str) (vs:List D)
 |kt (ks:List Key)|dit (o:Bool) (ks:List (List Key)) (vs:List D)
mutual
def D.imm:D->Bool
 | .tup xs=>D.imms xs
 | .con xs=>D.imms xs
 | .lst o xs=> !o&&D.imms xs
 | .dic o _ vs=> !o&&D.imms vs
 | .obj o _ _ vs=> !o&&D.imms vs
 | .dit o _ vs=> !o&&D.imms vs
 |_=>true
def D.imms:List D->Bool
 |[]=>true
 |d::ds=>d.imm&&D.imms ds
end
def kd:HO->Bool
 | .lst _=>true
 | .tup _=>true
 | .dK _=>true
 | .dT _=>true
 | .ins _ _ _=>true
 | .frz _ _=>true
 | .xd _=>true
 |_=>false
def tf:HO->Bool
 | .tup _=>true
 | .frz _ _=>true
 |_=>false
theorem lI(h:tf o=true):kd o=true:=by cases o<;>first|rfl|cases h
def SqF(K:tz0)(H:Hp)(a:Addr)(xs:List V):Prop:=(∃o,H a=some (.frz o (.lst xs)))\/
 ∃(o:Obj) (its:Array Value) (n:Nat),K.lookup a=some o/\o.cls= .type "list"/\o.dict=none/\o.data= .seq its n/\its.size<=sizeLine/\bN xs its.toList
mutual
inductive Rep(K:tz0)(U:tz9)(H:Hp):V->D->List Addr->Prop
 |non:Rep K U H .non .non []
 |bl (b:Bool):Rep K U H (.bl b) (.bl b) []
 |int (i:Int):Rep K U H (.int i) (.int i) []
 |str (x:Str):Rep K U H (.str x) (.str x) []
 |ty (n:String):Rep K U H (.ty n) (.ty n) []
 |tup {a:Addr} {vs:List V} {ds:List D}:SqT K H a vs->Reps K U H vs ds []->Rep K U H (.ref a) (.tup ds) []
 |con {a:Addr} {vs:List V} {ds:List D}:SqF K H a vs->Reps K U H vs ds []->Rep K U H (.ref a) (.con ds) []
 |lst {a:Addr} {vs:List V} {ds:List D} {fp:List Addr}:H a=some (.lst vs)->Reps K U H vs ds fp->Rep K U H (.ref a) (.lst true ds) (a::fp)
 |lstF {a:Addr} {o:Obj} {vs:List V} {ds:List D}:H a=some (.frz o (.lst vs))->Reps K U H vs ds []->Rep K U H (.ref a) (.lst false ds) []
 |dic {a:Addr} {kvs:List (Key×V)} {ks:List Key} {ds:List D} {fp:List Addr}:H a=some (.dK kvs)->kvs.map (·.1)=ks->Reps K U H (kvs.map (·.2)) ds fp->Rep K U H (.ref a) (.dic true ks ds) (a::fp)
 |dicF {a:Addr} {o:Obj} {kvs:List (Key×V)} {ks:List Key} {ds:List D}:H a=some (.frz o (.dK kvs))->kvs.map (·.1)=ks->Reps K U H (kvs.map (·.2)) ds []->Rep K U H (.ref a) (.dic false ks ds) []
 |obj {a dx:Addr} {C:Str} {fs:List (Str×V)} {ns:List Str} {ds:List D} {fp:List Addr}:H a=some (.ins (U C) dx fs)->fs.map (·.1)=ns->Reps K U H (fs.map (·.2)) ds fp->Rep K U H (.ref a) (.obj true C ns ds) (a::fp)
 |objF {a dx:Addr} {o:Obj} {C:Str} {fs:List (Str×V)} {ns:List Str} {ds:List D}:H a=some (.frz o (.ins (U C) dx fs))->fs.map (·.1)=ns->Reps K U H (fs.map (·.2)) ds []->Rep K U H (.ref a) (.obj false C ns ds) []
 |kt {a:Addr} {ks:List Key}:H a=some (.tup (ks.map kV))->Rep K U H (.ref a) (.kt ks) []
 |dit {a:Addr} {kvs:List (List Key×V)} {ks:List (List Key)} {ds:List D} {fp:List Addr}:H a=some (.dT kvs)->kvs.map (·.1)=ks->Reps K U H (kvs.map (·.2)) ds fp->Rep K U H (.ref a) (.dit true ks ds) (a::fp)
 |ditF {a:Addr} {o:Obj} {kvs:List (List Key×V)} {ks:List (List Key)} {ds:List D}:H a=some (.frz o (.dT kvs))->kvs.map (·.1)=ks->Reps K U H (kvs.map (·.2)) ds []->Rep K U H (.ref a) (.dit false ks ds) []
inductive Reps(K:tz0)(U:tz9)(H:Hp):List V->List D->List Addr->Prop
 |nil:Reps K U H [] [] []
 |cons {v:V} {vs:List V} {d:D} {ds:List D} {f g:List Addr}:Rep K U H v d f->Reps K U H vs ds g->Reps K U H (v::vs) (d::ds) (f++g)
end
section
variable{K:tz0}{U:tz9}{H H':Hp}
theorem SqT.tf(t:∀a o,H a=some o->tf o=true->H' a=some o){a:Addr}{xs:List V}(h:SqT K H a xs):SqT K H' a xs:=by
 rcases h with (h|⟨o,h⟩)|h
 ·exact .inl (.inl (t _ _ h rfl))
 ·exact .inl (.inr ⟨o,t _ _ h rfl⟩)
 ·exact .inr h
theorem SqF.tf(t:∀a o,H a=some o->tf o=true->H' a=some o){a:Addr}{xs:List V}(h:SqF K H a xs):SqF K H' a xs:=h.elim (fun⟨o,h⟩=> .inl ⟨o,t _ _ h rfl⟩) .inr
theorem SqF.l(h:SqF K H a xs):SqL K H a xs:=h.elim (fun⟨o,h⟩=> .inl (.inr ⟨o,h⟩)) .inr
theorem eX{P:Addr->Prop}:∀a∈([]:List Addr),P a:=fun _ h=>nomatch h
theorem Reps.move(t:∀a o,H a=some o->tf o=true->H' a=some o){vs:List V}{ds:List D}{fp:List Addr}(h:Reps K U H vs ds fp):(∀a∈fp,H' a=H a)->Reps K U H' vs ds fp:=
 Reps.rec (motive_1:=fun v d fp _=>(∀a∈fp,H' a=H a)->Rep K U H' v d fp) (motive_2:=fun vs ds fp _=>(∀a∈fp,H' a=H a)->Reps K U H' vs ds fp)
  (fun _=> .non) (fun b _=> .bl b) (fun b _=> .int b) (fun b _=> .str b) (fun b _=> .ty b) (fun h _ ih _=> .tup (h.tf t) (ih eX)) (fun h _ ih _=> .con (h.tf t) (ih eX))
  (fun h _ ih k=> .lst ((k _ Z0).trans h) (ih fun a ha=>k a (Z1 _ ha))) (fun h _ ih _=> .lstF (t _ _ h rfl) (ih eX))
  (fun h e _ ih k=> .dic ((k _ Z0).trans h) e (ih fun a ha=>k a (Z1 _ ha))) (fun h e _ ih _=> .dicF (t _ _ h rfl) e (ih eX))
  (fun h e _ ih k=> .obj ((k _ Z0).trans h) e (ih fun a ha=>k a (Z1 _ ha))) (fun h e _ ih _=> .objF (t _ _ h rfl) e (ih eX))
  (fun h _=> .kt (t _ _ h rfl)) (fun h e _ ih k=> .dit ((k _ Z0).trans h) e (ih fun a ha=>k a (Z1 _ ha))) (fun h e _ ih _=> .ditF (t _ _ h rfl) e (ih eX))
  (fun _=> .nil) (fun _ _ i1 i2 k=> .cons (i1 fun a ha=>k a (Zs _ ha)) (i2 fun a ha=>k a (Zb _ ha))) h
theorem Reps.nil_fp(h:Reps K U H vs [] fp):vs=[]/\fp=[]:=by cases h;exact⟨rfl,rfl⟩
theorem Reps.one_inv(r:Reps K U H vs [d] fp):∃v,vs=[v]/\Rep K U H v d fp:=by
 cases r with
 |cons h hs=>
  obtain⟨rfl,rfl⟩:=hs.nil_fp
  exact⟨_,rfl,by rw [Zh];exact h⟩
theorem Reps.one(h:Rep K U H v d f):Reps K U H [v] [d] f:=by have:=Reps.cons h (Reps.nil (K:=K) (U:=U) (H:=H));rwa [Zh] at this
theorem Rep.move(t:∀a o,H a=some o->tf o=true->H' a=some o){v:V}{d:D}{fp:List Addr}(h:Rep K U H v d fp)(k:∀a∈fp,H' a=H a):Rep K U H' v d fp:=by
 obtain⟨u,e,r⟩:=((Reps.one h).move t k).one_inv
 cases e;exact r
theorem Reps.own{vs:List V}{ds:List D}{fp:List Addr}(h:Reps K U H vs ds fp):∀a∈fp,∃o,H a=some o/\kd o=true/\tf o=false:=
 Reps.rec (motive_1:=fun _ _ fp _=>∀a∈fp,∃o,H a=some o/\kd o=true/\tf o=false) (motive_2:=fun _ _ fp _=>∀a∈fp,∃o,H a=some o/\kd o=true/\tf o=false)
  eX (fun _=>eX) (fun _=>eX) (fun _=>eX) (fun _=>eX) (fun _ _ _=>eX) (fun _ _ _=>eX)
  (fun h _ ih a ha=>(Z8.mp ha).elim (fun e=>e▸⟨_,h,rfl,rfl⟩) (ih a)) (fun _ _ _=>eX)
  (fun h _ _ ih a ha=>(Z8.mp ha).elim (fun e=>e▸⟨_,h,rfl,rfl⟩) (ih a)) (fun _ _ _ _=>eX)
  (fun h _ _ ih a ha=>(Z8.mp ha).elim (fun e=>e▸⟨_,h,rfl,rfl⟩) (ih a)) (fun _ _ _ _=>eX)
  (fun _=>eX) (fun h _ _ ih a ha=>(Z8.mp ha).elim (fun e=>e▸⟨_,h,rfl,rfl⟩) (ih a)) (fun _ _ _ _=>eX)
  eX (fun _ _ i1 i2 a ha=>(ZB.mp ha).elim (i1 a) (i2 a)) h
theorem Rep.own(h:Rep K U H v d fp):∀a∈fp,∃o,H a=some o/\kd o=true/\tf o=false:=(Reps.one h).own
theorem Rep.imm(h:Rep K U H v d fp)(e:d.imm=true):fp=[]:=by
 cases h<;>first|rfl|exact nomatch e
theorem Reps.imm:∀{vs:List V} {ds:List D} {fp:List Addr},Reps K U H vs ds fp->D.imms ds=true->fp=[]
 |_,_,_,.nil,_=>rfl
 |_,_,_,.cons h hs,e=>by
  rw [D.imms,ZF] at e
  rw [h.imm e.1,Reps.imm hs e.2];rfl
theorem Reps.length:∀{vs:List V} {ds:List D} {fp:List Addr},Reps K U H vs ds fp->vs.length=ds.length
 |_,_,_,.nil=>rfl
 |_,_,_,.cons _ hs=>by rw [Z4,Z4,Reps.length hs]
theorem Reps.get:∀{vs:List V} {ds:List D} {fp:List Addr} {i:Nat} {d:D},Reps K U H vs ds fp->ds[i]? =some d->∃v f,vs[i]? =some v/\Rep K U H v d f/\∀a∈f,a∈fp
 |_,_,_,_,_,.nil,e=>by simp at e
 |_,_,_,0,_,.cons h _,e=>by simp at e;subst e;exact⟨_,_,rfl,h,fun a ha=>Zs _ ha⟩
 |_,_,_,i+1,_,.cons _ hs,e=>by
  obtain⟨v,f,h1,h2,h3⟩:=Reps.get (i:=i) hs (by simpa using e)
  exact⟨v,f,by simpa using h1,h2,fun a ha=>Zb _ (h3 a ha)⟩
theorem Reps.append:∀{vs:List V} {ds:List D} {f:List Addr} {us:List V} {es:List D} {g:List Addr},Reps K U H vs ds f->Reps K U H us es g->Reps K U H (vs++us) (ds++es) (f++g)
 |_,_,_,_,_,_,.nil,r=>r
 |_,_,_,_,_,_,.cons h hs,r=>by rw [Ze];exact .cons h (Reps.append hs r)
theorem Reps.split:∀{vs:List V} {d:D} {ds:List D} {fp:List Addr},Reps K U H vs (d::ds) fp->∃v us f g,vs=v::us/\Rep K U H v d f/\Reps K U H us ds g/\fp=f++g
 |_,_,_,_,.cons h hs=>⟨_,_,_,_,rfl,h,hs,rfl⟩
theorem Reps.nilp:∀{vs:List V} {ds:List D},Reps K U H vs ds []->Paired (fun v d=>Rep K U H v d []) vs ds:=by
 intro vs ds h
 generalize e:([]:List Addr)=fp at h
 induction h using Reps.rec (motive_1:=fun _ _ _ _=>True) with
 |nil=>exact .nil
 |cons h hs _ ih=>
  obtain⟨e1,e2⟩:=XB.mp e.symm
  subst e1;subst e2
  exact .cons h (ih rfl)
 |_=>trivial
theorem Reps.ofp:∀{vs:List V} {ds:List D},Paired (fun v d=>Rep K U H v d []) vs ds->Reps K U H vs ds []
 |_,_,.nil=> .nil
 |_,_,.cons h hs=> .cons (f:=[]) (g:=[]) h (Reps.ofp hs)
end
theorem Paired.app:∀{l₁:List α} {l₂:List β} {m₁:List α} {m₂:List β},Paired R l₁ l₂->Paired R m₁ m₂->Paired R (l₁++m₁) (l₂++m₂)
 |_,_,_,_,.nil,r=>r
 |_,_,_,_,.cons h t,r=> .cons h (Paired.app t r)
theorem Paired.repl(r:Paired R l₁ l₂):∀k:Nat,Paired R (List.replicate k l₁).flatten (List.replicate k l₂).flatten
 |0=> .nil
 |k+1=>by rw [Y3,Y3,Ym,Ym];exact Paired.app r (Paired.repl r k)
structure SameK(H H':Hp):Prop where
 keep:∀a o,H a=some o->kd o=true->H' a=some o
 grow:∀a,H' a=none->H a=none
theorem SameK.refl(H:Hp):SameK H H:=⟨fun _ _ h _=>h,fun _ h=>h⟩
theorem SameK.trans(a:SameK H H1)(b:SameK H1 H2):SameK H H2:=⟨fun c o h k=>b.keep c o (a.keep c o h k) k,fun c h=>a.grow c (b.grow c h)⟩
theorem SameK.of(h:yb3 H H'):SameK H H':=⟨fun a o e _=>h a o e,fun a e=>h.free e⟩
theorem SameK.new(h:H p=none)(o:HO):SameK H (upd H p o):= .of (yn7 h o)
section
variable{K:tz0}{U:tz9}{H H':Hp}
theorem Rep.same(e:SameK H H'){v:V}{d:D}{fp:List Addr}(r:Rep K U H v d fp):Rep K U H' v d fp:=
 r.move (fun a o h t=>e.keep a o h (lI t)) fun a ha=>by obtain⟨o,h,k,_⟩:=r.own a ha;rw [h];exact e.keep a o h k
theorem Reps.same(e:SameK H H'){v:List V}{d:List D}{fp:List Addr}(r:Reps K U H v d fp):Reps K U H' v d fp:=
 r.move (fun a o h t=>e.keep a o h (lI t)) fun a ha=>by obtain⟨o,h,k,_⟩:=r.own a ha;rw [h];exact e.keep a o h k
end
theorem PE.imp(h:PE X e t)(k:∀σ H Q,t' σ H Q->t σ H Q):PE X e t':=⟨fun pins s σ H Q I q=>h pins s σ H Q I (k σ H Q q)⟩
theorem PT.imp(h:PT X e t)(k:∀σ H Q,t' σ H Q->t σ H Q):PT X e t':=⟨fun pins s σ H Q I q=>h pins s σ H Q I (k σ H Q q)⟩
theorem PW.imp(h:PW X e t)(k:∀σ H Q,t' σ H Q->t σ H Q):PW X e t':=⟨fun wh pins s σ H Q I q=>h wh pins s σ H Q I (k σ H Q q)⟩
theorem PA.imp(h:PA X e t)(k:∀σ H Q,t' σ H Q->t σ H Q):PA X e t':=⟨fun pos pins s σ H Q I q=>h pos pins s σ H Q I (k σ H Q q)⟩
theorem PS.imp{X:Cx}{st:Stmt}{t t':TS}(h:PS X st t)(k:∀D σ H,t' D σ H->t D σ H):PS X st t':=⟨fun pins s σ H D I q=>h pins s σ H D I (k D σ H q)⟩
theorem PSs.imp{X:Cx}{st:List Stmt}{t t':TS}(h:PSs X st t)(k:∀D σ H,t' D σ H->t D σ H):PSs X st t':=⟨fun pins s σ H D I q=>h pins s σ H D I (k D σ H q)⟩
abbrev PSt:=List (Option D)
abbrev _root_.tz7:=List D->Option (D×List D)
abbrev _root_.tz8:=PSt->Option (D×PSt)
abbrev _root_.tz3:=PSt->Option (List D)
abbrev _root_.tz4:=PSt->Option Bool
abbrev _root_.tz6:=List D->Option D
abbrev _root_.tz2:=PSt->Option D
abbrev _root_.tz5:=PSt->Bool
def WS(K:tz0)(U:tz9)(H:Hp)(σ:St)(ps:PSt):Prop:=∀(i:Nat) (d:D),ps[i]? =some (some d)->∃v fp,σ[i]? =some (some v)/\Rep K U H v d fp
theorem WS.same{K:tz0}{U:tz9}{H H':Hp}{σ:St}{ps:PSt}(w:WS K U H σ ps)(e:SameK H H'):WS K U H' σ ps:=fun i d h=>by
 obtain⟨v,fp,h1,h2⟩:=w i d h
 exact⟨v,fp,h1,h2.same e⟩
def jX(K:tz0)(U:tz9)(H:Hp)(d:D)(Q:VK):Prop:=∀v H' fv,SameK H H'->(∀a∈fv,H a=none)->fv.Nodup->Rep K U H' v d fv->Q v H'
def xl7(K:tz0)(U:tz9)(H:Hp)(d:D)(Q:VK):Prop:=∀v H' fp,SameK H H'->Rep K U H' v d fp->Q v H'
def tV(K:tz0)(U:tz9)(f:tz2):TE:=fun σ H Q=>∃ps d,WS K U H σ ps/\f ps=some d/\xl7 K U H d Q
def tP(K:tz0)(U:tz9)(f:tz2):TE:=fun σ H Q=>∃ps d,WS K U H σ ps/\f ps=some d/\jX K U H d Q
def tQ(K:tz0)(U:tz9)(f:tz4):TT:=fun σ H Q=>∃ps b,WS K U H σ ps/\f ps=some b/\∀H',SameK H H'->Q b H'
def tVA(K:tz0)(U:tz9)(f:tz3):TA:=fun σ H Q=>∃ps ds,WS K U H σ ps/\f ps=some ds/\∀vs H' fp,SameK H H'->Reps K U H' vs ds fp->Q vs H'
def tPA(K:tz0)(U:tz9)(f:tz3):TA:=fun σ H Q=>∃ps ds,WS K U H σ ps/\f ps=some ds/\∀vs H' fv,SameK H H'->(∀a∈fv,H a=none)->fv.Nodup->Reps K U H' vs ds fv->Q vs H'
abbrev QV(X:Cx)(U:tz9)(e:Expr)(f:tz2):Prop:=PE X e (tV X.K U f)
abbrev QP(X:Cx)(U:tz9)(e:Expr)(f:tz2):Prop:=PE X e (tP X.K U f)
abbrev QT(X:Cx)(U:tz9)(e:Expr)(f:tz4):Prop:=PT X e (tQ X.K U f)
abbrev QW(X:Cx)(U:tz9)(e:Expr)(f:tz4):Prop:=PW X e (tQ X.K U f)
abbrev QVA(X:Cx)(U:tz9)(es:List Expr)(f:tz3):Prop:=PA X es (tVA X.K U f)
abbrev QPA(X:Cx)(U:tz9)(es:List Expr)(f:tz3):Prop:=PA X es (tPA X.K U f)
theorem jX.see{K:tz0}{U:tz9}{H:Hp}{d:D}{Q:VK}(h:xl7 K U H d Q):jX K U H d Q:=fun v H' fv s _ _ r=>h v H' fv s r
theorem jX.after{K:tz0}{U:tz9}{H H1:Hp}{d:D}{Q:VK}(h:jX K U H d Q)(s:SameK H H1):jX K U H1 d Q:=
 fun v H' fv s' n nd r=>h v H' fv (s.trans s') (fun a ha=>s.grow a (n a ha)) nd r
theorem jX.now{K:tz0}{U:tz9}{H:Hp}{d:D}{Q:VK}{v:V}(h:jX K U H d Q)(r:Rep K U H v d []):Q v H:=h v H [] (.refl H) (fun _ h=>absurd h (by simp)) Zf r
theorem jX.at{K:tz0}{U:tz9}{H:Hp}{d:D}{Q:VK}{p:Addr}{o:HO}{fv:List Addr}(h:jX K U H d Q)(hp:H p=none)(hn:∀a∈fv,H a=none)(nd:fv.Nodup)(r:Rep K U (upd H p o) (.ref p) d fv):Q (.ref p) (upd H p o):=
 h _ _ fv (.new hp o) hn nd r
section
variable{X:Cx}{U:tz9}{e a b:Expr}{f fa fb:tz2}
theorem QP.v(h:QP X U e f):QV X U e f:=h.imp fun _ _ _ ⟨ps,d,w,e,q⟩=>⟨ps,d,w,e,.see q⟩
def aR(f:tz2):tz2:=fun ps=>(f ps).bind fun d=>if d.imm=true then some d else none
theorem QV.p(h:QV X U e f):QP X U e (aR f):=h.imp fun σ H Q hh_=>by
 obtain⟨ps,d,w,e,q⟩:=hh_
 unfold aR at e
 cases e1:f ps with
 |none=>rw [e1] at e;cases e
 | some d1=>
  rw [e1] at e
  by_cases hi:d1.imm=true
  ·have e2:d1=d:=by simpa [hi] using e
   subst e2
   refine⟨ps,d1,w,e1,fun v H' fp s r=> ?_⟩
   have:=r.imm hi;subst this
   exact q v H' [] s (fun _ h=>absurd h (by simp)) Zf r
  ·simp [hi] at e
def aB(i:Nat):tz2:=fun ps=>(ps[i]?).join
theorem aC(i:Nat){x:Str}{pos:Pos}(hN:X.N[i]? =some x:=by rfl)(hv:Vis X.env.scope x:=by first|exact Or.inl rfl|exact Or.inr (Or.inl rfl)|exact Or.inr (Or.inr rfl))(hd:NDb x:=by decide)
  (hcd:(x==("__classdict__":Str))=false:=by decide):QV X U (.Name x pos) (aB i):=(rO hN hv hd hcd).imp fun σ H Q hh_=>by
 obtain⟨ps,d,w,e,q⟩:=hh_
 have e':ps[i]? =some (some d):=by
  unfold aB at e
  cases q:ps[i]? with
  |none=>rw [q] at e;cases e
  |some o=>rw [q] at e;exact ZP some e
 obtain⟨v,fp,h1,h2⟩:=w i d e'
 exact⟨v,h1,q v H fp (.refl H) h2⟩
def fC(d:D):tz2:=fun _=>some d
theorem aF{i j pos}:QP X U (.Constant (.int i) j pos) (fC (.int i)):=gM.imp fun σ H Q ⟨ps,d,w,e,q⟩=>by cases e;exact q _ H [] (.refl H) (fun _ h=>absurd h (by simp)) Zf (.int i)
theorem bJ{x j pos}:QP X U (.Constant (.str x) j pos) (fC (.str x)):=yc7.imp fun σ H Q ⟨ps,d,w,e,q⟩=>by cases e;exact q _ H [] (.refl H) (fun _ h=>absurd h (by simp)) Zf (.str x)
theorem lZ{b j pos}:QP X U (.Constant (.bool b) j pos) (fC (.bl b)):=yu9.imp fun σ H Q ⟨ps,d,w,e,q⟩=>by cases e;exact q _ H [] (.refl H) (fun _ h=>absurd h (by simp)) Zf (.bl b)
theorem kZ{j pos}:QP X U (.Constant .none j pos) (fC .non):=yc6.imp fun σ H Q ⟨ps,d,w,e,q⟩=>by cases e;exact q _ H [] (.refl H) (fun _ h=>absurd h (by simp)) Zf .non
theorem yy4(hg:Gl X x)(hm:X.mg x=some u)(r:cC v u)(hd:∀H,Rep X.K U H v d [])(hdb:NDb x:=by decide):QP X U (.Name x pos) (fC d):=
 (yw7 hg hm r hdb).imp fun σ H Q ⟨ps,d,w,e,q⟩=>by cases e;exact q _ H [] (.refl H) (fun _ h=>absurd h (by simp)) Zf (hd H)
theorem xn5(hg:Gl X x)(hm:X.mg x=none)(hv:bootBuiltins x=some (.type n))(hn:x≠"__name__":=by decide)(hd:NDb x:=by decide):QP X U (.Name x pos) (fC (.ty n)):=
 (yw8 (v:= .ty n) hg hm hv rfl hn hd).imp fun σ H Q ⟨ps,d,w,e,q⟩=>by cases e;exact q _ H [] (.refl H) (fun _ h=>absurd h (by simp)) Zf (.ty n)
def f2(g:D->D->Option D)(fa fb:tz2):tz2:=fun ps=>(fa ps).bind fun x=>(fb ps).bind fun y=>g x y
def POp(K:tz0)(U:tz9)(g:D->D->Option D):R2:=fun x y H Q=>∃dx dy d fx fy,Rep K U H x dx fx/\Rep K U H y dy fy/\g dx dy=some d/\jX K U H d Q
theorem rR(h:f2 g fa fb ps=some d):∃x y,fa ps=some x/\fb ps=some y/\g x y=some d:=by
 unfold f2 at h
 cases e1:fa ps with
 |none=>rw [e1] at h;cases h
 |some x=>
  rw [e1] at h
  cases e2:fb ps with
  |none=>rw [e2] at h;cases h
  |some y=>rw [e2] at h;exact⟨x,y,rfl,rfl,h⟩
theorem zj4(hr:∀x y H Q,POp X.K U g x y H Q->r x y H Q)(h:tP X.K U (f2 g fa fb) σ H Q):tOp r (tV X.K U fa) (tV X.K U fb) σ H Q:=by
 obtain⟨ps,d,w,e,q⟩:=h
 obtain⟨x,y,e1,e2,e3⟩:=rR e
 exact⟨ps,x,w,e1,fun v H1 fp s1 r1=>⟨ps,y,w.same s1,e2,fun u H2 fq s2 r2=>hr _ _ _ _ ⟨x,y,d,fp,fq,r1.same s2,r2,e3,q.after (s1.trans s2)⟩⟩⟩
theorem bE(ho:OpR X (binaryOp op) (POp X.K U g))(ha:QV X U a fa)(hb:QV X U b fb):QP X U (.BinOp a op b pos) (f2 g fa fb):=
 (fM ho ha hb).imp fun _ _ _ h=>zj4 (fun _ _ _ _ h=>h) h
theorem mB(ho:OpR X (compareOp op) (POp X.K U g))(ha:QV X U a fa)(hb:QV X U b fb)(hm:behindInMarks op b=false):QP X U (.Compare a [op] [b] pos) (f2 g fa fb):=
 (yx2 ho ha hb hm).imp fun _ _ _ h=>zj4 (fun _ _ _ _ h=>h) h
def dB:D->Option Bool
 | .bl b=>some b
 |_=>none
def fB(f:tz2):tz4:=fun ps=>(f ps).bind dB
theorem zK{f:tz2}{ps:PSt}{b:Bool}(h:fB f ps=some b):f ps=some (.bl b):=by
 unfold fB at h
 cases e:f ps with
 |none=>rw [e] at h;cases h
 |some d=>rw [e] at h;cases d<;>first|(cases h;rfl)|cases h
theorem Rep.is_bl{K:tz0}{H:Hp}{v:V}{b:Bool}{fp:List Addr}(r:Rep K U H v (.bl b) fp):v= .bl b:=by cases r;rfl
theorem Rep.is_int{K:tz0}{H:Hp}{v:V}{b:Int}{fp:List Addr}(r:Rep K U H v (.int b) fp):v= .int b:=by cases r;rfl
theorem Rep.is_str{K:tz0}{H:Hp}{v:V}{b:Str}{fp:List Addr}(r:Rep K U H v (.str b) fp):v= .str b:=by cases r;rfl
theorem bM(ho:OpR X (compareOp op) (POp X.K U g))(ha:QV X U a fa)(hb:QV X U b fb)(hm:behindInMarks op b=false):QT X U (.Compare a [op] [b] pos) (fB (f2 g fa fb)):=
 (zs1 ho ha hb hm).imp fun σ H Q ⟨ps,c,w,e,q⟩=>zj4 (Q:=fun x H'=>∃k,x= .bl k/\Q k H') (fun _ _ _ _ h=>h) ⟨ps,_,w,zK e,fun v H' fv s _ _ r=>⟨c,r.is_bl,q H' s⟩⟩
def f3(g g':D->D->Option D)(fa fb fc:tz2):tz2:=fun ps=>(fa ps).bind fun x=>(fb ps).bind fun y=>(g x y).bind fun k=>match k with
 | .bl true=>(fc ps).bind fun z=>g' y z
 | .bl false=>some (.bl false)
 |_=>none
def za2:D->Option Bool
 | .non=>some false
 | .bl b=>some b
 | .int i=>some (i !=0)
 | .str y=>if y.length<=sizeLine then some ((y.length:Int) !=0) else none
 | .lst _ xs=>some (!xs.isEmpty)
 | .tup xs=>some (!xs.isEmpty)
 | .con xs=>some (!xs.isEmpty)
 |_=>none
theorem mC{K:tz0}{H:Hp}{vs:List V}{ds:List D}{fp:List Addr}(r:Reps K U H vs ds fp):ds.isEmpty=vs.isEmpty:=by cases r<;>rfl
theorem zs5{K:tz0}{H:Hp}{v:V}{d:D}{fp:List Addr}{b:Bool}(r:Rep K U H v d fp)(h:za2 d=some b):yt9 K v H b:=by
 cases r with
 |non=>cases h;rfl
 |bl b=>cases h;rfl
 |int i=>cases h;rfl
 |str x=>
  rw [za2] at h
  split at h
  ·cases h;exact⟨by assumption,rfl⟩
  ·cases h
 |tup s rs=>cases h;exact .inr (.inl ⟨_,s,by rw [mC rs]⟩)
 |con s rs=>cases h;exact .inl ⟨_,s.l,by rw [mC rs]⟩
 |lst s rs=>cases h;exact .inl ⟨_,.inl (.inl s),by rw [mC rs]⟩
 |lstF s rs=>cases h;exact .inl ⟨_,.inl (.inr ⟨_,s⟩),by rw [mC rs]⟩
 |_=>cases h
def fT(f:tz2):tz4:=fun ps=>(f ps).bind za2
theorem yy5{f:tz2}{ps:PSt}{b:Bool}(h:fT f ps=some b):∃d,f ps=some d/\za2 d=some b:=by
 unfold fT at h
 cases e:f ps with
 |none=>rw [e] at h;cases h
 |some d=>rw [e] at h;exact⟨d,rfl,h⟩
theorem gG(ha:QV X U a fa)(he:∀whole,isTrue a X.env whole=(do let v<-whole;standAt a.pos;holding [v] (truthy v)):=by intro _;rfl):QT X U a (fT fa):=
 (zi7 ha he).imp fun σ H Q hh_=>by
  obtain⟨ps,c,w,e,q⟩:=hh_
  obtain⟨d,e1,e2⟩:=yy5 e
  exact⟨ps,d,w,e1,fun v H' fp s r=>⟨c,zs5 r e2,q H' s⟩⟩
def bV(f g:tz4):tz4:=fun ps=>(f ps).bind fun c=>if c=true then g ps else some false
def nE(f g:tz4):tz4:=fun ps=>(f ps).bind fun c=>if c=true then some true else g ps
def jC(f:tz4):tz4:=fun ps=>(f ps).map (!·)
variable{pos:Pos}{rest:List Expr}{ta tb:tz4}
theorem eO(ha:QT X U a ta):QW X U (.BoolOp .And [a] pos) ta:=yw9 ha
theorem xR(ha:QT X U a ta):QW X U (.BoolOp .Or [a] pos) ta:=xe8 ha
theorem eG(ha:QT X U a ta)(hb:QW X U (.BoolOp .And (b::rest) pos) tb):QW X U (.BoolOp .And (a::b::rest) pos) (bV ta tb):=
 (xe9 ha hb).imp fun σ H Q hh_=>by
  obtain⟨ps,c,w,e,q⟩:=hh_
  unfold bV at e
  cases e1:ta ps with
  |none=>rw [e1] at e;cases e
  | some k=>
   rw [e1] at e
   refine⟨ps,k,w,e1,fun H1 s1=> ?_⟩
   cases k with
   |true=>rw [if_pos rfl];exact⟨ps,c,w.same s1,by simpa using e,fun H2 s2=>q H2 (s1.trans s2)⟩
   |false=>
    rw [if_neg Z5]
    have:c=false:=by simpa using e.symm
    subst this;exact q H1 s1
theorem zf7(ha:QT X U a ta)(hb:QW X U (.BoolOp .Or (b::rest) pos) tb):QW X U (.BoolOp .Or (a::b::rest) pos) (nE ta tb):=
 (xm5 ha hb).imp fun σ H Q hh_=>by
  obtain⟨ps,c,w,e,q⟩:=hh_
  unfold nE at e
  cases e1:ta ps with
  |none=>rw [e1] at e;cases e
  | some k=>
   rw [e1] at e
   refine⟨ps,k,w,e1,fun H1 s1=> ?_⟩
   cases k with
   |true=>
    rw [if_pos rfl]
    have:c=true:=by simpa using e.symm
    subst this;exact q H1 s1
   |false=>rw [if_neg Z5];exact⟨ps,c,w.same s1,by simpa using e,fun H2 s2=>q H2 (s1.trans s2)⟩
theorem iJ(h:QW X U a ta):QT X U a ta:=PW.pt h
theorem pT(ha:QT X U a ta):QT X U (.UnaryOp .Not a pos) (jC ta):=
 (yc8 ha).imp fun σ H Q hh_=>by
  obtain⟨ps,c,w,e,q⟩:=hh_
  unfold jC at e
  cases e1:ta ps with
  |none=>rw [e1] at e;cases e
  |some k=>
   rw [e1] at e
   have:c= !k:=by simpa using e.symm
   subst this
   exact⟨ps,k,w,e1,fun H1 s1=>q H1 s1⟩
def vC(f g:tz2):tz2:=fun ps=>(f ps).bind fun c=>match c with
 | .bl true=>g ps
 | .bl false=>some (.bl false)
 |_=>none
def fOr(f g:tz2):tz2:=fun ps=>(f ps).bind fun c=>match c with
 | .bl true=>some (.bl true)
 | .bl false=>g ps
 |_=>none
theorem zf8{d:D}{α:Type}{x y:Option α}{z:α}(h:(match d with| .bl true=>x| .bl false=>y|_=>none)=some z):∃b,d= .bl b/\(if b=true then x else y)=some z:=by
 cases d with
 |bl b=>cases b<;>exact⟨_,rfl,h⟩
 |_=>cases h
theorem zj5{op}(h:QP X U a fa):QP X U (.BoolOp op [a] pos) fa:=yc9 h
theorem xh1(ha:QP X U a fa)(hb:QP X U (.BoolOp .And (b::rest) pos) fb):QP X U (.BoolOp .And (a::b::rest) pos) (vC fa fb):=
 (yd0 ha hb).imp fun σ H Q hh_=>by
  obtain⟨ps,d,w,e,q⟩:=hh_
  unfold vC at e
  cases e1:fa ps with
  |none=>rw [e1] at e;cases e
  | some k=>
   rw [e1] at e
   obtain⟨c,rfl,e2⟩:=zf8 (x:=fb ps) (y:=some (.bl false)) e
   refine⟨ps,_,w,e1,fun v H1 fv s1 _ _ r1=>⟨c,r1.is_bl,?_⟩⟩
   cases c with
   |true=>rw [if_pos rfl] at e2|-;exact⟨ps,d,w.same s1,e2,q.after s1⟩
   |false=>
    rw [if_neg Z5] at e2|-
    cases e2;exact(q.after s1).now (.bl false)
theorem yv4(ha:QP X U a fa)(hb:QP X U (.BoolOp .Or (b::rest) pos) fb):QP X U (.BoolOp .Or (a::b::rest) pos) (fOr fa fb):=
 (xm6 ha hb).imp fun σ H Q hh_=>by
  obtain⟨ps,d,w,e,q⟩:=hh_
  unfold fOr at e
  cases e1:fa ps with
  |none=>rw [e1] at e;cases e
  |some k=>
   rw [e1] at e
   obtain⟨c,rfl,e2⟩:=zf8 (d:=k) (x:=some (D.bl true)) (y:=fb ps) (z:=d) e
   refine⟨ps,_,w,e1,fun v H1 fv s1 _ _ r1=>⟨c,r1.is_bl,?_⟩⟩
   cases c with
   |true=>rw [if_pos rfl] at e2|-;cases e2;exact(q.after s1).now (.bl true)
   |false=>rw [if_neg Z5] at e2|-;exact⟨ps,d,w.same s1,e2,q.after s1⟩
def eN(f:tz2):tz2:=fun ps=>(f ps).bind fun c=>match c with
 | .int i=>some (.int (-i))
 |_=>none
theorem mD(ha:QV X U a fa):QP X U (.UnaryOp .USub a pos) (eN fa):=
 (xm7 xf4 ha).imp fun σ H Q hh_=>by
  obtain⟨ps,d,w,e,q⟩:=hh_
  unfold eN at e
  cases e1:fa ps with
  |none=>rw [e1] at e;cases e
  |some k=>
   rw [e1] at e
   cases k with
   |int i=>cases e;exact⟨ps,_,w,e1,fun v H1 fp s1 r1=>⟨i,r1.is_int,(q.after s1).now (.int _)⟩⟩
   |_=>cases e
end
section
variable{X:Cx}{U:tz9}
theorem Inv.lstR(I:Inv X pins σ H s)(h:Rd H l (.lst xs)):
  xs.length<=sizeLine/\∃(its:List Value) (n:Nat),bN xs its/\xs.length=its.length/\s.heap.get? l=some {cls:= .type "list",data:= .seq its.toArray n}:=by
 obtain⟨z,its,n,r,e⟩:=h.ok I.hok
 exact⟨z,its,n,r,r.length,e⟩
theorem yy6:OpR X (binaryOp .Add) (fun x y H Q=>∃l b xs zs,x= .ref l/\y= .ref b/\Rd H l (.lst xs)/\Rd H b (.lst zs)/\xs.length+zs.length<=sizeLine/\∀p,H p=none->Q (.ref p) (upd H p (.lst (xs++zs)))):=⟨by
 intro pins s σ H x y v u Q I rx ry h
 obtain⟨l,b,xs,zs,rfl,rfl,hH,hB,hz,q⟩:=h
 cases rx
 cases ry
 obtain⟨z,its,n,r,hl,e⟩:=I.lstR hH
 obtain⟨z2,its2,n2,r2,hl2,e2⟩:=I.lstR hB
 refine PySem.P.add_list e e2 ?_ (by rw [Zm,Zm];omega)
 have ea:its.toArray++its2.toArray=(its++its2).toArray:=by simp
 rw [ea]
 exact⟨.ref _,_,I.lnew (t':=s.toks) (r.append r2) (by rw [Z2];omega),rfl,q _ I.fresh⟩⟩
theorem yo0:OpR X (binaryOp .Add) (fun x y H Q=>∃a b ys,x= .ref a/\y= .ref b/\SqT X.K H a []/\SqT X.K H b ys/\Q (.ref b) H):=⟨by
 intro pins s σ H x y v u Q I rx ry h
 obtain⟨a,b,ys,rfl,rfl,ha,hb,q⟩:=h
 cases rx
 cases ry
 obtain⟨its,r1,p1,_⟩:=I.tuple ha
 obtain⟨its2,r2,p2,_⟩:=I.tuple hb
 cases r1
 obtain⟨⟨cls,dd,data,sl⟩,ho,hc,n,hd⟩:=id p1
 obtain⟨⟨cls2,dd2,data2,sl2⟩,ho2,hc2,n2,hd2⟩:=id p2
 simp only at hc hd hc2 hd2
 subst hc hd hc2 hd2
 exact concat_meets ⟨_,ho,rfl⟩ ⟨_,ho2,rfl⟩ Xq XR YJ YE (YB _ _)
   (tuple_addW0 a b _ _ n n2 dd dd2 sl sl2 rfl) ⟨ho,ho2,⟨.ref b,H,I,rfl,q⟩⟩⟩
theorem Rep.lst_inv{K:tz0}{H:Hp}{v:V}{o:Bool}{ds:List D}{fp:List Addr}(r:Rep K U H v (.lst o ds) fp):∃a vs g,v= .ref a/\Rd H a (.lst vs)/\Reps K U H vs ds g/\g.Sublist fp:=by
 cases r with
 |lst h hs=>exact⟨_,_,_,rfl,.inl h,hs,Yn _ _⟩
 |lstF h hs=>exact⟨_,_,_,rfl,.inr ⟨_,h⟩,hs,.refl _⟩
theorem Rep.lstT_inv{K:tz0}{H:Hp}{v:V}{ds:List D}{fp:List Addr}(r:Rep K U H v (.lst true ds) fp):∃a vs g,v= .ref a/\H a=some (.lst vs)/\Reps K U H vs ds g/\fp=a::g:=by
 cases r with
 |lst h hs=>exact⟨_,_,_,rfl,h,hs,rfl⟩
theorem Rep.objT_inv{K:tz0}{H:Hp}{v:V}{C:Str}{ns:List Str}{ds:List D}{fp:List Addr}(r:Rep K U H v (.obj true C ns ds) fp):∃a dx fs g,v= .ref a/\H a=some (.ins (U C) dx fs)/\fs.map (·.1)=ns/\Reps K U H (fs.map (·.2)) ds g/\fp=a::g:=by
 cases r with
 |obj h e hs=>exact⟨_,_,_,_,rfl,h,e,hs,rfl⟩
theorem Rep.tup_inv{K:tz0}{H:Hp}{v:V}{ds:List D}{fp:List Addr}(r:Rep K U H v (.tup ds) fp):∃a vs,v= .ref a/\SqT K H a vs/\Reps K U H vs ds []:=by
 cases r with
 |tup h hs=>exact⟨_,_,rfl,h,hs⟩
theorem Reps.pair{K:tz0}{H:Hp}{vs:List V}{ds:List D}{fp:List Addr}(r:Reps K U H vs ds fp)(h:D.imms ds=true):Paired (fun v d=>Rep K U H v d []) vs ds:=by
 have e:=r.imm h
 subst e
 exact r.nilp
theorem Rep.con_inv{K:tz0}{H:Hp}{v:V}{ds:List D}{fp:List Addr}(r:Rep K U H v (.con ds) fp):∃a vs,v= .ref a/\SqF K H a vs/\Reps K U H vs ds []:=by
 cases r with
 |con h hs=>exact⟨_,_,rfl,h,hs⟩
theorem zs6{K:tz0}{H:Hp}{vs:List V}{ds:List D}{Q:VK}{p:Addr}(hp:H p=none)(r:Paired (fun v d=>Rep K U H v d []) vs ds)(q:jX K U H (.lst true ds) Q):Q (.ref p) (upd H p (.lst vs)):=
 q.at hp (fv:=[p]) (fun a ha=>by simp at ha;subst ha;exact hp) (by simp) (.lst bO ((Reps.ofp r).same (.new hp _)))
theorem zL{K:tz0}{H:Hp}{vs:List V}{ds:List D}{Q:VK}{p:Addr}(hp:H p=none)(r:Paired (fun v d=>Rep K U H v d []) vs ds)(q:jX K U H (.tup ds) Q):Q (.ref p) (upd H p (.tup vs)):=
 q.at hp (fv:=[]) (fun a ha=>by simp at ha) (by simp) (.tup (.inl (.inl bO)) ((Reps.ofp r).same (.new hp _)))
def cA:D->D->Option D
 | .int i,.int j=>some (.int (i+j))
 | .str x,.str y=>if x.length+y.length<=sizeLine then some (.str (x++y)) else none
 | .lst _ xs,.lst _ ys=>if (D.imms xs&&D.imms ys&&decide (xs.length+ys.length<=sizeLine))=true then some (.lst true (xs++ys)) else none
 | .tup xs,.tup ys=>if xs.length+ys.length<=sizeLine then some (.tup (xs++ys)) else none
 |_,_=>none
theorem bind_some(h:o.bind g=some z):∃x,o=some x/\g x=some z:=by
 cases o with
 |none=>cases h
 |some x=>exact⟨x,rfl,h⟩
theorem bL[Decidable c]{x:Option α}{z:α}(h:(if c then x else none)=some z):c/\x=some z:=by
 by_cases k:c
 ·rw [if_pos k] at h;exact⟨k,h⟩
 ·rw [if_neg k] at h;cases h
theorem eK:OpR X (binaryOp .Add) (POp X.K U cA):=⟨by
 rintro pins s σ H x y v u Q I rx ry ⟨dx,dy,d,fx,fy,r1,r2,e,q⟩
 unfold cA at e
 split at e
 ·rename_i i j
  cases e;exact rQ pins s σ H x y v u Q I rx ry ⟨i,j,r1.is_int,r2.is_int,q.now (.int _)⟩
 ·rename_i i j
  obtain⟨hc,e⟩:=bL e
  cases e;exact zw5 pins s σ H x y v u Q I rx ry ⟨i,j,r1.is_str,r2.is_str,hc,q.now (.str _)⟩
 ·rename_i o xs o' ys
  obtain⟨hc,e⟩:=bL e
  simp only [ZF,ZM] at hc
  cases e
  obtain⟨a,vs,g,rfl,h1,s1,_⟩:=r1.lst_inv
  obtain⟨b,us,g',rfl,h2,s2,_⟩:=r2.lst_inv
  exact yy6 pins s σ H _ _ v u Q I rx ry ⟨a,b,vs,us,rfl,rfl,h1,h2,by rw [s1.length,s2.length];exact hc.2,fun p hp=>zs6 hp (Paired.app (s1.pair hc.1.1) (s2.pair hc.1.2)) q⟩
 ·rename_i xs ys
  obtain⟨hc,e⟩:=bL e
  cases e
  obtain⟨a,vs,rfl,h1,s1⟩:=r1.tup_inv
  obtain⟨b,us,rfl,h2,s2⟩:=r2.tup_inv
  have l1:=s1.length;have l2:=s2.length
  cases vs with
  |nil=>
   cases s1
   exact yo0 pins s σ H _ _ v u Q I rx ry ⟨a,b,us,rfl,rfl,h1,h2,q.now (.tup h2 s2)⟩
  |cons w ws=>
   refine yx7 pins s σ H _ _ v u Q I rx ry ⟨a,b,_,us,rfl,rfl,h1,h2,by simp,by omega,fun z=> ?_,fun z p hp=>zL hp (Paired.app s1.nilp s2.nilp) q⟩
   subst z
   cases s2
   rw [Zh] at q
   exact q.now (.tup h1 s1)
 ·cases e⟩
def dII(C:Int->Int->Bool)(g:Int->Int->D):D->D->Option D
 | .int i,.int j=>if C i j=true then some (g i j) else none
 |_,_=>none
theorem zj6(h:dII C g x y=some d):∃i j,x= .int i/\y= .int j/\C i j=true/\d=g i j:=by
 unfold dII at h
 split at h
 ·obtain⟨hc,h⟩:=bL h
  cases h;exact⟨_,_,rfl,rfl,hc,rfl⟩
 ·cases h
def jY:D->D->Option D
 | .int i,.int j=>some (.int (i-j))
 |_,_=>none
theorem qO:OpR X (binaryOp .Sub) (POp X.K U jY):=⟨by
 rintro pins s σ H x y v u Q I rx ry ⟨dx,dy,d,fx,fy,r1,r2,e,q⟩
 unfold jY at e
 split at e
 ·rename_i i j
  cases e;exact xf2 pins s σ H x y v u Q I rx ry ⟨i,j,r1.is_int,r2.is_int,q.now (.int _)⟩
 ·cases e⟩
def nW(i j:Int):Bool:=(decide (-(2^64)<i)&&decide (i<2^64))||(decide (-(2^64)<j)&&decide (j<2^64))
def gO:D->D->Option D
 | .int i,.int j=>if nW i j=true then some (.int (i*j)) else none
 | .str x,.int n=>if (decide (x.length<=1)&&decide (-(2^63)<=n)&&decide (n<=16777216))=true then some (.str (Txt.mul x n)) else none
 |_,_=>none
theorem zx8:OpR X (binaryOp .Mult) (fun x y H Q=>∃z n,x= .str z/\y= .int n/\MulOk z n/\Q (.str (Txt.mul z n)) H):=⟨by
 rintro pins s σ H x y v u Q I rx ry ⟨z,n,e1,e2,ok,q⟩
 subst e1 e2
 obtain⟨t,rfl⟩:=rx
 obtain⟨t',rfl⟩:=ry
 exact SB.mul ok fun t' k=>⟨.str _,H,I.tok k,⟨_,rfl⟩,q⟩⟩
theorem sO:OpR X (binaryOp .Mult) (POp X.K U gO):=⟨by
 rintro pins s σ H x y v u Q I rx ry ⟨dx,dy,d,fx,fy,r1,r2,e,q⟩
 unfold gO at e
 split at e
 ·rename_i i j
  obtain⟨hc,e⟩:=bL e
  cases e
  refine lX pins s σ H x y v u Q I rx ry ⟨i,j,r1.is_int,r2.is_int,?_,q.now (.int _)⟩
  unfold nW at hc
  simp only [Bool.or_eq_true,ZF,ZM] at hc
  exact hc
 ·rename_i z n
  obtain⟨hc,e⟩:=bL e
  simp only [ZF,ZM] at hc
  cases e
  exact zx8 pins s σ H _ _ v u Q I rx ry ⟨z,n,r1.is_str,r2.is_int,mulOk_of 1 16777216 hc.1.1 (by omega) hc.1.2 (by decide) (by decide),q.now (.str _)⟩
 ·cases e⟩
def cP:D->D->Option D:=dII (fun _ j=>decide (0<j)) fun i j=> .int (i % j)
theorem eB:OpR X (binaryOp .Mod) (POp X.K U cP):=⟨by
 rintro pins s σ H x y v u Q I rx ry ⟨dx,dy,d,fx,fy,r1,r2,e,q⟩
 obtain⟨i,j,rfl,rfl,hc,rfl⟩:=zj6 e
 exact xK pins s σ H x y v u Q I rx ry ⟨i,j,r1.is_int,r2.is_int,Yo hc,q.now (.int _)⟩⟩
def eA:D->D->Option D:=dII (fun _ j=>decide (0<j)&&decide (j<1073741824)) fun i j=> .int (i/j)
theorem kL:OpR X (binaryOp .FloorDiv) (POp X.K U eA):=⟨by
 rintro pins s σ H x y v u Q I rx ry ⟨dx,dy,d,fx,fy,r1,r2,e,q⟩
 obtain⟨i,j,rfl,rfl,hc,rfl⟩:=zj6 e
 simp only [ZF,ZM] at hc
 exact zr7 pins s σ H x y v u Q I rx ry ⟨i,j,r1.is_int,r2.is_int,hc,q.now (.int _)⟩⟩
def D.ints:List D->Option (List Int)
 |[]=>some []
 | .int i::ds=>(D.ints ds).map (i::·)
 |_::_=>none
theorem vT{K:tz0}{H:Hp}:∀{vs:List V} {ds:List D} {fp:List Addr} {ns:List Int},Reps K U H vs ds fp->D.ints ds=some ns->vs=ns.map V.int
 |_,_,_,_,.nil,e=>by cases e;rfl
 | _,d::ds,_,ns,.cons h hs,e=>by
  cases d with
  |int i=>
   rw [D.ints] at e
   cases e1:D.ints ds with
   |none=>rw [e1] at e;cases e
   |some ms=>rw [e1] at e;cases e;rw [h.is_int,vT hs e1];rfl
  |_=>cases e
def dLt:D->D->Option D
 | .int i,.int j=>some (.bl (decide (i<j)))
 |_,_=>none
theorem kS(hu:X.A.units<cLine):OpR X (compareOp .Lt) (POp X.K U dLt):=⟨by
 rintro pins s σ H x y v u Q I rx ry ⟨dx,dy,d,fx,fy,r1,r2,e,q⟩
 unfold dLt at e
 split at e
 ·rename_i i j
  cases e;exact xm8 pins s σ H x y v u Q I rx ry ⟨i,j,r1.is_int,r2.is_int,q.now (.bl _)⟩
 ·cases e⟩
def dLe:D->D->Option D
 | .int i,.int j=>some (.bl (decide (i<=j)))
 |_,_=>none
theorem zx9:OpR X (compareOp .LtE) (POp X.K U dLe):=⟨by
 rintro pins s σ H x y v u Q I rx ry ⟨dx,dy,d,fx,fy,r1,r2,e,q⟩
 unfold dLe at e
 split at e
 ·rename_i i j
  cases e;exact xm9 pins s σ H x y v u Q I rx ry ⟨i,j,r1.is_int,r2.is_int,q.now (.bl _)⟩
 ·cases e⟩
def dGt:D->D->Option D
 | .int i,.int j=>some (.bl (decide (j<i)))
 |_,_=>none
theorem yo1:OpR X (compareOp .Gt) (POp X.K U dGt):=⟨by
 rintro pins s σ H x y v u Q I rx ry ⟨dx,dy,d,fx,fy,r1,r2,e,q⟩
 unfold dGt at e
 split at e
 ·rename_i i j
  cases e;exact xn0 pins s σ H x y v u Q I rx ry ⟨i,j,r1.is_int,r2.is_int,q.now (.bl _)⟩
 ·cases e⟩
def dGe:D->D->Option D
 | .int i,.int j=>some (.bl (decide (j<=i)))
 |_,_=>none
theorem xh2:OpR X (compareOp .GtE) (POp X.K U dGe):=⟨by
 rintro pins s σ H x y v u Q I rx ry ⟨dx,dy,d,fx,fy,r1,r2,e,q⟩
 unfold dGe at e
 split at e
 ·rename_i i j
  cases e;exact xn1 pins s σ H x y v u Q I rx ry ⟨i,j,r1.is_int,r2.is_int,q.now (.bl _)⟩
 ·cases e⟩
mutual
def D.data:D->Option PyData
 | .non=>some .none
 | .bl b=>some (.bool b)
 | .int i=>some (.int i)
 | .str x=>some (.str x)
 | .tup xs=>(D.datas xs).map .tuple
 | .lst _ xs=>(D.datas xs).map .list
 |_=>none
def D.datas:List D->Option (List PyData)
 |[]=>some []
 |d::ds=>d.data.bind fun p=>(D.datas ds).map (p::·)
end
theorem Reps.dps{K:tz0}{H:Hp}{vs:List V}{ds:List D}{fp:List Addr}(h:Reps K U H vs ds fp):∀{p:List PyData},D.datas ds=some p->DpAll K H vs p:=
 Reps.rec (motive_1:=fun v d _ _=>∀{p:PyData},d.data=some p->Dp K H v p) (motive_2:=fun vs ds _ _=>∀{p:List PyData},D.datas ds=some p->DpAll K H vs p)
  (fun e=>by cases e;exact .non) (fun b _ e=>by cases e;exact .bl b) (fun b _ e=>by cases e;exact .int b) (fun b _ e=>by cases e;exact .str b) (fun b _ e=>nomatch e)
  (fun h _ ih _ e=>by obtain⟨ps,e1,e⟩:=Zj.mp e;subst e;exact .tup h (ih e1)) (fun _ _ _ _ e=>nomatch e)
  (fun h _ ih _ e=>by obtain⟨ps,e1,e⟩:=Zj.mp e;subst e;exact .lst (.inl (.inl h)) (ih e1))
  (fun h _ ih _ e=>by obtain⟨ps,e1,e⟩:=Zj.mp e;subst e;exact .lst (.inl (.inr ⟨_,h⟩)) (ih e1))
  (fun _ _ _ _ _ e=>nomatch e) (fun _ _ _ _ _ e=>nomatch e) (fun _ _ _ _ _ e=>nomatch e) (fun _ _ _ _ _ e=>nomatch e)
  (fun _ _ e=>nomatch e) (fun _ _ _ _ _ e=>nomatch e) (fun _ _ _ _ _ e=>nomatch e)
  (fun e=>by cases e;exact .nil)
  (fun _ _ i1 i2 _ e=>by
   obtain⟨q,e1,e⟩:=bind_some e
   obtain⟨qs,e2,e⟩:=Zj.mp e
   subst e
   exact .cons (i1 e1) (i2 e2)) h
theorem Rep.dp{K:tz0}{H:Hp}{v:V}{d:D}{fp:List Addr}{p:PyData}(h:Rep K U H v d fp)(e:d.data=some p):Dp K H v p:=by
 have:=(Reps.one h).dps (p:=[p]) (by show(d.data.bind _)=_;rw [e];rfl)
 cases this;assumption
def vD(x y:D):Option Bool:=x.data.bind fun a=>y.data.bind fun b=>if (a.canLay0&&b.canLay0&&decide (a.depth<=60))=true then some (PyData.eqv a b) else none
def eqB(x y:D):Option Bool:=match x,y with
 | .int i,.int j=>some (decide (i=j))
 | .str i,.str j=>some (decide (i=j))
 |x,y=>vD x y
def dEq(x y:D):Option D:=(eqB x y).map .bl
def dNe(x y:D):Option D:=(eqB x y).map fun b=> .bl (!b)
theorem zb8(h:eqB x y=some b):(∃i j,x= .int i/\y= .int j/\b=decide (i=j))\/(∃i j,x= .str i/\y= .str j/\b=decide (i=j))\/
  ∃p q,x.data=some p/\y.data=some q/\p.canLay0=true/\q.canLay0=true/\p.depth<=60/\b=PyData.eqv p q:=by
 have gen:vD x y=some b->∃p q,x.data=some p/\y.data=some q/\p.canLay0=true/\q.canLay0=true/\p.depth<=60/\b=PyData.eqv p q:=fun h=>by
  unfold vD at h
  cases e1:x.data with
  |none=>rw [e1] at h;cases h
  | some p=>
   rw [e1] at h
   cases e2:y.data with
   |none=>rw [e2] at h;cases h
   | some q=>
    rw [e2] at h
    have h':(if (p.canLay0&&q.canLay0&&decide (p.depth<=60))=true then some (PyData.eqv p q) else none)=some b:=h
    split at h'
    ·rename_i hc
     simp only [ZF,ZM] at hc
     exact⟨p,q,rfl,rfl,hc.1.1,hc.1.2,hc.2,(Zz h').symm⟩
    ·cases h'
 unfold eqB at h
 split at h
 ·cases h;exact .inl ⟨_,_,rfl,rfl,rfl⟩
 ·cases h;exact .inr (.inl ⟨_,_,rfl,rfl,rfl⟩)
 ·exact .inr (.inr (gen h))
theorem eY(hu:X.A.units+64<cLine):OpR X (compareOp .Eq) (POp X.K U dEq):=⟨by
 rintro pins s σ H x y v u Q I rx ry ⟨dx,dy,d,fx,fy,r1,r2,e,q⟩
 unfold dEq at e
 cases e1:eqB dx dy with
 |none=>rw [e1] at e;cases e
 | some b=>
  rw [e1] at e
  cases e
  rcases zb8 e1 with ⟨i,j,rfl,rfl,rfl⟩|⟨i,j,rfl,rfl,rfl⟩|⟨p,p',h1,h2,h3,h4,h5,rfl⟩
  ·rw [r1.is_int] at rx;rw [r2.is_int] at ry
   exact zw3 pins s σ H _ _ v u Q I rx ry ⟨rfl,by rw [show decide (V.int i=V.int j)=decide (i=j) by simp];exact q.now (.bl _)⟩
  ·rw [r1.is_str] at rx;rw [r2.is_str] at ry
   exact zw3 pins s σ H _ _ v u Q I rx ry ⟨rfl,by rw [show decide (V.str i=V.str j)=decide (i=j) by simp];exact q.now (.bl _)⟩
  ·exact xg8 hu pins s σ H _ _ v u Q I rx ry ⟨p,p',r1.dp h1,r2.dp h2,h3,h4,h5,q.now (.bl _)⟩⟩
theorem xq3(hu:X.A.units+64<cLine):OpR X (compareOp .NotEq) (POp X.K U dNe):=⟨by
 rintro pins s σ H x y v u Q I rx ry ⟨dx,dy,d,fx,fy,r1,r2,e,q⟩
 unfold dNe at e
 cases e1:eqB dx dy with
 |none=>rw [e1] at e;cases e
 | some b=>
  rw [e1] at e
  cases e
  rcases zb8 e1 with ⟨i,j,rfl,rfl,rfl⟩|⟨i,j,rfl,rfl,rfl⟩|⟨p,p',h1,h2,h3,h4,h5,rfl⟩
  ·rw [r1.is_int] at rx;rw [r2.is_int] at ry
   exact yv1 pins s σ H _ _ v u Q I rx ry ⟨rfl,by rw [show decide (V.int i=V.int j)=decide (i=j) by simp];exact q.now (.bl _)⟩
  ·rw [r1.is_str] at rx;rw [r2.is_str] at ry
   exact yv1 pins s σ H _ _ v u Q I rx ry ⟨rfl,by rw [show decide (V.str i=V.str j)=decide (i=j) by simp];exact q.now (.bl _)⟩
  ·exact xg9 hu pins s σ H _ _ v u Q I rx ry ⟨p,p',r1.dp h1,r2.dp h2,h3,h4,h5,q.now (.bl _)⟩⟩
def yT:D->Bool
 | .non=>true
 |_=>false
theorem zj7{K:tz0}{H:Hp}{v:V}{d:D}{fp:List Addr}(r:Rep K U H v d fp):decide (v= .non)=yT d:=by cases r<;>first|rfl|simp [yT]
def dIs:D->D->Option D
 |x,.non=>some (.bl (yT x))
 |_,_=>none
def zp0:D->D->Option D
 |x,.non=>some (.bl (!(yT x)))
 |_,_=>none
theorem zy0:OpR X (compareOp .Is) (POp X.K U dIs):=⟨by
 rintro pins s σ H x y v u Q I rx ry ⟨dx,dy,d,fx,fy,r1,r2,e,q⟩
 cases dy with
 |non=>
  cases e;cases r2
  refine xf5 pins s σ H x _ v u Q I rx ry ⟨rfl,?_⟩
  rw [zj7 r1];exact q.now (.bl _)
 |_=>cases e⟩
theorem yy7:OpR X (compareOp .IsNot) (POp X.K U zp0):=⟨by
 rintro pins s σ H x y v u Q I rx ry ⟨dx,dy,d,fx,fy,r1,r2,e,q⟩
 cases dy with
 |non=>
  cases e;cases r2
  refine yx1 pins s σ H x _ v u Q I rx ry ⟨rfl,?_⟩
  rw [zj7 r1];exact q.now (.bl _)
 |_=>cases e⟩
def D.flat:D->Option V
 | .non=>some .non
 | .bl b=>some (.bl b)
 | .int i=>some (.int i)
 | .str x=>some (.str x)
 |_=>none
def D.flats:List D->Option (List V)
 |[]=>some []
 |d::ds=>d.flat.bind fun v=>(D.flats ds).map (v::·)
theorem zs7{K:tz0}{H:Hp}{v w:V}{d:D}{fp:List Addr}(r:Rep K U H v d fp)(h:d.flat=some w):v=w/\jN v=true:=by
 cases r<;>first|(cases h;exact⟨rfl,rfl⟩)|cases h
theorem zj8{K:tz0}{H:Hp}:∀{vs ws:List V} {ds:List D} {fp:List Addr},Reps K U H vs ds fp->D.flats ds=some ws->vs=ws/\vs.all jN=true
 |_,_,_,_,.nil,e=>by cases e;exact⟨rfl,rfl⟩
 | _,ws,d::ds,_,.cons h hs,e=>by
  rw [D.flats] at e
  cases e1:d.flat with
  |none=>rw [e1] at e;cases e
  | some w=>
   rw [e1] at e
   cases e2:D.flats ds with
   |none=>rw [e2] at e;cases e
   |some us=>
    rw [e2] at e;cases e
    obtain⟨a1,a2⟩:=zs7 h e1
    obtain⟨b1,b2⟩:=zj8 hs e2
    exact⟨by rw [a1,b1],by rw [Xr,a2,b2];rfl⟩
def oZ(x:D)(ds:List D):Option Bool:=x.flat.bind fun v=>(D.flats ds).map fun ws=>inV v ws
def inB(x:D):D->Option Bool
 | .lst _ ds=>oZ x ds
 | .tup ds=>oZ x ds
 |_=>none
def dIn(x y:D):Option D:=(inB x y).map .bl
theorem xh3{H:Hp}{x y:V}{dx dy:D}{fx fy:List Addr}{b:Bool}(r1:Rep X.K U H x dx fx)(r2:Rep X.K U H y dy fy)(e:inB dx dy=some b):
  ∃p xs,y= .ref p/\(SqL X.K H p xs\/SqT X.K H p xs)/\jN x=true/\xs.all jN=true/\b=inV x xs:=by
 have gen:∀{vs:List V} {ds:List D} {g:List Addr},Reps X.K U H vs ds g->oZ dx ds=some b->jN x=true/\vs.all jN=true/\b=inV x vs:=fun {vs ds g} rs h=>by
  unfold oZ at h
  cases e1:dx.flat with
  |none=>rw [e1] at h;cases h
  | some w=>
   rw [e1] at h
   cases e2:D.flats ds with
   |none=>rw [e2] at h;cases h
   |some ws=>
    rw [e2] at h
    obtain⟨a1,a2⟩:=zs7 r1 e1
    obtain⟨b1,b2⟩:=zj8 rs e2
    subst a1 b1
    exact⟨a2,b2,(Zz h).symm⟩
 cases dy with
 |lst o ds=>
  obtain⟨a,vs,g,rfl,h,hs,_⟩:=r2.lst_inv
  obtain⟨g1,g2,g3⟩:=gen hs e
  exact⟨a,vs,rfl,.inl (.inl h),g1,g2,g3⟩
 |tup ds=>
  obtain⟨a,vs,rfl,h,hs⟩:=r2.tup_inv
  obtain⟨g1,g2,g3⟩:=gen hs e
  exact⟨a,vs,rfl,.inr h,g1,g2,g3⟩
 |_=>cases e
theorem yo2:OpR X (compareOp .In) (POp X.K U dIn):=⟨by
 rintro pins s σ H x y v u Q I rx ry ⟨dx,dy,d,fx,fy,r1,r2,e,q⟩
 unfold dIn at e
 cases e1:inB dx dy with
 |none=>rw [e1] at e;cases e
 |some b=>
  rw [e1] at e;cases e
  obtain⟨p,xs,ey,h,f1,f2,rfl⟩:=xh3 r1 r2 e1
  exact ye7 pins s σ H x y v u Q I rx ry ⟨p,xs,ey,h,f1,f2,q.now (.bl _)⟩⟩
end
theorem Reps.getS{K:tz0}{U:tz9}{H:Hp}:∀{vs:List V} {ds:List D} {fp:List Addr} {i:Nat} {d:D},Reps K U H vs ds fp->ds[i]? =some d->∃v f,vs[i]? =some v/\Rep K U H v d f/\f.Sublist fp
 |_,_,_,_,_,.nil,e=>by simp at e
 |_,_,_,0,_,.cons h _,e=>by simp at e;subst e;exact⟨_,_,rfl,h,Xt _ _⟩
 |_,_,_,i+1,_,.cons _ hs,e=>by
  obtain⟨v,f,h1,h2,h3⟩:=Reps.getS (i:=i) hs (by simpa using e)
  exact⟨v,f,by simpa using h1,h2,h3.trans (Xp _ _)⟩
theorem Reps.atI{K:tz0}{U:tz9}{H:Hp}{vs:List V}{ds:List D}{fp:List Addr}{i:Int}{d:D}(r:Reps K U H vs ds fp)(h:L2.atI ds i=some d):∃v f,L2.atI vs i=some v/\Rep K U H v d f/\f.Sublist fp:=by
 unfold L2.atI at h|-
 rw [r.length]
 cases e:ixN ds.length i with
 |none=>rw [e] at h;cases h
 |some j=>rw [e] at h;exact r.getS h
section
variable{X:Cx}{U:tz9}{e a b:Expr}{es:List Expr}{f fa fb:tz2}{g:tz3}{pos p2:Pos}
def aD:tz3:=fun _=>some []
def aA(f:tz2)(g:tz3):tz3:=fun ps=>(f ps).bind fun d=>(g ps).bind fun ds=>some (d::ds)
theorem sP(h:aA f g ps=some ds):∃d es,f ps=some d/\g ps=some es/\ds=d::es:=by
 unfold aA at h
 cases e1:f ps with
 |none=>rw [e1] at h;cases h
 |some d=>
  rw [e1] at h
  cases e2:g ps with
  |none=>rw [e2] at h;cases h
  |some es=>rw [e2] at h;cases h;exact⟨d,es,rfl,rfl,rfl⟩
theorem aW:QVA X U [] aD:=lY.imp fun σ H Q ⟨ps,ds,w,e,q⟩=>by cases e;exact q [] H [] (.refl H) .nil
theorem aG(ha:QV X U e f)(hr:QVA X U es g)(hs:StE e es X:=by rfl):QVA X U (e::es) (aA f g):=
 (fH ha hr hs).imp fun σ H Q hh_=>by
  obtain⟨ps,ds,w,e,q⟩:=hh_
  obtain⟨d,es,e1,e2,rfl⟩:=sP e
  exact⟨ps,d,w,e1,fun v H1 fp s1 r1=>⟨ps,es,w.same s1,e2,fun vs H2 fq s2 r2=>q _ H2 _ (s1.trans s2) (.cons (r1.same s2) r2)⟩⟩
theorem aU:QPA X U [] aD:=lY.imp fun σ H Q ⟨ps,ds,w,e,q⟩=>by cases e;exact q [] H [] (.refl H) (fun _ h=>absurd h (by simp)) Zf .nil
theorem yf9{K:tz0}{H1:Hp}{v:V}{d:D}{fv fw:List Addr}(r:Rep K U H1 v d fv)(n1:fv.Nodup)(hw:∀a∈fw,H1 a=none)(n2:fw.Nodup):(fv++fw).Nodup:=by
 rw [Zy]
 refine⟨n1,n2,fun a ha b hb e=> ?_⟩
 subst e
 obtain⟨o,h,_⟩:=r.own a ha
 rw [hw a hb] at h;cases h
theorem aH(ha:QP X U e f)(hr:QPA X U es g)(hs:StE e es X:=by rfl):QPA X U (e::es) (aA f g):=
 (fH ha hr hs).imp fun σ H Q hh_=>by
  obtain⟨ps,ds,w,e,q⟩:=hh_
  obtain⟨d,es,e1,e2,rfl⟩:=sP e
  refine⟨ps,d,w,e1,fun v H1 fv s1 n1 nd1 r1=>⟨ps,es,w.same s1,e2,fun vs H2 fw s2 n2 nd2 r2=> ?_⟩⟩
  refine q _ H2 (fv++fw) (s1.trans s2) (fun a ha=> ?_) (yf9 r1 nd1 n2 nd2) (.cons (r1.same s2) r2)
  rcases ZB.mp ha with z|z
  ·exact n1 a z
  ·exact s1.grow a (n2 a z)
def aT(g:tz3):tz2:=fun ps=>(g ps).bind fun ds=>if (D.imms ds&&decide (ds.length<=1000))=true then some (.tup ds) else none
def cE(g:tz3):tz2:=fun ps=>(g ps).bind fun ds=>if ds.length<=1000 then some (.lst true ds) else none
theorem bT{x1}(h:QPA X U es g):QP X U (.Tuple es x1 pos) (aT g):=
 (ye2 h).imp fun σ H Q hh_=>by
  obtain⟨ps,d,w,e,q⟩:=hh_
  obtain⟨ds,e1,e2⟩:=bind_some e
  obtain⟨hc,e3⟩:=bL e2
  cases e3
  rw [ZF,ZM] at hc
  refine⟨ps,ds,w,e1,fun vs H1 fv s1 n1 nd1 r1=>⟨by rw [r1.length];exact xQ hc.2,fun p hp=> ?_⟩⟩
  exact zL hp (r1.pair hc.1) (q.after s1)
theorem dL(h:QPA X U es g):QP X U (.List es pos) (cE g):=
 (xf9 h).imp fun σ H Q hh_=>by
  obtain⟨ps,d,w,e,q⟩:=hh_
  obtain⟨ds,e1,e2⟩:=bind_some e
  obtain⟨hc,e3⟩:=bL e2
  cases e3
  refine⟨ps,ds,w,e1,fun vs H1 fv s1 n1 nd1 r1=>⟨by rw [r1.length];exact xQ hc,fun p hp=> ?_⟩⟩
  refine q _ _ (p::fv) (s1.trans (.new hp _)) (fun a ha=> ?_) (Zo.mpr ⟨fun hm=> ?_,nd1⟩) (.lst bO (r1.same (.new hp _)))
  ·rcases Z8.mp ha with z|z
   ·rw [z];exact s1.grow p hp
   ·exact n1 a z
  ·obtain⟨o,h,_⟩:=r1.own p hm
   rw [hp] at h;cases h
def dIx:D->D->Option D
 | .lst _ xs,.int i=>atI xs i
 | .tup xs,.int i=>atI xs i
 | .con xs,.int i=>atI xs i
 | .str z,.int i=>if z.length<=sizeLine then(atI z.cps.toList i).map fun c=> .str ⟨#[c]⟩ else none
 |_,_=>none
theorem yg0{K:tz0}{H:Hp}{x y:V}{dx dy d:D}{fx fy:List Addr}{Q:VK}(r1:Rep K U H x dx fx)(r2:Rep K U H y dy fy)(e:dIx dx dy=some d)(q:∀v f,Rep K U H v d f->f.Sublist fx->Q v H):rIx K x y H Q:=by
 unfold dIx at e
 split at e
 ·rename_i o xs i
  obtain⟨a,vs,g,rfl,h,hs,sub⟩:=r1.lst_inv
  obtain⟨v,f,h1,h2,h3⟩:=hs.atI e
  exact .inl ⟨a,vs,i,v,rfl,r2.is_int,.inl h,h1,q v f h2 (h3.trans sub)⟩
 ·rename_i xs i
  obtain⟨a,vs,rfl,h,hs⟩:=r1.tup_inv
  obtain⟨v,f,h1,h2,h3⟩:=hs.atI e
  cases List.sublist_nil.mp h3
  exact .inr (.inl ⟨a,vs,i,v,rfl,r2.is_int,h,h1,q v [] h2 (X7 _)⟩)
 ·rename_i xs i
  obtain⟨a,vs,rfl,h,hs⟩:=r1.con_inv
  obtain⟨v,f,h1,h2,h3⟩:=hs.atI e
  cases List.sublist_nil.mp h3
  exact .inl ⟨a,vs,i,v,rfl,r2.is_int,h.l,h1,q v [] h2 (X7 _)⟩
 ·rename_i z i
  obtain⟨hz,e⟩:=bL e
  obtain⟨c,e1,e⟩:=Zj.mp e
  subst e
  exact .inr (.inr ⟨z,i,c,r1.is_str,r2.is_int,hz,e1,q _ [] (.str _) (X7 _)⟩)
 ·cases e
theorem bC(ha:QV X U a fa)(hb:QV X U b fb)(hs:vZ b:=by exact fun _ _=>rfl):QV X U (.Subscript a b pos) (f2 dIx fa fb):=
 (zf3 ye5 ha hb hs).imp fun σ H Q hh_=>by
  obtain⟨ps,d,w,e,q⟩:=hh_
  obtain⟨x,y,e1,e2,e3⟩:=rR e
  exact⟨ps,x,w,e1,fun v H1 fp s1 r1=>⟨ps,y,w.same s1,e2,fun u H2 fq s2 r2=>yg0 (r1.same s2) r2 e3 fun v f r _=>q v H2 f (s1.trans s2) r⟩⟩
theorem qP(ha:QP X U a fa)(hb:QV X U b fb)(hs:vZ b:=by exact fun _ _=>rfl):QP X U (.Subscript a b pos) (f2 dIx fa fb):=
 (zf3 ye5 ha hb hs).imp fun σ H Q hh_=>by
  obtain⟨ps,d,w,e,q⟩:=hh_
  obtain⟨x,y,e1,e2,e3⟩:=rR e
  exact⟨ps,x,w,e1,fun v H1 fv s1 n1 nd1 r1=>⟨ps,y,w.same s1,e2,fun u H2 fq s2 r2=>yg0 (r1.same s2) r2 e3 fun v f r sub=>q v H2 f (s1.trans s2) (fun c hc=>n1 c (sub.subset hc)) (nd1.sublist sub) r⟩⟩
def PCl(K:tz0)(U:tz9)(g:tz6):List V->Hp->VK->Prop:=fun vs H Q=>∃ds fp d,Reps K U H vs ds fp/\g ds=some d/\jX K U H d Q
def aL(h:tz6)(g:tz3):tz2:=fun ps=>(g ps).bind h
theorem yg1(q:tP X.K U (aL h g) σ H Q):tCB (PCl X.K U h) (tVA X.K U g) σ H Q:=by
 obtain⟨ps,d,w,e,q⟩:=q
 obtain⟨ds,e1,e2⟩:=bind_some e
 exact⟨ps,ds,w,e1,fun vs H1 fp s1 r1=>⟨ds,fp,d,r1,e2,q.after s1⟩⟩
theorem cS{x:Str}{id:String}{p:Pos}{h:tz6}(hc:CallR X (.builtin id) (PCl X.K U h))(hg:Gl X x)(hm:X.mg x=none)(hv:bootBuiltins x=some (.builtin id))(ha:QVA X U (e::es) g)(hn:x≠"__name__":=by decide)(hdb:NDb x:=by decide)
  (hs:StE e es X:=by rfl) (hpl:BkE pos es X:=by rfl):QP X U (.Call (.Name x p) (e::es) [] pos) (aL h g):=
 (pQ hc hg hm hv ha hn hdb hs hpl).imp fun _ _ _ q=>yg1 q
theorem lQ(hc:CallR X (.type T) (PCl X.K U h))(hg:Gl X x)(hm:X.mg x=none)(hv:bootBuiltins x=some (.type T))(ha:QVA X U (e::es) g)(hn:x≠"__name__":=by decide)(hdb:NDb x:=by decide)
  (hs:StE e es X:=by rfl) (hpl:BkE pos es X:=by rfl):QP X U (.Call (.Name x p) (e::es) [] pos) (aL h g):=
 (ye4 hc hg hm hv ha hn hdb hs hpl).imp fun _ _ _ q=>yg1 q
theorem Reps.two_inv{K:tz0}{H:Hp}{vs:List V}{d e:D}{fp:List Addr}(r:Reps K U H vs [d,e] fp):∃v u f g,vs=[v,u]/\Rep K U H v d f/\Rep K U H u e g:=by
 obtain⟨v,us,f,g,rfl,h,t,rfl⟩:=r.split
 obtain⟨u,rfl,h2⟩:=t.one_inv
 exact⟨v,u,f,g,rfl,h,h2⟩
def cM:tz6
 |[.lst _ xs]=>some (.int xs.length)
 |[.tup xs]=>some (.int xs.length)
 |[.con xs]=>some (.int xs.length)
 |[.str z]=>if z.length<=sizeLine then some (.int z.length) else none
 |_=>none
theorem gA:CallR X (.builtin "len") (PCl X.K U cM):=⟨by
 rintro pins s σ H vs us Q I r ⟨ds,fp,d,rs,e,q⟩
 unfold cM at e
 split at e
 ·cases e
  obtain⟨v,rfl,r1⟩:=rs.one_inv
  obtain⟨a,ws,g,rfl,h,hs,_⟩:=r1.lst_inv
  exact iP pins s σ H _ us Q I r ⟨a,ws,rfl,.inl (.inl h),by rw [hs.length];exact q.now (.int _)⟩
 ·cases e
  obtain⟨v,rfl,r1⟩:=rs.one_inv
  obtain⟨a,ws,rfl,h,hs⟩:=r1.tup_inv
  exact iP pins s σ H _ us Q I r ⟨a,ws,rfl,.inr h,by rw [hs.length];exact q.now (.int _)⟩
 ·cases e
  obtain⟨v,rfl,r1⟩:=rs.one_inv
  obtain⟨a,ws,rfl,h,hs⟩:=r1.con_inv
  exact iP pins s σ H _ us Q I r ⟨a,ws,rfl,.inl h.l,by rw [hs.length];exact q.now (.int _)⟩
 ·obtain⟨hz,e⟩:=bL e
  cases e
  obtain⟨v,rfl,r1⟩:=rs.one_inv
  exact zj1 pins s σ H _ us Q I r ⟨_,by rw [r1.is_str],hz,q.now (.int _)⟩
 ·cases e⟩
def nJ:tz6
 |[.int i,.int j]=>some (.int (if j<i then j else i))
 |_=>none
theorem zj9(hc:X.calm=true):CallR X (.builtin "min") (PCl X.K U nJ):=⟨by
 rintro pins s σ H vs us Q I r ⟨ds,fp,d,rs,e,q⟩
 unfold nJ at e
 split at e
 ·cases e
  obtain⟨v,u,f,g,rfl,r1,r2⟩:=rs.two_inv
  exact yd9 hc pins s σ H _ us Q I r ⟨_,_,by rw [r1.is_int,r2.is_int],q.now (.int _)⟩
 ·cases e⟩
def dTy:D->Option String
 | .non=>some "NoneType"
 | .bl _=>some "bool"
 | .int _=>some "int"
 | .str _=>some "str"
 | .lst _ _=>some "list"
 | .tup _=>some "tuple"
 | .dic true _ _=>some "dict"
 |_=>none
def za3:tz6
 |[x,.ty c]=>(dTy x).bind fun t=>if c∈["bool","int","str","list","tuple","dict"] then some (.bl (yR t c)) else none
 |_=>none
theorem xh4{K:tz0}{H:Hp}{v:V}{d:D}{fp:List Addr}{t:String}(r:Rep K U H v d fp)(h:dTy d=some t):(sF H v=some t\/(t="tuple"/\∃a xs,v= .ref a/\SqT K H a xs)):=by
 cases r with
 |non=>cases h;exact .inl rfl
 |bl _=>cases h;exact .inl rfl
 |int _=>cases h;exact .inl rfl
 |str _=>cases h;exact .inl rfl
 |tup s _=>cases h;exact .inr ⟨rfl,_,_,rfl,s⟩
 |lst s _=>cases h;exact .inl (by simp [sF,s])
 |lstF s _=>cases h;exact .inl (by simp [sF,s])
 |dic s _ _=>cases h;exact .inl (by simp [sF,s])
 |_=>cases h
theorem xn6:CallR X (.builtin "isinstance") (PCl X.K U za3):=⟨by
 rintro pins s σ H vs us Q I r ⟨ds,fp,d,rs,e,q⟩
 unfold za3 at e
 split at e
 ·obtain⟨t,e1,e2⟩:=bind_some e
  obtain⟨hc,e3⟩:=bL e2
  cases e3
  obtain⟨v,u,f,g,rfl,r1,r2⟩:=rs.two_inv
  cases r2
  rcases xh4 r1 e1 with h|⟨rfl,a,xs,rfl,h⟩
  ·exact yn8 pins s σ H _ us Q I r ⟨_,_,t,rfl,h,hc,q.now (.bl _)⟩
  ·obtain⟨u1,u2,rfl,rx,rc⟩:=zf2 r
   cases(show u2=Value.type _ from rc)
   cases(show u1=Value.ref a from rx)
   obtain⟨its,rv,⟨o,h1,h2,_⟩,_⟩:=I.tuple h
   exact ZJ XN I.kIn ⟨o,h1,h2⟩ (zj2 X.K "tuple" (by decide) _ hc) (fun z=>nomatch z) fun tk=>⟨.bl _,H,I.tok tk,rfl,q.now (.bl _)⟩
 ·cases e⟩
def fR:tz6
 |[.lst _ xs]=>if D.imms xs=true then some (.tup xs) else none
 |[.tup xs]=>some (.tup xs)
 |_=>none
theorem pH:CallR X (.type "tuple") (PCl X.K U fR):=⟨by
 rintro pins s σ H vs us Q I r ⟨ds,fp,d,rs,e,q⟩
 unfold fR at e
 split at e
 ·obtain⟨hc,e⟩:=bL e
  cases e
  obtain⟨v,rfl,r1⟩:=rs.one_inv
  obtain⟨a,ws,g,rfl,h,hs,_⟩:=r1.lst_inv
  exact tX pins s σ H _ us Q I r ⟨a,ws,rfl,.inl ⟨.inl h,fun p hp=>zL hp (hs.pair hc) q⟩⟩
 ·cases e
  obtain⟨v,rfl,r1⟩:=rs.one_inv
  obtain⟨a,ws,rfl,h,hs⟩:=r1.tup_inv
  exact tX pins s σ H _ us Q I r ⟨a,ws,rfl,.inr ⟨h,q.now (.tup h hs)⟩⟩
 ·cases e⟩
def PMt(K:tz0)(U:tz9)(g:D->tz6):V->List V->Hp->VK->Prop:=fun x vs H Q=>∃dx ds fx fp d,Rep K U H x dx fx/\Reps K U H vs ds fp/\g dx ds=some d/\jX K U H d Q
def zg4:D->Bool
 | .str _=>true
 |_=>false
def fMt(h:D->tz6)(f:tz2)(g:tz3):tz2:=fun ps=>(f ps).bind fun x=>(g ps).bind fun ds=>if zg4 x=true then h x ds else none
theorem zf9{name:Str}{id:String}{apos:Pos}{h:D->tz6}(slot:Slot "str" name id)(hty:typeOf (.builtin id)=pure (.type "method_descriptor"))(hm:MtR X id (PMt X.K U h))(ho:QV X U a fa)(ha:QVA X U (e::es) g)
  (hbase:attributeBase a name X.env (eval a X.env)=eval a X.env:=by rfl)
  (hfew:((backTo pos (starEach (e::es) X.env)).all (fun x=> !x.1)&&(backToKw pos (keywordEach [] X.env)).all (fun x=>x.1.isSome)
   &&decide ((e::es).length+([]:List Keyword).length+(if ([]:List Keyword).isEmpty then 0 else 1)<30))=true:=by rfl)
  (hline:(apos.endLine==pos.line)=true:=by rfl) (hs:StE e es X:=by rfl) (hplain:BkE pos es X:=by rfl):
  QP X U (.Call (.Attribute a name apos) (e::es) [] pos) (fMt h fa g):=
 (yv2 PySem.F.plainAttrs_str slot hty hm ho ha hbase hfew hline hs hplain).imp fun σ H Q hh_=>by
  obtain⟨ps,d,w,e,q⟩:=hh_
  obtain⟨x,e1,e2⟩:=bind_some e
  obtain⟨ds,e3,e4⟩:=bind_some e2
  obtain⟨hc,e5⟩:=bL e4
  refine⟨ps,x,w,e1,fun v H1 fp s1 r1=>⟨?_,ps,ds,w.same s1,e3,fun vs H2 fq s2 r2=>⟨x,ds,fp,fq,d,r1.same s2,r2,e5,q.after (s1.trans s2)⟩⟩⟩
  cases x with
  |str z=>rw [r1.is_str];rfl
  |_=>cases hc
def wA(l:List Str):List D:=l.map .str
theorem zb9{K:tz0}{H:Hp}:∀l:List Str,Paired (fun v d=>Rep K U H v d []) (l.map V.str) (wA l)
 |[]=> .nil
 |x::l=> .cons (.str x) (zb9 l)
def yU:D->tz6
 | .str z,[.str y]=>if ((y.length==0)=false/\z.length<1000000) then some (.lst true (wA (Txt.split z y))) else none
 |_,_=>none
theorem yy8:MtR X "str.split" (PMt X.K U yU):=⟨by
 rintro pins s σ H x vs v us Q I rx r ⟨dx,ds,fx,fp,d,r1,rs,e,q⟩
 unfold yU at e
 split at e
 ·obtain⟨hc,e⟩:=bL e
  cases e
  obtain⟨w,rfl,r2⟩:=rs.one_inv
  exact yn9 pins s σ H x _ v us Q I rx r ⟨_,_,r1.is_str,by rw [r2.is_str],hc.1,hc.2,fun p hp=>zs6 hp (zb9 _) q⟩
 ·cases e⟩
end
structure Fx where
 K:tz0
 U:tz9
 bor:Nat->Bool
 M:Nat->Bool
 B:Nat->Addr->Prop
structure RS(φ:Fx)(H:Hp)(σ:St)(ps:PSt)(F:Nat->List Addr):Prop where
 rep:∀(i:Nat) (d:D),ps[i]? =some (some d)->∃v fp,σ[i]? =some (some v)/\Rep φ.K φ.U H v d fp/\(φ.bor i=false->fp=F i)/\(φ.bor i=true->∀a∈fp,φ.B i a)
 emp:∀i a,a∈F i->φ.bor i=false/\∃d,ps[i]? =some (some d)
 dis:∀i j a,a∈F i->a∈F j->i=j
 nd:∀i,(F i).Nodup
 nb:∀i a,a∈F i->∀k,¬φ.B k a
 bt:∀k a,φ.B k a->H a≠none
 len:ps.length<=σ.length
structure Frm(F:Nat->List Addr)(H H':Hp):Prop where
 keep:∀a o,H a=some o->kd o=true->(∀i,a∉F i)->H' a=some o
 grow:∀a,H' a=none->H a=none
structure Stp(φ:Fx)(σ:St)(H:Hp)(F:Nat->List Addr)(σ':St)(H':Hp)(ps':PSt)(F':Nat->List Addr):Prop where
 fr:Frm F H H'
 nw:∀i a,a∈F' i->(∃j,a∈F j)\/H a=none
 rs:RS φ H' σ' ps' F'
 msk:∀i,φ.M i=true->σ'[i]? =σ[i]?
structure OwnV(F:Nat->List Addr)(H:Hp)(F':Nat->List Addr)(fv:List Addr):Prop where
 nw:∀a∈fv,(∃j,a∈F j)\/H a=none
 nd:fv.Nodup
 dis:∀i,∀a∈F' i,a∉fv
section
variable{φ:Fx}{H H' H1 H2:Hp}{σ σ1 σ2:St}{ps ps1 ps2:PSt}{F F1 F2:Nat->List Addr}
theorem RS.own(R:RS φ H σ ps F){i:Nat}{a:Addr}(h:a∈F i):∃o,H a=some o/\kd o=true/\tf o=false:=by
 obtain⟨b,d,e⟩:=R.emp i a h
 obtain⟨v,fp,_,r,q,_⟩:=R.rep i d e
 rw [<-q b] at h
 exact r.own a h
theorem RS.ws(R:RS φ H σ ps F):WS φ.K φ.U H σ ps:=fun i d h=>by
 obtain⟨v,fp,h1,h2,_⟩:=R.rep i d h
 exact⟨v,fp,h1,h2⟩
theorem RS.same(R:RS φ H σ ps F)(s:SameK H H'):RS φ H' σ ps F:=
 ⟨fun i d h=>by obtain⟨v,fp,h1,h2,h3⟩:=R.rep i d h;exact⟨v,fp,h1,h2.same s,h3⟩,R.emp,R.dis,R.nd,R.nb,fun k a h z=>R.bt k a h (s.grow a z),R.len⟩
theorem RS.notB(R:RS φ H σ ps F){a:Addr}(h:(∃j,a∈F j)\/H a=none):∀k,¬φ.B k a:=fun k hb=>h.elim (fun⟨j,hj⟩=>R.nb j a hj k hb) fun z=>R.bt k a hb z
theorem Stp.same(R:RS φ H σ ps F)(s:SameK H H'):Stp φ σ H F σ H' ps F:=
 ⟨⟨fun a o h k _=>s.keep a o h k,s.grow⟩,fun i a h=> .inl ⟨i,h⟩,R.same s,fun _ _=>rfl⟩
theorem Stp.refl(R:RS φ H σ ps F):Stp φ σ H F σ H ps F:= .same R (.refl H)
theorem Stp.trans(s1:Stp φ σ H F σ1 H1 ps1 F1)(s2:Stp φ σ1 H1 F1 σ2 H2 ps2 F2):Stp φ σ H F σ2 H2 ps2 F2:=by
 refine⟨⟨fun a o h k n=>s2.fr.keep a o (s1.fr.keep a o h k n) k fun i hi=> ?_,fun a h=>s1.fr.grow a (s2.fr.grow a h)⟩,fun i a h=> ?_,s2.rs,fun i h=>(s2.msk i h).trans (s1.msk i h)⟩
 ·rcases s1.nw i a hi with ⟨j,hj⟩|z
  ·exact n j hj
  ·rw [h] at z;cases z
 ·rcases s2.nw i a h with ⟨j,hj⟩|z
  ·exact s1.nw j a hj
  ·exact .inr (s1.fr.grow a z)
theorem OwnV.after(s1:Stp φ σ H F σ1 H1 ps1 F1)(o:OwnV F1 H1 F2 fv):OwnV F H F2 fv:=
 ⟨fun a ha=>(o.nw a ha).elim (fun⟨j,hj⟩=>s1.nw j a hj) fun z=> .inr (s1.fr.grow a z),o.nd,o.dis⟩
theorem OwnV.new(R:RS φ H σ ps F)(n:∀a∈fv,H a=none)(nd:fv.Nodup):OwnV F H F fv:=
 ⟨fun a ha=> .inr (n a ha),nd,fun i a ha hb=>by obtain⟨o,h,_⟩:=R.own ha;rw [n a hb] at h;cases h⟩
def kU(F:Nat->List Addr)(i:Nat)(fv:List Addr):Nat->List Addr:=fun j=>if j=i then fv else F j
theorem eC:kU F i fv i=fv:=by simp [kU]
theorem eE(h:j≠i):kU F i fv j=F j:=by simp [kU,h]
theorem iW(h:a∈kU F i fv j):a∈fv\/a∈F j:=by
 by_cases e:j=i
 ·subst e;rw [eC] at h;exact .inl h
 ·rw [eE e] at h;exact .inr h
theorem RS.drop(R:RS φ H σ ps F)(i:Nat):RS φ H σ (ps.set i none) (kU F i []):=by
 have eF:∀j a,a∈kU F i [] j->j≠i/\a∈F j:=fun j a h=>by
  by_cases e:j=i
  ·subst e;rw [eC] at h;exact absurd h (by simp)
  ·rw [eE e] at h;exact⟨e,h⟩
 refine⟨fun j d h=> ?_,fun j a h=> ?_,fun j k a h1 h2=>R.dis j k a (eF j a h1).2 (eF k a h2).2,fun j=> ?_,fun j a h=>R.nb j a (eF j a h).2,R.bt,by simpa using R.len⟩
 ·have e:j≠i:=by
   rintro rfl
   by_cases hj:j<ps.length
   ·rw [Zv hj] at h;cases h
   ·rw [YN (by simpa using hj)] at h;cases h
  rw [Zq (fun z=>e z.symm)] at h
  rw [eE e]
  exact R.rep j d h
 ·obtain⟨e,h⟩:=eF j a h
  obtain⟨b,d,q⟩:=R.emp j a h
  exact⟨b,d,by rw [Zq (fun z=>e z.symm)];exact q⟩
 ·by_cases e:j=i
  ·subst e;rw [eC];exact Zf
  ·rw [eE e];exact R.nd j
theorem RS.set(R:RS φ H σ ps F){i:Nat}{v:V}{d:D}{fv:List Addr}(r:Rep φ.K φ.U H v d fv)(hb:φ.bor i=false\/fv=[])(hd:∀j,j≠i->∀a∈F j,a∉fv)(hn:fv.Nodup)(hB:∀a∈fv,∀k,¬φ.B k a):
  RS φ H (σ.set i (some v)) (ps.set i (some d)) (kU F i (if i<ps.length then fv else [])):=by
 by_cases hi:i<ps.length
 ·rw [if_pos hi]
  have hl:=R.len
  refine⟨fun j d' h=> ?_,fun j a h=> ?_,fun j k a h1 h2=> ?_,fun j=> ?_,fun j a h=> ?_,R.bt,by simpa using R.len⟩
  ·by_cases e:j=i
   ·subst e
    rw [Zv hi] at h
    cases h
    refine⟨v,fv,by rw [Zv (by omega)],r,fun _=>eC.symm,fun z=> ?_⟩
    rcases hb with q|q
    ·rw [q] at z;cases z
    ·subst q;intro a ha;exact absurd ha (by simp)
   ·rw [Zq (fun z=>e z.symm)] at h|-
    rw [eE e]
    exact R.rep j d' h
  ·by_cases e:j=i
   ·subst e
    rw [eC] at h
    refine⟨?_,d,by rw [Zv hi]⟩
    rcases hb with q|q
    ·exact q
    ·subst q;exact absurd h (by simp)
   ·rw [eE e] at h
    obtain⟨b,d',q⟩:=R.emp j a h
    exact⟨b,d',by rw [Zq (fun z=>e z.symm)];exact q⟩
  ·by_cases e1:j=i
   ·by_cases e2:k=i
    ·rw [e1,e2]
    ·subst e1;rw [eC] at h1;rw [eE e2] at h2;exact absurd h1 (hd k e2 a h2)
   ·by_cases e2:k=i
    ·subst e2;rw [eC] at h2;rw [eE e1] at h1;exact absurd h2 (hd j e1 a h1)
    ·rw [eE e1] at h1;rw [eE e2] at h2;exact R.dis j k a h1 h2
  ·by_cases e:j=i
   ·subst e;rw [eC];exact hn
   ·rw [eE e];exact R.nd j
  ·rcases iW h with z|z
   ·exact hB a z
   ·exact R.nb j a z
 ·rw [if_neg hi]
  have e0:ps.set i (some d)=ps:=Xu (by omega)
  rw [e0]
  have R':=R.drop i
  rw [Xu (by omega)] at R'
  refine⟨fun j d' h=> ?_,R'.emp,R'.dis,R'.nd,R'.nb,R'.bt,by simpa using R.len⟩
  have hj:j≠i:=by
   rintro rfl
   have:=(Z6.mp h).1
   omega
  rw [Zq (fun z=>hj z.symm)]
  exact R'.rep j d' h
theorem Stp.set(s1:Stp φ σ H F σ1 H1 ps1 F1)(o:OwnV F H F1 fv)(R:RS φ H σ ps F)(r:Rep φ.K φ.U H1 v d fv)(hb:φ.bor i=false\/fv=[])(hm:φ.M i=false):
  ∃F',Stp φ σ H F (σ1.set i (some v)) H1 (ps1.set i (some d)) F':=by
 refine⟨_,s1.fr,fun j a h=> ?_,s1.rs.set r hb (fun j _=>o.dis j) o.nd fun a ha=>R.notB (o.nw a ha),fun j h=> ?_⟩
 ·rcases iW h with z|z
  ·by_cases k:i<ps1.length
   ·rw [if_pos k] at z;exact o.nw a z
   ·rw [if_neg k] at z;exact absurd z (by simp)
  ·exact s1.nw j a z
 ·rw [Zq (fun z=>by subst z;rw [hm] at h;cases h)]
  exact s1.msk j h
end
inductive Fl where
 |nx|bk|ct|ret (d:D)
abbrev _root_.tz1:=PSt->Option (Fl×PSt)
def tN(φ:Fx)(E:Ends)(σ:St)(H:Hp)(F:Nat->List Addr)(fl:Fl)(ps':PSt):Prop:=match fl with
 | .nx=>∀σ' H' F',Stp φ σ H F σ' H' ps' F'->E.nx σ' H'
 | .bk=>∀σ' H' F',Stp φ σ H F σ' H' ps' F'->E.bk σ' H'
 | .ct=>∀σ' H' F',Stp φ σ H F σ' H' ps' F'->E.ct σ' H'
 | .ret d=>∀v σ' H' F' fv,Stp φ σ H F σ' H' ps' F'->OwnV F H F' fv->Rep φ.K φ.U H' v d fv->E.rt v H'
def tS(φ:Fx)(f:tz1):TS:=fun E σ H=>∃ps F fl ps',RS φ H σ ps F/\f ps=some (fl,ps')/\tN φ E σ H F fl ps'
def tE(φ:Fx)(f:tz8):TE:=fun σ H Q=>∃ps F d ps',RS φ H σ ps F/\f ps=some (d,ps')/\∀v H' F' fv,Stp φ σ H F σ H' ps' F'->OwnV F H F' fv->Rep φ.K φ.U H' v d fv->Q v H'
def tTE(φ:Fx)(f:PSt->Option (Bool×PSt)):TT:=fun σ H Q=>∃ps F b ps',RS φ H σ ps F/\f ps=some (b,ps')/\∀H' F',Stp φ σ H F σ H' ps' F'->Q b H'
structure F0 where
 bor:Nat->Bool
 M:Nat->Bool
 B:Nat->Addr->Prop
def F0.fx(φ:F0)(K:tz0)(U:tz9):Fx:=⟨K,U,φ.bor,φ.M,φ.B⟩
abbrev QS(X:Cx)(U:tz9)(φ:F0)(st:Stmt)(f:tz1):Prop:=PS X st (tS (φ.fx X.K U) f)
abbrev QSs(X:Cx)(U:tz9)(φ:F0)(st:List Stmt)(f:tz1):Prop:=PSs X st (tS (φ.fx X.K U) f)
abbrev QE(X:Cx)(U:tz9)(φ:F0)(e:Expr)(f:tz8):Prop:=PE X e (tE (φ.fx X.K U) f)
abbrev QTE(X:Cx)(U:tz9)(φ:F0)(e:Expr)(f:PSt->Option (Bool×PSt)):Prop:=PT X e (tTE (φ.fx X.K U) f)
theorem pU(s1:Stp φ σ H F σ1 H1 ps1 F1)(e:f ps1=some (fl,ps2))(q:tN φ E σ H F fl ps2):tS φ f E σ1 H1:=by
 refine⟨ps1,F1,fl,ps2,s1.rs,e,?_⟩
 cases fl with
 |nx=>exact fun σ' H' F' s=>q σ' H' F' (s1.trans s)
 |bk=>exact fun σ' H' F' s=>q σ' H' F' (s1.trans s)
 |ct=>exact fun σ' H' F' s=>q σ' H' F' (s1.trans s)
 |ret d=>exact fun v σ' H' F' fv s o r=>q v σ' H' F' fv (s1.trans s) (o.after s1) r
def cF:tz1:=fun ps=>some (.nx,ps)
def aV(f g:tz1):tz1:=fun ps=>(f ps).bind fun r=>match r with
 |(.nx,ps')=>g ps'
 |(.bk,ps')=>some (.bk,ps')
 |(.ct,ps')=>some (.ct,ps')
 |(.ret d,ps')=>some (.ret d,ps')
section
variable{X:Cx}{U:tz9}{φ:F0}{st:Stmt}{rest:List Stmt}{f g:tz1}{pos:Pos}
theorem cK:QSs X U φ [] cF:=zr5.imp fun E σ H ⟨ps,F,fl,ps',R,e,q⟩=>by cases e;exact q σ H F (.refl R)
theorem aM(h:QS X U φ st f):QSs X U φ [st] f:=vP h
theorem aO(h1:QS X U φ st f)(h2:QSs X U φ rest g):QSs X U φ (st::rest) (aV f g):=
 (lH h1 h2).imp fun E σ H hh_=>by
  obtain⟨ps,F,fl,ps',R,e,q⟩:=hh_
  obtain⟨⟨fl1,ps1⟩,e1,e2⟩:=bind_some e
  refine⟨ps,F,fl1,ps1,R,e1,?_⟩
  cases fl1 with
  |nx=>exact fun σ' H' F' s=>pU s e2 q
  |bk=>cases e2;exact q
  |ct=>cases e2;exact q
  |ret d=>cases e2;exact q
def aJ(f:tz2):tz8:=fun ps=>(f ps).bind fun d=>some (d,ps)
theorem QP.e{e:Expr}{f:tz2}(h:PE X e (tP X.K U f)):QE X U φ e (aJ f):=h.imp fun σ H Q hh_=>by
 obtain⟨ps,F,d,ps',R,e,q⟩:=hh_
 obtain⟨d1,e1,e2⟩:=bind_some e
 cases e2
 exact⟨ps,_,R.ws,e1,fun v H' fv s n nd r=>q v H' F fv (.same R s) (.new R n nd) r⟩
def aX(f:tz4):PSt->Option (Bool×PSt):=fun ps=>(f ps).bind fun d=>some (d,ps)
theorem QT.e{e:Expr}{f:tz4}(h:PT X e (tQ X.K U f)):QTE X U φ e (aX f):=h.imp fun σ H Q hh_=>by
 obtain⟨ps,F,d,ps',R,e,q⟩:=hh_
 obtain⟨d1,e1,e2⟩:=bind_some e
 cases e2
 exact⟨ps,_,R.ws,e1,fun H' s=>q H' F (.same R s)⟩
def aS(i:Nat)(f:tz8):tz1:=fun ps=>(f ps).bind fun r=>some (.nx,r.2.set i (some r.1))
theorem zk0(i:Nat){x:Str}{e:Expr}{pos':Pos}{f:tz8}(hN:X.N.Nodup)(hi:X.N[i]? =some x)(hx:Loc X.env.scope x)(hb:φ.bor i=false)(hm:φ.M i=false)(he:QE X U φ e f)(hs:swapsWith e (some (.Name x pos')) pos.line X.env=pure false:=by rfl)(hf:X.fn x=true\/X.env.scope.names.lookup x=some .local:=by first|exact .inl rfl|exact .inr rfl|assumption):
  QS X U φ (.Assign [.Name x pos'] e pos) (aS i f):=(pO hN hi hx he hs hf).imp fun E σ H hh_=>by
 obtain⟨ps,F,fl,ps',R,e,q⟩:=hh_
 obtain⟨⟨d,ps1⟩,e1,e2⟩:=bind_some e
 cases e2
 refine⟨ps,F,d,ps1,R,e1,fun v H' F' fv s o r=> ?_⟩
 obtain⟨F2,s2⟩:=s.set o R r (.inl hb) hm (i:=i)
 exact q _ _ F2 s2
def yV(i:Nat)(f:tz8):tz1:=fun ps=>(f ps).bind fun r=>if r.1.imm=true then some (.nx,r.2.set i (some r.1)) else none
theorem yy9(i:Nat){x:Str}{e:Expr}{pos':Pos}{f:tz8}(hN:X.N.Nodup)(hi:X.N[i]? =some x)(hx:Loc X.env.scope x)(hm:φ.M i=false)(he:QE X U φ e f)(hs:swapsWith e (some (.Name x pos')) pos.line X.env=pure false:=by rfl)(hf:X.fn x=true\/X.env.scope.names.lookup x=some .local:=by first|exact .inl rfl|exact .inr rfl|assumption):
  QS X U φ (.Assign [.Name x pos'] e pos) (yV i f):=(pO hN hi hx he hs hf).imp fun E σ H hh_=>by
 obtain⟨ps,F,fl,ps',R,e,q⟩:=hh_
 obtain⟨⟨d,ps1⟩,e1,e2⟩:=bind_some e
 obtain⟨hc,e3⟩:=bL e2
 cases e3
 refine⟨ps,F,d,ps1,R,e1,fun v H' F' fv s o r=> ?_⟩
 obtain⟨F2,s2⟩:=s.set o R r (.inr (r.imm hc)) hm (i:=i)
 exact q _ _ F2 s2
def cU(f:tz8):tz1:=fun ps=>(f ps).bind fun r=>some (.nx,r.2)
theorem gB{e:Expr}{f:tz8}(he:QE X U φ e f)(hs:swapsWith e none pos.line X.env=pure false:=by rfl):QS X U φ (.Expr e pos) (cU f):=(yx0 he hs).imp fun E σ H hh_=>by
 obtain⟨ps,F,fl,ps',R,e,q⟩:=hh_
 obtain⟨⟨d,ps1⟩,e1,e2⟩:=bind_some e
 cases e2
 exact⟨ps,F,d,ps1,R,e1,fun v H' F' fv s o r=>q _ _ F' s⟩
def cI(f:tz8):tz1:=fun ps=>(f ps).bind fun r=>some (.ret r.1,r.2)
theorem bU{e:Expr}{f:tz8}(he:QE X U φ e f):QS X U φ (.Return (some e) pos) (cI f):=(uF he).imp fun E σ H hh_=>by
 obtain⟨ps,F,fl,ps',R,e,q⟩:=hh_
 obtain⟨⟨d,ps1⟩,e1,e2⟩:=bind_some e
 cases e2
 exact⟨ps,F,d,ps1,R,e1,fun v H' F' fv s o r=>q v σ H' F' fv s o r⟩
def qY(i:Nat):tz1:=fun ps=>((ps[i]?).join).bind fun d=>some (.ret d,ps.set i none)
theorem join_some{ps:PSt}{i:Nat}{d:D}(h:(ps[i]?).join=some d):ps[i]? =some (some d):=by
 cases q:ps[i]? with
 |none=>rw [q] at h;cases h
 |some o=>rw [q] at h;exact ZP some h
theorem pI(i:Nat){x:Str}{p:Pos}(hb:φ.bor i=false)(hN:X.N[i]? =some x:=by rfl)(hv:Vis X.env.scope x:=by first|exact Or.inl rfl|exact Or.inr (Or.inl rfl)|exact Or.inr (Or.inr rfl))(hd:NDb x:=by decide)
  (hcd:(x==("__classdict__":Str))=false:=by decide):QS X U φ (.Return (some (.Name x p)) pos) (qY i):=(uF (rO hN hv hd hcd)).imp fun E σ H hh_=>by
 obtain⟨ps,F,fl,ps',R,e,q⟩:=hh_
 obtain⟨d,e1,e2⟩:=bind_some e
 cases e2
 obtain⟨v,fp,h1,h2,h3,_⟩:=R.rep i d (join_some e1)
 have h3:=h3 hb
 subst h3
 refine⟨v,h1,q v σ H (kU F i []) (F i) ⟨⟨fun a o h _ _=>h,fun a h=>h⟩,fun j a h=> ?_,R.drop i,fun _ _=>rfl⟩ ⟨fun a h=> .inl ⟨i,h⟩,R.nd i,fun j a h1 h2=> ?_⟩ h2⟩
 ·rcases iW h with z|z
  ·exact absurd z (by simp)
  ·exact .inl ⟨j,z⟩
 ·rcases iW h1 with z|z
  ·exact absurd z (by simp)
  ·have:=R.dis j i a z h2
   subst this
   rw [eC] at h1;exact absurd h1 (by simp)
def fIf(c:PSt->Option (Bool×PSt))(f g:tz1):tz1:=fun ps=>(c ps).bind fun r=>if r.1=true then f r.2 else g r.2
theorem cG(hc:QTE X U φ c tc)(ha:QSs X U φ a f)(hb:QSs X U φ b g):QS X U φ (.If c a b pos) (fIf tc f g):=(yv0 hc ha hb).imp fun E σ H hh_=>by
 obtain⟨ps,F,fl,ps',R,e,q⟩:=hh_
 obtain⟨⟨k,ps1⟩,e1,e2⟩:=bind_some e
 refine⟨ps,F,k,ps1,R,e1,fun H' F' s=> ?_⟩
 cases k with
 |true=>rw [if_pos rfl] at e2|-;exact pU s e2 q
 |false=>rw [if_neg Z5] at e2|-;exact pU s e2 q
end
def jZ(c:PSt->Option (Bool×PSt))(f:tz1):Nat->tz1
 |0,_=>none
 | n+1,ps=>(c ps).bind fun r=>if r.1=true then(f r.2).bind fun q=>match q with
   |(.nx,p)=>jZ c f n p
   |(.ct,p)=>jZ c f n p
   |(.bk,p)=>some (.nx,p)
   |(.ret d,p)=>some (.ret d,p)
  else some (.nx,r.2)
section
variable{X:Cx}{φ:Fx}{pos:Pos}{body:List Stmt}{f:tz1}
theorem tN.back(s1:Stp φ σ H F σ1 H1 ps1 F1)(q:tN φ E σ H F fl ps2):tN φ E σ1 H1 F1 fl ps2:=by
 cases fl with
 |nx=>exact fun σ' H' F' s=>q σ' H' F' (s1.trans s)
 |bk=>exact fun σ' H' F' s=>q σ' H' F' (s1.trans s)
 |ct=>exact fun σ' H' F' s=>q σ' H' F' (s1.trans s)
 |ret d=>exact fun v σ' H' F' fv s o r=>q v σ' H' F' fv (s1.trans s) (o.after s1) r
def xs8(φ:Fx)(σ:St)(H:Hp)(F:Nat->List Addr)(tc:PSt->Option (Bool×PSt))(f:tz1)(fl:Fl)(ps':PSt)(m:Nat)(σ1:St)(H1:Hp):Prop:=∃ps1 F1,Stp φ σ H F σ1 H1 ps1 F1/\jZ tc f m ps1=some (fl,ps')
theorem yo3{U:tz9}{φ:F0}(n:Nat){c:Expr}{tc:PSt->Option (Bool×PSt)}(hp:PassesOwn (model X.prog X.w) X.A X.env X.xe)(hc:QTE X U φ c tc)(hb:QSs X U φ body f):QS X U φ (.While c body [] pos) (jZ tc f n):=
 (ym4 hp hc hb).imp fun E σ H hh_=>by
  obtain⟨ps,F,fl,ps',R,e,q⟩:=hh_
  refine⟨xs8 (φ.fx X.K U) σ H F tc f fl ps',⟨n,ps,F,.refl R,e⟩,?_⟩
  rintro m σ1 H1 ⟨ps1,F1,s1,e1⟩
  cases m with
  |zero=>cases e1
  | succ m=>
   rw [jZ] at e1
   obtain⟨⟨k,ps2⟩,e2,e3⟩:=bind_some e1
   refine⟨ps1,F1,k,ps2,s1.rs,e2,fun H2 F2 s2=> ?_⟩
   have s12:=s1.trans s2
   cases k with
   |true=>
    dsimp only at e3|-
    rw [if_pos rfl] at e3|-
    obtain⟨⟨fl3,ps3⟩,e4,e5⟩:=bind_some e3
    refine⟨fun σ' H'=>∃F',Stp (φ.fx X.K U) σ1 H2 F2 σ' H' ps3 F'/\jZ tc f m ps3=some (fl,ps'),fun σ' H' ⟨F',s,e⟩=>⟨m,X6 m,ps3,F',s12.trans s,e⟩,?_⟩
    refine⟨ps2,F2,fl3,ps3,s2.rs,e4,?_⟩
    cases fl3 with
    |nx=>exact fun σ' H' F' s=>⟨F',s,e5⟩
    |ct=>exact fun σ' H' F' s=>⟨F',s,e5⟩
    |bk=>cases e5;exact fun σ' H' F' s=>q σ' H' F' (s12.trans s)
    |ret d=>cases e5;exact fun v σ' H' F' fv s o r=>q v σ' H' F' fv (s12.trans s) (o.after s12) r
   |false=>
    dsimp only at e3|-
    rw [if_neg Z5] at e3|-
    cases e3
    exact q _ _ F2 s12
end
def oN(Z:List Addr)(H H':Hp):Prop:=∀a o,H a=some o->(tf o=true\/(kd o=true/\a∈Z))->H' a=some o
structure Walk(K:tz0)(U:tz9)(J:It)(Z:List Addr)(H1:Hp)(ds:List D):Prop where
 go:∀H',oN Z H1 H'->∀(i:Nat) d,ds[i]? =some d->J.go i H'/\∀x H2,J.yld i H' x H2->H2=H'/\Rep K U H' x d []
 stop:∀H',oN Z H1 H'->J.stop ds.length H'
def tIV(K:tz0)(U:tz9)(f:tz3):TI:=fun σ H R=>∃ps ds,WS K U H σ ps/\f ps=some ds/\∀J H1 Z,SameK H H1->Walk K U J Z H1 ds->R J H1
def tIP(K:tz0)(U:tz9)(f:tz3):TI:=fun σ H R=>∃ps ds,WS K U H σ ps/\f ps=some ds/\∀J H1 Z,SameK H H1->(∀a∈Z,H a=none/\H1 a≠none)->Walk K U J Z H1 ds->R J H1
theorem oN.sq{K:tz0}{Z:List Addr}{H H':Hp}{a:Addr}{vs:List V}(k:oN Z H H')(h:Rd H a (.lst vs))(hz:H a=some (.lst vs)->a∈Z):SqL K H' a vs:=by
 rcases h with h|⟨o,h⟩
 ·exact .inl (.inl (k a _ h (.inr ⟨rfl,hz h⟩)))
 ·exact .inl (.inr ⟨o,k a _ h (.inl rfl)⟩)
theorem oN.rep{K:tz0}{U:tz9}{Z:List Addr}{H H':Hp}{v:V}{d:D}(k:oN Z H H')(r:Rep K U H v d []):Rep K U H' v d []:=r.move (fun a o h t=>k a o h (.inl t)) fun a ha=>absurd ha (by simp)
theorem lJ:∀{l₁:List α} {l₂:List β} {i:Nat} {y:β},Paired R l₁ l₂->l₂[i]? =some y->∃x,l₁[i]? =some x/\R x y
 |_,_,_,_,.nil,e=>by simp at e
 |_,_,0,_,.cons h _,e=>by simp at e;subst e;exact⟨_,rfl,h⟩
 |_,_,i+1,_,.cons _ t,e=>by obtain⟨x,h1,h2⟩:=lJ (i:=i) t (by simpa using e);exact⟨x,by simpa using h1,h2⟩
section
variable{K:tz0}{U:tz9}{H1:Hp}{a:Addr}{vs:List V}{ds:List D}{Z:List Addr}
theorem zc0(h:Rd H1 a (.lst vs))(hz:H1 a=some (.lst vs)->a∈Z)(r:Paired (fun v d=>Rep K U H1 v d []) vs ds):Walk K U (Itl K a) Z H1 ds where
 go:=fun H' k i d e=>by
  obtain⟨x,e1,r1⟩:=lJ r e
  have sq:SqL K H' a vs:=k.sq h hz
  refine⟨⟨vs,x,sq,e1⟩,fun y H2 hy=>⟨hy.1,?_⟩⟩
  have e2:=hy.2 vs sq
  rw [e1] at e2;cases e2
  exact k.rep r1
 stop:=fun H' k=>⟨vs,k.sq h hz,by rw [ZC r];exact Z9 _⟩
theorem yo4(h:SqF K H1 a vs)(r:Paired (fun v d=>Rep K U H1 v d []) vs ds):Walk K U (Itl K a) Z H1 ds where
 go:=fun H' k i d e=>by
  obtain⟨x,e1,r1⟩:=lJ r e
  have sq:SqL K H' a vs:=(h.tf fun a o e t=>k a o e (.inl t)).l
  refine⟨⟨vs,x,sq,e1⟩,fun y H2 hy=>⟨hy.1,?_⟩⟩
  have e2:=hy.2 vs sq
  rw [e1] at e2;cases e2
  exact k.rep r1
 stop:=fun H' k=>⟨vs,(h.tf fun a o e t=>k a o e (.inl t)).l,by rw [ZC r];exact Z9 _⟩
theorem yo5(h:SqT K H1 a vs)(r:Paired (fun v d=>Rep K U H1 v d []) vs ds):Walk K U (Itt K a) Z H1 ds where
 go:=fun H' k i d e=>by
  obtain⟨x,e1,r1⟩:=lJ r e
  have sq:SqT K H' a vs:=h.tf fun a o e t=>k a o e (.inl t)
  refine⟨⟨vs,x,sq,e1⟩,fun y H2 hy=>⟨hy.1,?_⟩⟩
  have e2:=hy.2 vs sq
  rw [e1] at e2;cases e2
  exact k.rep r1
 stop:=fun H' k=>⟨vs,h.tf fun a o e t=>k a o e (.inl t),by rw [ZC r];exact Z9 _⟩
end
def eS(lo:Int)(n:Nat):List D:=(List.range n).map fun(k:Nat)=> .int (lo+(k:Int))
theorem xS{K:tz0}{U:tz9}{H1:Hp}{Z:List Addr}(lo:Int)(n:Nat):Walk K U (Itr lo n) Z H1 (eS lo n) where
 go:=fun H' _ i d e=>by
  have hi:=(Z6.mp e).1
  unfold eS at hi e
  rw [Zd,Yb] at hi
  rw [Zi,List.getElem?_range hi] at e
  cases e
  exact⟨hi,fun x H2 ⟨h1,h2⟩=>⟨h1,by rw [h2];exact .int _⟩⟩
 stop:=fun H' _=>by
  show n<=(eS lo n).length
  unfold eS
  rw [Zd,Yb];exact Z9 _
abbrev QIV(X:Cx)(U:tz9)(tg iter:Expr)(f:tz3):Prop:=PI X tg iter (tIV X.K U f)
abbrev QIP(X:Cx)(U:tz9)(tg iter:Expr)(f:tz3):Prop:=PI X tg iter (tIP X.K U f)
theorem PI.imp(h:PI X tg e t)(k:∀σ H Q,t' σ H Q->t σ H Q):PI X tg e t':=⟨fun pins s σ H Q I q=>h pins s σ H Q I (k σ H Q q)⟩
section
variable{X:Cx}{U:tz9}{tg l a b:Expr}{f:tz2}{g:tz3}{p pos:Pos}
def pA:List D->Option (List D)
 |[.int j]=>if (-(2^62)<=j/\j<2^62) then some (eS 0 j.toNat) else none
 |_=>none
def zg5:List D->Option (List D)
 |[.int i,.int j]=>if (-(2^62)<=i/\i<2^62/\ -(2^62)<=j/\j<2^62) then some (eS i (j-i).toNat) else none
 |_=>none
def iA(g:tz3):tz3:=fun ps=>(g ps).bind pA
def yW(g:tz3):tz3:=fun ps=>(g ps).bind zg5
theorem nQ(hg:Gl X "range")(hm:X.mg "range"=none)(ha:QVA X U [a] g)(hs:starEach [a] X.env=[(false,eval a X.env)]:=by rfl):QIP X U tg (.Call (.Name "range" p) [a] [] pos) (iA g):=
 PI.imp (yd3 hg hm ha hs) fun σ H R hh_=>by
  obtain⟨ps,ds,w,e,q⟩:=hh_
  obtain⟨as,e1,e2⟩:=bind_some e
  refine⟨ps,as,w,e1,fun vs H1 fp s1 r1=> ?_⟩
  unfold pA at e2
  split at e2
  ·obtain⟨hc,e3⟩:=bL e2
   cases e3
   obtain⟨v,rfl,r⟩:=r1.one_inv
   exact⟨_,by rw [r.is_int],hc.1,hc.2,q _ H1 [] s1 (fun _ h=>absurd h (by simp)) (xS _ _)⟩
  ·cases e2
theorem yg2(hg:Gl X "range")(hm:X.mg "range"=none)(ha:QVA X U [a,b] g)(hs:starEach [a,b] X.env=[(false,eval a X.env),(false,eval b X.env)]:=by rfl)(hs2:starEach [b] X.env=[(false,eval b X.env)]:=by rfl):QIP X U tg (.Call (.Name "range" p) [a,b] [] pos) (yW g):=
 PI.imp (yd4 hg hm ha hs hs2) fun σ H R hh_=>by
  obtain⟨ps,ds,w,e,q⟩:=hh_
  obtain⟨as,e1,e2⟩:=bind_some e
  refine⟨ps,as,w,e1,fun vs H1 fp s1 r1=> ?_⟩
  unfold zg5 at e2
  split at e2
  ·obtain⟨hc,e3⟩:=bL e2
   cases e3
   obtain⟨v,u,f,g,rfl,r,r'⟩:=r1.two_inv
   exact⟨_,_,by rw [r.is_int,r'.is_int],hc,q _ H1 [] s1 (fun _ h=>absurd h (by simp)) (xS _ _)⟩
  ·cases e2
def xs9(K:tz0)(tl:TE):TI:=fun σ H R=>tl σ H fun x H1=>∃a,x= .ref a/\(((∃xs,SqL K H1 a xs)/\R (Itl K a) H1)\/((∃xs,SqT K H1 a xs)/\R (Itt K a) H1))
theorem yg3(hl:PE X l tl):PI X tg l (xs9 X.K tl):=⟨by
 intro pins s σ H R I h
 refine thn (hl pins s σ H _ I h) fun v s1 ⟨x,H1,I1,r1,q1⟩=> ?_
 obtain⟨a,e,q1⟩:=q1
 subst e
 cases r1
 rcases q1 with ⟨⟨xs,hq⟩,q⟩|⟨⟨xs,hq⟩,q⟩
 ·obtain⟨its,rv,p,hz⟩:=I1.list hq
  refine wpAny_pyIter_list p.isList ?_
  refine⟨s1.heap.objs.size,[s1.heap.objs.size],_,_,H1,rfl,I1.kept (t':=s1.toks) fun b o e=>Zk _ e,yd2 a _,⟨_,Zw _ rfl,rfl,rfl⟩,fun b hb=> ?_,q⟩
  have e:b=s1.heap.objs.size:=by simpa using hb
  subst e
  exact I1.fpOk (Z9 _) (I1.hok.fresh (Z9 _))
 ·obtain⟨its,rv,p,hz⟩:=I1.tuple hq
  refine wpAny_pyIter_tuple (show s1.heap.IsTuple a its.toArray from p) ?_
  refine⟨s1.heap.objs.size,[s1.heap.objs.size],_,_,H1,rfl,I1.kept (t':=s1.toks) fun b o e=>Zk _ e,zv9 a _,⟨_,Zw _ rfl,rfl,rfl⟩,fun b hb=> ?_,q⟩
  have e:b=s1.heap.objs.size:=by simpa using hb
  subst e
  exact I1.fpOk (Z9 _) (I1.hok.fresh (Z9 _))⟩
def yu4:D->Option (List D)
 | .lst _ xs=>if D.imms xs=true then some xs else none
 | .tup xs=>some xs
 | .con xs=>some xs
 |_=>none
theorem zs8{K:tz0}{H:Hp}{v:V}{d:D}{fp:List Addr}{ds:List D}{R:It->Hp->Prop}(r:Rep K U H v d fp)(e:yu4 d=some ds)(q:∀J Z,(∀a∈Z,a∈fp)->Walk K U J Z H ds->R J H):
  ∃a,v= .ref a/\(((∃xs,SqL K H a xs)/\R (Itl K a) H)\/((∃xs,SqT K H a xs)/\R (Itt K a) H)):=by
 cases d with
 |lst o xs=>
  obtain⟨hc,e⟩:=bL e
  cases e
  cases r with
  |lst h hs=>exact⟨_,rfl,.inl ⟨⟨_,.inl (.inl h)⟩,q _ [_] (fun a ha=>by simp at ha;subst ha;exact Z0) (zc0 (.inl h) (fun _=>by simp) (hs.pair hc))⟩⟩
  |lstF h hs=>exact⟨_,rfl,.inl ⟨⟨_,.inl (.inr ⟨_,h⟩)⟩,q _ [] (fun a ha=>absurd ha (by simp)) (zc0 (.inr ⟨_,h⟩) (fun z=>by rw [h] at z;cases z) (hs.pair hc))⟩⟩
 |tup xs=>
  cases e
  obtain⟨a,vs,rfl,h,hs⟩:=r.tup_inv
  exact⟨a,rfl,.inr ⟨⟨_,h⟩,q _ [] (fun a ha=>absurd ha (by simp)) (yo5 h hs.nilp)⟩⟩
 |con xs=>
  cases e
  obtain⟨a,vs,rfl,h,hs⟩:=r.con_inv
  exact⟨a,rfl,.inl ⟨⟨_,h.l⟩,q _ [] (fun a ha=>absurd ha (by simp)) (yo4 h hs.nilp)⟩⟩
 |_=>cases e
def gV(f:tz2):tz3:=fun ps=>(f ps).bind yu4
theorem xh5(h:QV X U l f):QIV X U tg l (gV f):=PI.imp (yg3 h) fun σ H R hh_=>by
 obtain⟨ps,ds,w,e,q⟩:=hh_
 obtain⟨d,e1,e2⟩:=bind_some e
 exact⟨ps,d,w,e1,fun v H1 fv s1 r1=>zs8 r1 e2 fun J Z _ k=>q J H1 Z s1 k⟩
end
def dC(i:Nat)(f:tz1):List D->tz1
 |[],ps=>some (.nx,ps)
 | d::ds,ps=>(f (ps.set i (some d))).bind fun q=>match q with
   |(.nx,p)=>dC i f ds p
   |(.ct,p)=>dC i f ds p
   |(.bk,p)=>some (.nx,p)
   |(.ret d,p)=>some (.ret d,p)
section
variable{X:Cx}{φ:Fx}{pos:Pos}{body:List Stmt}{f:tz1}
theorem Frm.kept(R:RS φ H σ ps F)(k:Frm F H H')(hz:∀a∈Z,∀i,a∉F i):oN Z H H':=fun a o h t=>by
 rcases t with t|⟨t1,t2⟩
 ·refine k.keep a o h (lI t) fun i hi=> ?_
  obtain⟨o',h',_,t'⟩:=R.own hi
  rw [h] at h';cases h';rw [t] at t';cases t'
 ·exact k.keep a o h t1 (hz a t2)
def xp8(J:It)(E:Ends)(V:Nat->Nat->St->Hp->Prop)(g:TG)(tb:TS)(k m:Nat)(σ:St)(H:Hp):Prop:=
 (J.stop k H/\E.nx σ H)\/(J.go k H/\∃N:St->Hp->Prop,(∀σ' H',N σ' H'->∃m',m'<m/\V (k+1) m' σ' H')/\∀x H',J.yld k H x H'->g x σ H' fun σ2 H2=>tb {E with nx:=N,ct:=N,bk:=E.nx} σ2 H2)
def xt0(φ:Fx)(σ:St)(H:Hp)(F:Nat->List Addr)(i:Nat)(f:tz1)(ds:List D)(fl:Fl)(ps':PSt)(k m:Nat)(σ1:St)(H1:Hp):Prop:=k<=ds.length/\m=ds.length-k/\∃ps1 F1,Stp φ σ H F σ1 H1 ps1 F1/\dC i f (ds.drop k) ps1=some (fl,ps')
theorem zk1(R:RS φ H σ ps F)(hz:∀a∈Z,H a≠none/\∀i,a∉F i)(W:Walk φ.K φ.U J Z H ds)(hb:φ.bor i=false)(hm:φ.M i=false)
  (e:dC i f ds ps=some (fl,ps')) (q:tN φ E σ H F fl ps'):∃V:Nat->Nat->St->Hp->Prop,(∃m,V 0 m σ H)/\∀k m σ H,V k m σ H->xp8 J E V (tM i) (tS φ f) k m σ H:=by
 refine⟨xt0 φ σ H F i f ds fl ps',⟨_,ZI _,rfl,ps,F,.refl R,by rw [Xo];exact e⟩,?_⟩
 rintro k m σ1 H1 ⟨hk,rfl,ps1,F1,s1,e1⟩
 have kp:oN Z H H1:=s1.fr.kept R fun a ha=>(hz a ha).2
 by_cases hlt:k<ds.length
 ·right
  have ed:ds[k]? =some ds[k]:=Zp hlt
  obtain⟨hgo,hy⟩:=W.go H1 kp k _ ed
  rw [ZS hlt,dC] at e1
  obtain⟨⟨fl2,ps2⟩,e2,e3⟩:=bind_some e1
  refine⟨hgo,fun σ' H'=>∃F',Stp φ σ H F σ' H' ps2 F'/\dC i f (ds.drop (k+1)) ps2=some (fl,ps'),fun σ' H' ⟨F',s,e⟩=>⟨ds.length-(k+1),by omega,hlt,rfl,ps2,F',s,e⟩,fun x H' y=> ?_⟩
  obtain⟨rfl,rx⟩:=hy x H' y
  obtain⟨F2,s2⟩:=(Stp.refl s1.rs).set (i:=i) (fv:=[]) (v:=x) (d:=ds[k]) ⟨fun _ h=>absurd h (by simp),Zf,fun _ _ _ h=>absurd h (by simp)⟩ s1.rs rx (.inl hb) hm
  have s12:=s1.trans s2
  refine⟨_,F2,fl2,ps2,s2.rs,e2,?_⟩
  cases fl2 with
  |nx=>exact fun σ' H' F' s=>⟨F',s12.trans s,e3⟩
  |ct=>exact fun σ' H' F' s=>⟨F',s12.trans s,e3⟩
  |bk=>cases e3;exact fun σ' H' F' s=>q σ' H' F' (s12.trans s)
  |ret d=>cases e3;exact fun v σ' H' F' fv s o r=>q v σ' H' F' fv (s12.trans s) (o.after s12) r
 ·left
  have ek:k=ds.length:=by omega
  subst ek
  rw [X8,dC] at e1
  cases e1
  exact⟨W.stop H1 kp,q _ _ F1 s1⟩
def fS(i:Nat)(fi:tz3)(f:tz1):tz1:=fun ps=>(fi ps).bind fun ds=>dC i f ds ps
theorem mE{U:tz9}{φ:F0}(i:Nat){x:Str}{px:Pos}{iter:Expr}{fi:tz3}(hp:PassesOwn (model X.prog X.w) X.A X.env X.xe)(hc:X.calm=true)(hN:X.N.Nodup)(hi:X.N[i]? =some x)(hx:Loc X.env.scope x)(hb:φ.bor i=false)(hm:φ.M i=false)
  (hit:PI X (.Name x px) iter (tIP X.K U fi)) (hbd:QSs X U φ body f) (hs:∀x,foldedSetIterable iter X.env x=pure x:=by intro _;rfl) (hf:X.fn x=true\/X.env.scope.names.lookup x=some .local:=by first|exact .inl rfl|exact .inr rfl|assumption):
  QS X U φ (.For (.Name x px) iter body [] pos) (fS i fi f):=(zi6 hp hc hit (kK hN hi hx hf) hbd hs).imp fun E σ H hh_=>by
 obtain⟨ps,F,fl,ps',R,e,q⟩:=hh_
 obtain⟨ds,e1,e2⟩:=bind_some e
 refine⟨ps,ds,R.ws,e1,fun J H1 Z s1 hz W=> ?_⟩
 have s:=Stp.same R s1
 exact zk1 s.rs (fun a ha=>⟨(hz a ha).2,fun j hj=>by obtain⟨o,h,_⟩:=R.own hj;rw [(hz a ha).1] at h;cases h⟩) W hb hm e2 (q.back s)
def xl8(g:TG)(tb:TS)(E:Ends)(σ:St):It->Hp->Prop:=fun J H1=>∃W:Nat->Nat->St->Hp->Prop,(∃m,W 0 m σ H1)/\∀i m σ H,W i m σ H->
 (J.stop i H/\E.nx σ H)\/(J.go i H/\∃N:St->Hp->Prop,(∀σ' H',N σ' H'->∃m',m'<m/\W (i+1) m' σ' H')/\∀x H',J.yld i H x H'->g x σ H' fun σ2 H2=>tb {E with nx:=N,ct:=N,bk:=E.nx} σ2 H2)
theorem zs9{U:tz9}{φ:F0}(i j:Nat){x y:Str}{px py:Pos}(hp:PassesOwn (model X.prog X.w) X.A X.env X.xe)(hc:X.calm=true)(hN:X.N.Nodup)(hi:X.N[i]? =some x)(hx:Loc X.env.scope x)(hb:φ.bor i=false)(hm:φ.M i=false)(hj:φ.bor j=true)
  (hbd:QSs X U φ body f) (hNj:X.N[j]? =some y:=by rfl) (hv:Vis X.env.scope y:=by first|exact Or.inl rfl|exact Or.inr (Or.inl rfl)|exact Or.inr (Or.inr rfl)) (hd:NDb y:=by decide)
  (hcd:(y==("__classdict__":Str))=false:=by decide) (hs:∀x,foldedSetIterable (.Name y py) X.env x=pure x:=by intro _;rfl) (hf:X.fn x=true\/X.env.scope.names.lookup x=some .local:=by first|exact .inl rfl|exact .inr rfl|assumption):
  QS X U φ (.For (.Name x px) (.Name y py) body [] pos) (fS i (gV (aB j)) f):=(zi6 hp hc (yg3 (rO hNj hv hd hcd)) (kK hN hi hx hf) hbd hs).imp fun E σ H hh_=>by
 obtain⟨ps,F,fl,ps',R,e,q⟩:=hh_
 obtain⟨ds,e1,e2⟩:=bind_some e
 obtain⟨d,e3,e4⟩:=bind_some e1
 obtain⟨v,fp,h1,h2,_,h4⟩:=R.rep j d (join_some e3)
 refine⟨v,h1,?_⟩
 refine zs8 (R:=xl8 (tM i) (tS (φ.fx X.K U) f) E σ) h2 e4 fun J Z hz W=> ?_
 exact zk1 R (fun a ha=>⟨R.bt j a (h4 hj a (hz a ha)),fun k hk=>R.nb k a hk j (h4 hj a (hz a ha))⟩) W hb hm e2 q
end
def gP(np n:Nat)(f:tz1):tz6:=fun ds=>if ds.length=np then(f (ds.map some++List.replicate n none)).bind fun r=>match r with
 |(.ret d,_)=>some d
 |(.nx,_)=>some .non
 |_=>none
 else none
def SpP(np:Nat)(K:tz0)(U:tz9)(g:tz6):Sp:=fun vs H Q _=>vs.length=np/\∃ds fp d,Reps K U H vs ds fp/\g ds=some d/\jX K U H d Q
def fxP(K:tz0)(U:tz9)(np:Nat)(B:Nat->Addr->Prop):Fx:=⟨K,U,fun i=>decide (i<np),fun _=>false,B⟩
def f0P(np:Nat)(B:Nat->Addr->Prop):F0:=⟨fun i=>decide (i<np),fun _=>false,B⟩
theorem yg4{N:List Str}{vs:List V}{i:Nat}{v:V}(h:vs[i]? =some v):(start N vs)[i]? =some (some v):=by
 unfold start
 have hi:=(Z6.mp h).1
 rw [ZL (by simpa using hi),Zi,h];rfl
theorem RS.start{K:tz0}{U:tz9}{H:Hp}{N:List Str}{vs:List V}{ds:List D}{fp:List Addr}{np:Nat}(r:Reps K U H vs ds fp)(hl:vs.length=np)(hn:np<=N.length):
  RS (fxP K U np (fun _ a=>a∈fp)) H (start N vs) (ds.map some++List.replicate (N.length-np) none) (fun _=>[]):=by
 have el:=r.length
 refine⟨fun i d h=> ?_,fun i a h=>absurd h (by simp),fun i j a h=>absurd h (by simp),fun i=>Zf,fun i a h=>absurd h (by simp),fun k a h z=> ?_,?_⟩
 ·by_cases hi:i<ds.length
  ·rw [ZL (by simpa using hi),Zi] at h
   cases e:ds[i]? with
   |none=>rw [e] at h;cases h
   |some d'=>
    rw [e] at h;cases h
    obtain⟨v,f,h1,h2,h3⟩:=r.get e
    refine⟨v,f,yg4 h1,h2,fun z=> ?_,fun _=>h3⟩
    exact absurd (YA z) (by omega)
  ·rw [ZW (by simpa using hi),Yj] at h
   split at h<;>cases h
 ·obtain⟨o,h,_⟩:=r.own a h
  rw [z] at h;cases h
 ·unfold L2.start
  simp only [Z2,Zd,YM]
  omega
section
variable{P:Program}{w:World}{K:tz0}{mg:tzA}{base:Heap}{U:tz9}
theorem dF{x qual:Str}{st:Stmt}{f:Addr}{fd:FuncData}{N ps:List Str}{k:Nat}{fb:tz1}(F:Fun K x qual st f fd)(S:FnScope N ps (bA st))
  (hbody:∀(cdv:Value) (A:Around) (outer:List Env) (s:Shared) (H:Hp) (E:XK) (B:Nat->Addr->Prop),Room k (A.deeper (envOfC qual (bA st) s.heap.objs.size f cdv))->
   QSs (vB CX0 P w K mg base N qual (bA st) f cdv A outer s H E).nox U (f0P ps.length B) (lU st) fb):
  FnOk P w K mg base CX0 (k+1) f fd ps (SpP ps.length K U (gP ps.length (N.length-ps.length) fb)):=by
 refine F.ok S (fun vs H Q E h=>h.1) fun cdv A outer s H vs Q E hr ⟨hl,ds,fp,d,r,e,q⟩=>⟨_,hbody cdv A outer s H E (fun _ a=>a∈fp) hr,?_⟩
 have hn:ps.length<=N.length:=by have:=ZP List.length S.pre;rw [YD] at this;omega
 unfold gP at e
 obtain⟨_,e0⟩:=bL e
 obtain⟨⟨fl,ps'⟩,e1,e2⟩:=bind_some e0
 refine⟨_,fun _=>[],fl,ps',RS.start r hl hn,e1,?_⟩
 have sm:∀{H':Hp},Frm (fun _=>[]) H H'->SameK H H':=fun k=>⟨fun a o h kk=>k.keep a o h kk (fun _=>by simp),k.grow⟩
 cases fl with
 |ret d'=>
  cases e2
  exact fun v σ' H' F' fv s o rv=>q v H' fv (sm s.fr) (fun a ha=>(o.nw a ha).elim (fun⟨j,hj⟩=>absurd hj (by simp)) id) o.nd rv
 |nx=>
  cases e2
  exact fun σ' H' F' s=>q .non H' [] (sm s.fr) (fun a ha=>absurd ha (by simp)) Zf .non
 |bk=>cases e2
 |ct=>cases e2
end
section
variable{X:Cx}{U:tz9}{e:Expr}{es:List Expr}{g:tz3}{pos p:Pos}
theorem dG{x:Str}{st:Stmt}{ps:List Str}{f:Addr}{fd:FuncData}{k np:Nat}{h:tz6}(Dd:Dn X.K X.mg x st ps f fd)(G:FnOk X.prog X.w X.K X.mg X.base CX0 k f fd ps (SpP np X.K U h))(hr:Room k X.A)(hg:Gl X x)(hnp:(e::es).length=np)(ha:QVA X U (e::es) g)
  (hlen:∀ps ds,g ps=some ds->ds.length=(e::es).length)
  (hdb:NDb x:=by decide) (he:StE e es X:=by rfl) (hpl:BkE pos es X:=by rfl):
  QP X U (.Call (.Name x p) (e::es) [] pos) (aL h g):=(zx4 Dd G hr hg ha hdb he hpl).imp fun σ H Q hh_=>by
 obtain⟨ps,d,w,e,q⟩:=hh_
 obtain⟨ds,e1,e2⟩:=bind_some e
 refine⟨ps,ds,w,e1,fun vs H1 fp s1 r1=> ?_⟩
 show SpP np X.K U h (vs++[]) H1 Q E0
 rw [Zh]
 exact⟨by rw [r1.length,hlen ps ds e1,hnp],ds,fp,d,r1,e2,q.after s1⟩
theorem xh6{x:Str}{st:Stmt}{ps:List Str}{f:Addr}{fd:FuncData}{k:Nat}{h:tz6}(Dd:Dn X.K X.mg x st ps f fd)(G:FnOk X.prog X.w X.K X.mg X.base CX0 k f fd ps (SpP 0 X.K U h))(hr:Room k X.A)(hg:Gl X x)
  (hdb:NDb x:=by decide):QP X U (.Call (.Name x p) [] [] pos) (aL h aD):=(xg6 Dd G hr hg hdb).imp fun σ H Q hh_=>by
 obtain⟨ps,d,w,e,q⟩:=hh_
 obtain⟨ds,e1,e2⟩:=bind_some e
 cases e1
 exact⟨rfl,[],[],d,.nil,e2,q⟩
theorem cD:∀(ps:PSt) (ds:List D),aD ps=some ds->ds.length=([]:List Expr).length:=fun _ _ h=>by cases h;rfl
theorem aP(h:∀ps ds,g ps=some ds->ds.length=es.length):∀(ps:PSt) (ds:List D),aA f g ps=some ds->ds.length=(e::es).length:=fun ps ds q=>by
 obtain⟨d,es',_,e2,rfl⟩:=sP q
 rw [Z4,Z4,h ps es' e2]
end
def qG(pick:List (Option Nat))(ps:PSt):PSt:=pick.map fun o=>o.bind fun j=>(ps[j]?).join
def mP(psb:PSt)(ft:tz4)(fe:tz2):List D->Option (List D)
 |[]=>some []
 |d::ds=>(ft (psb.set 0 (some d))).bind fun b=>if b=true then(fe (psb.set 0 (some d))).bind fun r=>(mP psb ft fe ds).bind fun rs=>some (r::rs) else mP psb ft fe ds
def zg6(pick:List (Option Nat))(fi:tz3)(ft:tz4)(fe:tz2):tz2:=fun ps=>(fi ps).bind fun ds=>if ds.length<=sizeLine then(mP (qG pick ps) ft fe ds).bind fun rs=>some (.lst true rs) else none
def za4:tz4:=fun _=>some true
theorem WS.sub{K:tz0}{U:tz9}{H:Hp}{σ:St}{ps:PSt}(pick:List (Option Nat))(w:WS K U H σ ps):WS K U H (oM pick σ) (qG pick ps):=fun i d h=>by
 unfold qG at h
 unfold oM
 rw [Zi] at h|-
 cases e:pick[i]? with
 |none=>rw [e] at h;cases h
 | some o=>
  rw [e] at h
  cases o with
  |none=>cases h
  |some j=>
   have h':(ps[j]?).join=some d:=Zz h
   obtain⟨v,fp,h1,h2⟩:=w j d (join_some h')
   refine⟨v,fp,?_,h2⟩
   show some ((σ[j]?).join)=some (some v)
   rw [h1];rfl
theorem WS.set0{K:tz0}{U:tz9}{H:Hp}{σ:St}{ps:PSt}{v:V}{d:D}{fp:List Addr}(w:∀(i:Nat) (d:D),i≠0->ps[i]? =some (some d)->∃v fp,σ[i]? =some (some v)/\Rep K U H v d fp)(hl:ps.length<=σ.length)(r:Rep K U H v d fp):WS K U H (σ.set 0 (some v)) (ps.set 0 (some d)):=fun i d' h=>by
 by_cases e:i=0
 ·subst e
  by_cases hp:0<ps.length
  ·rw [Zv hp] at h
   cases h
   exact⟨v,fp,by rw [Zv (by omega)],r⟩
  ·rw [YN (by simpa using hp)] at h;cases h
 ·rw [Zq (fun z=>e z.symm)] at h|-
  exact w i d' e h
section
variable{X:Cx}{U:tz9}{sc:Scope}{NX N:List Str}{pick:List (Option Nat)}{elt iter:Expr}{ifs:List Expr}{scope:Scope}{pos px:Pos}{x:Str}{fi:tz3}{ft:tz4}{fe:tz2}
theorem PTs.imp(h:PTs X ifs t)(k:∀σ H Q,t' σ H Q->t σ H Q):PTs X ifs t':=⟨fun pins s σ H Q I q=>h pins s σ H Q I (k σ H Q q)⟩
theorem yz0:PTs X [] (tQ X.K U za4):=xg7.imp fun σ H Q ⟨ps,b,w,e,q⟩=>by cases e;exact q H (.refl H)
structure Grown(K:tz0)(U:tz9)(H1:Hp)(Dd:Addr)(H':Hp)(vs:List V)(rs:List D)(fv:List Addr):Prop where
 same:SameK H1 H'
 at_:H' Dd=some (.lst vs)
 rep:Reps K U H' vs rs fv
 new:∀a∈fv,H1 a=none
 ne:Dd∉fv
 nd:fv.Nodup
def xp9(K:tz0)(U:tz9)(J:It)(Dd:Addr)(q:Hp->Prop)(V:Nat->Nat->St->Hp->Prop)(ft:tz4)(fe:tz2)(i m:Nat)(σ':St)(H':Hp):Prop:=
  (J.stop i H'/\q H')\/(J.go i H'/\∀x H2,J.yld i H' x H2->tM 0 x σ' H2 fun σ3 H3=>tQ K U ft σ3 H3 fun b H4=>
   if b=true then tP K U fe σ3 H4 fun y H5=>∃ys,H5 Dd=some (.lst ys)/\ys.length<sizeLine/\∃m',m'<m/\V (i+1) m' σ3 (upd H5 Dd (.lst (ys++[y]))) else ∃m',m'<m/\V (i+1) m' σ3 H4)
def xt1(K:tz0)(U:tz9)(H1:Hp)(Dd:Addr)(pick:List (Option Nat))(ps:PSt)(ft:tz4)(fe:tz2)(ds rs:List D)(i m:Nat)(σ':St)(H':Hp):Prop:=i<=ds.length/\m=ds.length-i/\(∀(j:Nat) (d:D),j≠0->(qG pick ps)[j]? =some (some d)->∃v fp,σ'[j]? =some (some v)/\Rep K U H1 v d fp)/\(qG pick ps).length<=σ'.length/\
  ∃vs fv done rest,Grown K U H1 Dd H' vs done fv/\done.length<=i/\mP (qG pick ps) ft fe (ds.drop i)=some rest/\rs=done++rest
theorem yo6{pick:List (Option Nat)}{J:It}{Z:List Addr}{σ:St}{ps:PSt}{H1:Hp}{Dd:Addr}{ds rs:List D}{Q:Addr->Hp->Prop}(w:WS X.K U H1 σ ps)(hD:H1 Dd=none)(W:Walk X.K U J Z H1 ds)(hz:ds.length<=sizeLine)
  (e:mP (qG pick ps) ft fe ds=some rs) (q:∀H' vs fv,Grown X.K U H1 Dd H' vs rs fv->Q Dd H'):
  ∃V:Nat->Nat->St->Hp->Prop,(∃m,V 0 m (oM pick σ) (upd H1 Dd (.lst [])))/\∀i m σ' H',V i m σ' H'->xp9 X.K U J Dd (Q Dd) V ft fe i m σ' H':=by
 refine⟨xt1 X.K U H1 Dd pick ps ft fe ds rs,⟨_,ZI _,rfl,fun j d _ h=>w.sub pick j d h,by simp [qG,oM],[],[],[],rs,⟨.new hD _,bO,.nil,fun _ h=>absurd h (by simp),by simp,Zf⟩,ZI _,by rw [Xo];exact e,rfl⟩,?_⟩
 rintro i m σ' H' ⟨hi,rfl,ws,wl,vs,fv,done,rest,G,hdn,er,ers⟩
 have kp:oN Z H1 H':=fun a o h t=>G.same.keep a o h (t.elim lI fun t=>t.1)
 by_cases hlt:i<ds.length
 ·right
  have ed:ds[i]? =some ds[i]:=Zp hlt
  obtain⟨hgo,hy⟩:=W.go H' kp i _ ed
  refine⟨hgo,fun x H2 y=> ?_⟩
  obtain⟨rfl,rx⟩:=hy x H2 y
  rw [ZS hlt,mP] at er
  obtain⟨b,e1,e2⟩:=bind_some er
  have wset:WS X.K U H2 (σ'.set 0 (some x)) ((qG pick ps).set 0 (some ds[i])):=WS.set0 (fun j d hj h=>by obtain⟨v,fp,h1,h2⟩:=ws j d hj h;exact⟨v,fp,h1,h2.same G.same⟩) wl rx
  refine⟨_,b,wset,e1,fun H3 s3=> ?_⟩
  have keepS:∀(j:Nat) (d:D),j≠0->(qG pick ps)[j]? =some (some d)->∃v fp,(σ'.set 0 (some x))[j]? =some (some v)/\Rep X.K U H1 v d fp:=fun j d hj h=>by
   obtain⟨v,fp,h1,h2⟩:=ws j d hj h
   exact⟨v,fp,by rw [Zq (fun z=>hj z.symm)];exact h1,h2⟩
  have Dkeep:∀{H5:Hp},SameK H2 H5->H5 Dd=some (.lst vs):=fun s=>s.keep _ _ G.at_ rfl
  cases b with
  | true=>
   dsimp only
   rw [if_pos rfl] at e2|-
   obtain⟨r,e3,e4⟩:=bind_some e2
   obtain⟨rs',e5,e6⟩:=bind_some e4
   cases e6
   refine⟨_,r,wset.same s3,e3,fun y H5 fw s5 n5 nd5 r5=> ?_⟩
   have s25:=s3.trans s5
   refine⟨vs,Dkeep s25,?_,ds.length-(i+1),by omega,hlt,rfl,keepS,by simpa using wl,vs++[y],fv++fw,done++[r],rs',?_,?_,e5,by rw [ers];simp⟩
   ·have:=G.rep.length;omega
   ·have hDw:Dd∉fw:=fun z=>by have:=s3.grow Dd (n5 Dd z);rw [G.at_] at this;cases this
    have hup:∀a,a≠Dd->upd H5 Dd (.lst (vs++[y])) a=H5 a:=fun a h=>aY h
    have tfk:∀a o,H5 a=some o->tf o=true->upd H5 Dd (.lst (vs++[y])) a=some o:=fun a o h t=>by
     rw [hup a]
     ·exact h
     ·rintro rfl;rw [Dkeep s25] at h;cases h;cases t
    have rv5:Reps X.K U H5 vs done fv:=G.rep.same s25
    refine⟨⟨fun a o h k=> ?_,fun a h=> ?_⟩,bO,Reps.append (rv5.move tfk fun a ha=>hup a fun z=>G.ne (z▸ha)) (Reps.one (r5.move tfk fun a ha=>hup a fun z=>hDw (z▸ha))),fun a ha=> ?_,fun z=> ?_,?_⟩
    ·rw [hup a (fun z=>by subst z;rw [hD] at h;cases h)]
     exact(G.same.trans s25).keep a o h k
    ·by_cases z:a=Dd
     ·subst z;rw [bO] at h;cases h
     ·rw [hup a z] at h;exact(G.same.trans s25).grow a h
    ·rcases ZB.mp ha with z|z
     ·exact G.new a z
     ·exact(G.same.trans s3).grow a (n5 a z)
    ·rcases ZB.mp z with z|z
     ·exact G.ne z
     ·exact hDw z
    ·rw [Zy]
     refine⟨G.nd,nd5,fun a ha b hb e=> ?_⟩
     subst e
     obtain⟨o,h,k,_⟩:=G.rep.own a ha
     have:=s3.keep a o h k
     rw [n5 a hb] at this;cases this
   ·rw [Z2,XF];omega
  |false=>
   dsimp only
   rw [if_neg Z5] at e2|-
   refine⟨ds.length-(i+1),by omega,hlt,rfl,keepS,by simpa using wl,vs,fv,done,rest,⟨G.same.trans s3,Dkeep s3,G.rep.same s3,G.new,G.ne,G.nd⟩,by omega,e2,ers⟩
 ·left
  have ek:i=ds.length:=by omega
  subst ek
  rw [X8,mP] at er
  cases er
  rw [Zh] at ers
  subst ers
  exact⟨W.stop H' kp,q H' vs fv G⟩
theorem yz1(S:CScope sc NX N pick scope)(hsc:X.env.scope=sc)(hNX:X.N=NX)(hc:X.calm=true)(hi:QIV X U (.Name x px) iter fi)
  (hg:∀cl fp s H,PG (cxB X N scope cl fp s H) (.Name x px) (tM 0)) (ht:∀cl fp s H,PTs (cxB X N scope cl fp s H) ifs (tQ X.K U ft)) (he:∀cl fp s H,PE (cxB X N scope cl fp s H) elt (tP X.K U fe))
  (hs:∀x,foldedSetIterable iter X.env x=pure x:=by intro _;rfl):QP X U (.ListComp elt [⟨.Name x px,iter,ifs,0⟩] scope pos) (zg6 pick fi ft fe):=
 (yy3 S hsc hNX hc hi hg ht he hs).imp fun σ H Q hh_=>by
  obtain⟨ps,d,w,e,q⟩:=hh_
  obtain⟨ds,e1,e2⟩:=bind_some e
  obtain⟨hz,e3⟩:=bL e2
  obtain⟨rs,e4,e5⟩:=bind_some e3
  cases e5
  refine⟨ps,ds,w,e1,fun J H1 Z s1 W Dd hD=> ?_⟩
  refine yo6 (Q:=fun Dd H'=>Q (.ref Dd) H') (w.same s1) hD W hz e4 fun H' vs fv G=> ?_
  refine q _ H' (Dd::fv) (s1.trans G.same) (fun a ha=> ?_) (Zo.mpr ⟨G.ne,G.nd⟩) (.lst G.at_ G.rep)
  rcases Z8.mp ha with z|z
  ·rw [z];exact s1.grow Dd hD
  ·exact s1.grow a (G.new a z)
end
inductive Ps1 where
 |ix (n:Nat)|fld (f:Str)
def cQ:List Str->Str->Option Nat
 |[],_=>none
 |n::ns,f=>if n=f then some 0 else(cQ ns f).map (·+1)
def fF{α:Type}(h:D->Option (α×D)):D->List Ps1->Option (α×D)
 |d,[]=>h d
 | .lst true xs,.ix n::p=>(xs[n]?).bind fun d=>(fF h d p).bind fun r=>some (r.1,.lst true (xs.set n r.2))
 | .obj true C ns vs,.fld f::p=>(cQ ns f).bind fun n=>(vs[n]?).bind fun d=>(fF h d p).bind fun r=>some (r.1,.obj true C ns (vs.set n r.2))
 |_,_=>none
def jD:D->List Ps1->Option D
 |d,[]=>some d
 | .lst true xs,.ix n::p=>(xs[n]?).bind fun d=>jD d p
 | .obj true _ ns vs,.fld f::p=>(cQ ns f).bind fun n=>(vs[n]?).bind fun d=>jD d p
 |_,_=>none
def At(H:Hp):V->List Ps1->V->Prop
 |v0,[],v=>v=v0
 |v0,.ix n::p,v=>∃a vs v1,v0= .ref a/\H a=some (.lst vs)/\vs[n]? =some v1/\At H v1 p v
 |v0,.fld f::p,v=>∃a C dx fs n v1,v0= .ref a/\H a=some (.ins C dx fs)/\cQ (fs.map (·.1)) f=some n/\(fs.map (·.2))[n]? =some v1/\At H v1 p v
theorem At.same(s:SameK H H'):∀{p:List Ps1} {v0 v:V},At H v0 p v->At H' v0 p v
 |[],_,_,h=>h
 | .ix n::p,_,_,⟨a,vs,v1,h1,h2,h3,h4⟩=>⟨a,vs,v1,h1,s.keep _ _ h2 rfl,h3,At.same s h4⟩
 | .fld f::p,_,_,⟨a,C,dx,fs,n,v1,h1,h2,h3,h4,h5⟩=>⟨a,C,dx,fs,n,v1,h1,s.keep _ _ h2 rfl,h3,h4,At.same s h5⟩
theorem At.snoc_ix(h:H a=some (.lst vs))(hv:vs[n]? =some v):∀{p:List Ps1} {v0:V},At H v0 p (.ref a)->At H v0 (p++[.ix n]) v
 |[],_,e=>⟨a,vs,v,e.symm,h,hv,rfl⟩
 | .ix m::p,_,⟨b,us,v1,h1,h2,h3,h4⟩=>⟨b,us,v1,h1,h2,h3,At.snoc_ix h hv h4⟩
 | .fld f::p,_,⟨b,C,dx,fs,m,v1,h1,h2,h3,h4,h5⟩=>⟨b,C,dx,fs,m,v1,h1,h2,h3,h4,At.snoc_ix h hv h5⟩
theorem At.snoc_fld(h:H a=some (.ins C dx fs))(hn:cQ (fs.map (·.1)) f=some n)(hv:(fs.map (·.2))[n]? =some v):∀{p:List Ps1} {v0:V},At H v0 p (.ref a)->At H v0 (p++[.fld f]) v
 |[],_,e=>⟨a,C,dx,fs,n,v,e.symm,h,hn,hv,rfl⟩
 | .ix m::p,_,⟨b,us,v1,h1,h2,h3,h4⟩=>⟨b,us,v1,h1,h2,h3,At.snoc_fld h hn hv h4⟩
 | .fld f'::p,_,⟨b,C',dx',fs',m,v1,h1,h2,h3,h4,h5⟩=>⟨b,C',dx',fs',m,v1,h1,h2,h3,h4,At.snoc_fld h hn hv h5⟩
theorem zt0(e:fF h d0 (.ix n::p)=some (r,d')):∃xs d1 d2,d0= .lst true xs/\xs[n]? =some d1/\fF h d1 p=some (r,d2)/\d'= .lst true (xs.set n d2):=by
 unfold fF at e
 split at e
 ·rename_i z;cases z
 ·rename_i z;cases z
  obtain⟨d1,h1,h2⟩:=bind_some e
  obtain⟨⟨r1,d2⟩,h3,h4⟩:=bind_some h2
  cases h4
  exact⟨_,_,_,rfl,h1,h3,rfl⟩
 ·rename_i z;cases z
 ·cases e
theorem zk2(e:fF h d0 (.fld f::p)=some (r,d')):∃C ns xs n d1 d2,d0= .obj true C ns xs/\cQ ns f=some n/\xs[n]? =some d1/\fF h d1 p=some (r,d2)/\d'= .obj true C ns (xs.set n d2):=by
 unfold fF at e
 split at e
 ·rename_i z;cases z
 ·rename_i z;cases z
 ·rename_i z;cases z
  obtain⟨n,h0,h9⟩:=bind_some e
  obtain⟨d1,h1,h2⟩:=bind_some h9
  obtain⟨⟨r1,d2⟩,h3,h4⟩:=bind_some h2
  cases h4
  exact⟨_,_,_,_,_,_,rfl,h0,h1,h3,rfl⟩
 ·cases e
theorem zM(e:jD d0 (.ix n::p)=some d):∃xs d1,d0= .lst true xs/\xs[n]? =some d1/\jD d1 p=some d:=by
 unfold jD at e
 split at e
 ·rename_i z;cases z
 ·rename_i z;cases z
  obtain⟨d1,h1,h2⟩:=bind_some e
  exact⟨_,_,rfl,h1,h2⟩
 ·rename_i z;cases z
 ·cases e
theorem wT(e:jD d0 (.fld f::p)=some d):∃C ns xs n d1,d0= .obj true C ns xs/\cQ ns f=some n/\xs[n]? =some d1/\jD d1 p=some d:=by
 unfold jD at e
 split at e
 ·rename_i z;cases z
 ·rename_i z;cases z
 ·rename_i z;cases z
  obtain⟨n,h0,h9⟩:=bind_some e
  obtain⟨d1,h1,h2⟩:=bind_some h9
  exact⟨_,_,_,_,_,rfl,h0,h1,h2⟩
 ·cases e
theorem lK:∀{d0:D},fF h d0 p=some (r,d')->∃d dn,jD d0 p=some d/\h d=some (r,dn):=by
 induction p generalizing d' with
 |nil=>intro d0 e;rw [fF] at e;exact⟨d0,d',by rw [jD],e⟩
 | cons s p ih=>
  intro d0 e
  cases s with
  |ix m=>
   obtain⟨xs,d1,d2,rfl,h1,h3,rfl⟩:=zt0 e
   obtain⟨d,dn,g1,g2⟩:=ih h3
   refine⟨d,dn,?_,g2⟩
   show(xs[m]?).bind _=_
   rw [h1];exact g1
  |fld f=>
   obtain⟨C,ns,xs,m,d1,d2,rfl,h0,h1,h3,rfl⟩:=zk2 e
   obtain⟨d,dn,g1,g2⟩:=ih h3
   refine⟨d,dn,?_,g2⟩
   show(cQ ns f).bind _=_
   rw [h0]
   show(xs[m]?).bind _=_
   rw [h1];exact g1
section
variable{K:tz0}{U:tz9}{H:Hp}
theorem Reps.focus:∀{vs:List V} {ds:List D} {g:List Addr} {n:Nat} {d1:D} {v1:V},Reps K U H vs ds g->ds[n]? =some d1->vs[n]? =some v1->∃f1 rest,Rep K U H v1 d1 f1/\g.Perm (f1++rest)/\
  ∀(H':Hp) (d':D) (f':List Addr),(∀a o,H a=some o->tf o=true->H' a=some o)->(∀a∈rest,H' a=H a)->Rep K U H' v1 d' f'->∃g',Reps K U H' vs (ds.set n d') g'/\g'.Perm (f'++rest)
 |_,_,_,_,_,_,.nil,e,_=>by simp at e
 |_,_,_,0,_,_,.cons (f:=f) (g:=g) h hs,e,e'=>by
  simp at e e';subst e;subst e'
  exact⟨f,g,h,.refl _,fun H' d' f' t k r=>⟨f'++g,.cons r (hs.move t k),.refl _⟩⟩
 | _,_,_,n+1,_,_,.cons (f:=f) (g:=g) h hs,e,e'=>by
  obtain⟨f1,rest,h1,h2,h3⟩:=Reps.focus (n:=n) hs (by simpa using e) (by simpa using e')
  refine⟨f1,f++rest,h1,?_,fun H' d' f' t k r=> ?_⟩
  ·refine(h2.append_left f).trans ?_
   rw [<-Ze,<-Ze]
   exact Yq.append_right rest
  ·obtain⟨g',r1,r2⟩:=h3 H' d' f' t (fun a ha=>k a (Zb _ ha)) r
   refine⟨f++g',.cons (h.move t fun a ha=>k a (Zs _ ha)) r1,?_⟩
   refine(r2.append_left f).trans ?_
   rw [<-Ze,<-Ze]
   exact Yq.append_right rest
theorem zc1{b:Addr}{g f1 fd rest rest1:List Addr}(k2:g.Perm (f1++rest1))(m3:f1.Perm (fd++rest)):(b::g).Perm (fd++b::(rest++rest1)):=by
 refine((k2.trans (m3.append_right rest1)).cons b).trans ?_
 rw [Ze]
 exact List.perm_middle.symm
def Foc(K:tz0)(U:tz9)(H:Hp){α:Type}(h:D->Option (α×D))(r:α)(v v0:V)(d0':D)(fp:List Addr):Prop:=∃d d' fd rest,Rep K U H v d fd/\h d=some (r,d')/\fp.Perm (fd++rest)/\
  ∀(H':Hp) (f':List Addr),(∀a o,H a=some o->tf o=true->H' a=some o)->(∀a∈rest,H' a=H a)->Rep K U H' v d' f'->∃fp',Rep K U H' v0 d0' fp'/\fp'.Perm (f'++rest)
theorem focus{α:Type}{h:D->Option (α×D)}{r:α}{p:List Ps1}:∀{v0 v:V} {d0 d0':D} {fp:List Addr},Rep K U H v0 d0 fp->fF h d0 p=some (r,d0')->At H v0 p v->Foc K U H h r v v0 d0' fp:=by
 induction p with
 |nil=>
  intro v0 v d0 d0' fp R e a
  rw [fF] at e
  cases(show v=v0 from a)
  exact⟨d0,d0',fp,[],R,e,by rw [Zh],fun H' f' t k r=>⟨f',r,by rw [Zh]⟩⟩
 | cons s p ih=>
  intro v0 v d0 d0' fp R e a
  have deep:∀(b:Addr) (vs:List V) (xs:List D) (n:Nat) (d1 d2:D) (v1:V) (g:List Addr),fp=b::g->Reps K U H vs xs g->xs[n]? =some d1->vs[n]? =some v1->fF h d1 p=some (r,d2)->At H v1 p v->(∀(H':Hp) (g2:List Addr),H' b=H b->Reps K U H' vs (xs.set n d2) g2->Rep K U H' v0 d0' (b::g2))->
    Foc K U H h r v v0 d0' fp:=fun b vs xs n d1 d2 v1 g ef hs h1 e3 h3 e4 mk=>by
   subst ef
   obtain⟨f1,rest1,k1,k2,k3⟩:=hs.focus h1 e3
   obtain⟨d,d',fd,rest,m1,m2,m3,m4⟩:=ih k1 h3 e4
   refine⟨d,d',fd,b::(rest++rest1),m1,m2,zc1 k2 m3,fun H' f' t k rr=> ?_⟩
   obtain⟨g1,q1,q2⟩:=m4 H' f' t (fun a ha=>k a (Z1 _ (Zs _ ha))) rr
   obtain⟨g2,q3,q4⟩:=k3 H' d2 g1 t (fun a ha=>k a (Z1 _ (Zb _ ha))) q1
   exact⟨b::g2,mk H' g2 (k b Z0) q3,zc1 q4 q2⟩
  cases s with
  |ix n=>
   obtain⟨b,vs,v1,e1,e2,e3,e4⟩:=a
   subst e1
   obtain⟨xs,d1,d2,rfl,h1,h3,rfl⟩:=zt0 e
   obtain⟨_,_,g,e5,hb,hs,ef⟩:=R.lstT_inv
   cases e5
   rw [e2] at hb;cases hb
   exact deep b vs xs n d1 d2 v1 g ef hs h1 e3 h3 e4 fun H' g2 k q3=> .lst (k.trans e2) q3
  |fld f=>
   obtain⟨b,C,dx,fs,n,v1,e1,e2,e2',e3,e4⟩:=a
   subst e1
   obtain⟨C',ns,xs,n',d1,d2,rfl,h0,h1,h3,rfl⟩:=zk2 e
   obtain⟨_,_,_,g,e5,hb,hn,hs,ef⟩:=R.objT_inv
   cases e5
   rw [e2] at hb;cases hb
   subst hn
   rw [e2'] at h0;cases h0
   exact deep b _ xs n d1 d2 v1 g ef hs h1 e3 h3 e4 fun H' g2 k q3=> .obj (k.trans e2) rfl q3
end
theorem rS(R:RS φ H σ ps F)(s1:SameK H H1)(hb:φ.bor j=false)(e0:ps[j]? =some (some d0))(ev:σ[j]? =some (some v0))
  (em:fF h d0 p=some (r,d0')) (at_:At H1 v0 p v):∃d d' fd,Rep φ.K φ.U H1 v d fd/\h d=some (r,d')/\fd.Nodup/\(∀a∈fd,a∈F j)/\
  ∀(H':Hp) (fd' fr:List Addr),(∀a o,H1 a=some o->kd o=true->a∉fd->H' a=some o)->(∀a,H' a=none->H1 a=none)->Rep φ.K φ.U H' v d' fd'->(fd'++fr).Nodup->(∀a∈fd'++fr,a∈fd\/H a=none)->
   ∃F',Stp φ σ H F σ H' (ps.set j (some d0')) F'/\OwnV F H F' fr:=by
 obtain⟨v0',fp,h1,h2,h3,_⟩:=R.rep j d0 e0
 rw [ev] at h1;cases h1
 have h3:=h3 hb
 subst h3
 obtain⟨d,d',fd,rest,m1,m2,m3,m4⟩:=focus (h2.same s1) em at_
 have ndF:=R.nd j
 have ndp:(fd++rest).Nodup:=m3.nodup_iff.mp ndF
 obtain⟨nd1,nd2,nd3⟩:=Zy.mp ndp
 have inF:∀a,a∈fd\/a∈rest->a∈F j:=fun a ha=>m3.mem_iff.mpr (ZB.mpr ha)
 refine⟨d,d',fd,m1,m2,nd1,fun a ha=>inF a (.inl ha),fun H' fd' fr k1 k2 k3 k4 k5=> ?_⟩
 have tfk:∀a o,H1 a=some o->tf o=true->H' a=some o:=fun a o ha t=>k1 a o ha (lI t) fun hm=>by
  obtain⟨o',q,_,q'⟩:=m1.own a hm
  rw [ha] at q;cases q;rw [t] at q';cases q'
 have keepO:∀a,(∃i,a∈F i)->a∉fd->H' a=H1 a:=fun a ⟨i,hi⟩ hn=>by
  obtain⟨o,q,q',_⟩:=R.own hi
  have q1:=s1.keep a o q q'
  rw [q1];exact k1 a o q1 q' hn
 have notfd:∀a,a∈rest->a∉fd:=fun a hr hf=>nd3 a hf a hr rfl
 obtain⟨fp',r1,r2⟩:=m4 H' fd' tfk (fun a ha=>keepO a ⟨j,inF a (.inr ha)⟩ (notfd a ha)) k3
 obtain⟨kd1,kd2,kd3⟩:=Zy.mp k4
 have memfp:∀a,a∈fp'->a∈fd'\/a∈rest:=fun a ha=>ZB.mp (r2.mem_iff.mp ha)
 have lt:j<ps.length:=(Z6.mp e0).1
 have old:∀a,a∈fd'++fr->∀i,a∈F i->a∈fd:=fun a ha i hi=>(k5 a ha).elim id fun z=>by
  obtain⟨o,q,_⟩:=R.own hi
  rw [z] at q;cases q
 refine⟨kU F j fp',⟨⟨fun a o ha hk hn=> ?_,fun a ha=>s1.grow a (k2 a ha)⟩,fun i a ha=> ?_,⟨fun i d2 hi=> ?_,fun i a ha=> ?_,fun i k a ha hk=> ?_,fun i=> ?_,fun i a ha kk hB=> ?_,fun kk a hB z=>R.bt kk a hB (s1.grow a (k2 a z)),by simpa using R.len⟩,fun _ _=>rfl⟩,⟨fun a ha=> ?_,kd2,fun i a ha hr=> ?_⟩⟩
 ·exact k1 a o (s1.keep a o ha hk) hk fun hm=>hn j (inF a (.inl hm))
 ·rcases iW ha with z|z
  ·rcases memfp a z with z|z
   ·exact(k5 a (Zs _ z)).elim (fun z=> .inl ⟨j,inF a (.inl z)⟩) .inr
   ·exact .inl ⟨j,inF a (.inr z)⟩
  ·exact .inl ⟨i,z⟩
 ·by_cases e:i=j
  ·subst e
   rw [Zv lt] at hi
   cases hi
   exact⟨v0,fp',ev,r1,fun _=>eC.symm,fun z=>by rw [hb] at z;cases z⟩
  ·rw [Zq (fun z=>e z.symm)] at hi
   obtain⟨v2,f2,q1,q2,q3,q4⟩:=R.rep i d2 hi
   refine⟨v2,f2,q1,(q2.same s1).move tfk fun a ha=> ?_,fun z=>by rw [eE e];exact q3 z,q4⟩
   obtain⟨o,w1,w2,_⟩:=q2.own a ha
   have w3:=s1.keep a o w1 w2
   rw [w3]
   refine k1 a o w3 w2 fun hm=> ?_
   have hF:=inF a (.inl hm)
   cases hbi:φ.bor i with
   |true=>exact R.nb j a hF i (q4 hbi a ha)
   |false=>rw [q3 hbi] at ha;exact e (R.dis i j a ha hF)
 ·by_cases e:i=j
  ·subst e;exact⟨hb,d0',by rw [Zv lt]⟩
  ·rw [eE e] at ha
   obtain⟨b1,d1,b2⟩:=R.emp i a ha
   exact⟨b1,d1,by rw [Zq (fun z=>e z.symm)];exact b2⟩
 ·have hh:∀a,a∈fp'->∀i,i≠j->a∈F i->False:=fun a ha i hij hi=>by
   rcases memfp a ha with z|z
   ·exact hij (R.dis i j a hi (inF a (.inl (old a (Zs _ z) i hi))))
   ·exact hij (R.dis i j a hi (inF a (.inr z)))
  by_cases e1:i=j
  ·by_cases e2:k=j
   ·rw [e1,e2]
   ·subst e1;rw [eC] at ha;rw [eE e2] at hk;exact(hh a ha k e2 hk).elim
  ·by_cases e2:k=j
   ·subst e2;rw [eC] at hk;rw [eE e1] at ha;exact(hh a hk i e1 ha).elim
   ·rw [eE e1] at ha;rw [eE e2] at hk;exact R.dis i k a ha hk
 ·by_cases e:i=j
  ·subst e
   rw [eC]
   refine r2.nodup_iff.mpr (Zy.mpr ⟨kd1,nd2,fun a ha b hb' e=> ?_⟩)
   subst e
   exact notfd a hb' (old a (Zs _ ha) i (inF a (.inr hb')))
  ·rw [eE e];exact R.nd i
 ·rcases iW ha with z|z
  ·rcases memfp a z with z|z
   ·exact R.notB ((k5 a (Zs _ z)).elim (fun z=> .inl ⟨j,inF a (.inl z)⟩) .inr) kk hB
   ·exact R.nb j a (inF a (.inr z)) kk hB
  ·exact R.nb i a z kk hB
 ·exact(k5 a (Zb _ ha)).elim (fun z=> .inl ⟨j,inF a (.inl z)⟩) .inr
 ·rcases iW ha with z|z
  ·rcases memfp a z with z|z
   ·exact kd3 a z a hr rfl
   ·exact notfd a z (old a (Zb _ hr) j (inF a (.inr z)))
  ·have:=old a (Zb _ hr) i z
   by_cases e:i=j
   ·subst e
    rw [eC] at ha
    rcases memfp a ha with w|w
    ·exact kd3 a w a hr rfl
    ·exact notfd a w this
   ·exact e (R.dis i j a z (inF a (.inl this)))
def mQ(K:tz0)(U:tz9)(j:Nat)(pf:PSt->Option (List Ps1)):TE:=fun σ H Q=>∃ps p d0 d,WS K U H σ ps/\ps[j]? =some (some d0)/\pf ps=some p/\jD d0 p=some d/\∀v H' v0,SameK H H'->σ[j]? =some (some v0)->At H' v0 p v->Q v H'
theorem wU{K:tz0}{U:tz9}{H:Hp}{v0 v:V}{d0 d:D}{fp:List Addr}{p:List Ps1}(R:Rep K U H v0 d0 fp)(g:jD d0 p=some d)(a:At H v0 p v):∃fd,Rep K U H v d fd:=by
 have key:∀{p:List Ps1} {v0 v:V} {d0 d:D} {fp:List Addr},Rep K U H v0 d0 fp->jD d0 p=some d->At H v0 p v->∃fd,Rep K U H v d fd:=by
  intro p
  induction p with
  |nil=>intro v0 v d0 d fp R g a;cases g;cases(show v=v0 from a);exact⟨fp,R⟩
  | cons s p ih=>
   intro v0 v d0 d fp R g a
   cases s with
   |ix n=>
    obtain⟨b,vs,v1,e1,e2,e3,e4⟩:=a
    subst e1
    obtain⟨xs,d1,rfl,h1,h2⟩:=zM g
    obtain⟨_,_,_,e5,hb,hs,_⟩:=R.lstT_inv
    cases e5
    rw [e2] at hb;cases hb
    obtain⟨v',f,q1,q2,_⟩:=hs.get h1
    rw [e3] at q1;cases q1
    exact ih q2 h2 e4
   |fld f=>
    obtain⟨b,C,dx,fs,n,v1,e1,e2,e2',e3,e4⟩:=a
    subst e1
    obtain⟨C',ns,xs,n',d1,rfl,h0,h1,h2⟩:=wT g
    obtain⟨_,_,_,_,e5,hb,hn,hs,_⟩:=R.objT_inv
    cases e5
    rw [e2] at hb;cases hb
    subst hn
    rw [e2'] at h0;cases h0
    obtain⟨v',f,q1,q2,_⟩:=hs.get h1
    rw [e3] at q1;cases q1
    exact ih q2 h2 e4
 exact key R g a
def bR:PSt->Option (List Ps1):=fun _=>some []
def fU(j:Nat)(pf:PSt->Option (List Ps1))(fb:tz2):PSt->Option (List Ps1):=fun ps=>(pf ps).bind fun p=>((ps[j]?).join).bind fun d0=>(jD d0 p).bind fun d=>(fb ps).bind fun y=>match d,y with
 | .lst true xs,.int i=>(ixN xs.length i).bind fun n=>some (p++[.ix n])
 |_,_=>none
def yb4(j:Nat)(pf:PSt->Option (List Ps1))(C f:Str):PSt->Option (List Ps1):=fun ps=>(pf ps).bind fun p=>((ps[j]?).join).bind fun d0=>(jD d0 p).bind fun d=>match d with
 | .obj true C' _ _=>if C'=C then some (p++[.fld f]) else none
 |_=>none
theorem pV:∀{fs:List (Str×V)} {f:Str} {n:Nat} {v:V},cQ (fs.map (·.1)) f=some n->(fs.map (·.2))[n]? =some v->fs.lookup f=some v
 |[],_,_,_,h,_=>by cases h
 | (g,u)::fs,f,n,v,h,hv=>by
  rw [Za,cQ] at h
  by_cases e:g=f
  ·rw [if_pos e] at h
   cases h
   rw [Zx]
   have:(f==g)=true:=by simp [e]
   rw [this]
   simpa using hv
  ·rw [if_neg e] at h
   cases q:cQ (fs.map (·.1)) f with
   |none=>rw [q] at h;cases h
   |some m=>
    rw [q] at h;cases h
    rw [Zx]
    have:(f==g)=false:=by simp;exact fun z=>e z.symm
    rw [this]
    exact pV q (by simpa using hv)
section
variable{X:Cx}{φ:F0}{U:tz9}{K:tz0}{o e a b:Expr}{f fb fe:tz2}{g:tz3}{pf:PSt->Option (List Ps1)}{j:Nat}{pos apos:Pos}
theorem cH(j:Nat){x:Str}(hN:X.N[j]? =some x:=by rfl)(hv:Vis X.env.scope x:=by first|exact Or.inl rfl|exact Or.inr (Or.inl rfl)|exact Or.inr (Or.inr rfl))(hd:NDb x:=by decide)
  (hcd:(x==("__classdict__":Str))=false:=by decide):PE X (.Name x pos) (mQ K U j bR):=(rO hN hv hd hcd).imp fun σ H Q hh_=>by
 obtain⟨ps,p,d0,d,w,e0,ep,eg,q⟩:=hh_
 cases ep
 obtain⟨v,fp,h1,h2⟩:=w j d0 e0
 exact⟨v,h1,q v H v (.refl H) h1 rfl⟩
theorem jT(ha:PE X a (mQ X.K U j pf))(hb:QV X U b fb)(hs:vZ b:=by exact fun _ _=>rfl):PE X (.Subscript a b pos) (mQ X.K U j (fU j pf fb)):=
 (zf3 zI ha hb hs).imp fun σ H Q hh_=>by
  obtain⟨ps,p,d0,d,w,e0,ep,eg,q⟩:=hh_
  obtain⟨p1,e1,e2⟩:=bind_some ep
  obtain⟨d0',e3,e4⟩:=bind_some e2
  have:=join_some e3
  rw [e0] at this;cases this
  obtain⟨d1,e5,e6⟩:=bind_some e4
  obtain⟨y,e7,e8⟩:=bind_some e6
  split at e8
  ·rename_i xs i
   obtain⟨n,e9,e10⟩:=bind_some e8
   cases e10
   refine⟨ps,p1,d0,_,w,e0,e1,e5,fun v H1 v0 s1 ev a1=>⟨ps,_,w.same s1,e7,fun u H2 fq s2 r2=> ?_⟩⟩
   obtain⟨v0',fp,h1,h2⟩:=w j d0 e0
   rw [ev] at h1;cases h1
   obtain⟨fd,rd⟩:=wU (h2.same (s1.trans s2)) e5 (a1.same s2)
   obtain⟨l,vs,g,rfl,hl,hr,_⟩:=rd.lstT_inv
   have ln:=hr.length
   have hn:=(vS e9).2.1
   obtain⟨v1,hv⟩:∃v1,vs[n]? =some v1:=⟨_,Zp (by rw [ln];exact hn)⟩
   refine⟨l,vs,i,v1,rfl,r2.is_int,.inl (.inl hl),?_,q _ H2 v0 (s1.trans s2) ev (At.snoc_ix hl hv (a1.same s2))⟩
   unfold atI
   rw [ln,e9];exact hv
  ·cases e8
theorem yg5{C fn:Str}(hc:Cls X.K (U C))(hna:cY X.K (U C) fn)(ha:PE X a (mQ X.K U j pf))(hb:attributeBase a fn X.env (eval a X.env)=eval a X.env:=by rfl):PE X (.Attribute a fn pos) (mQ X.K U j (yb4 j pf C fn)):=
 (xf7 ha hb).imp fun σ H Q hh_=>by
  obtain⟨ps,p,d0,d,w,e0,ep,eg,q⟩:=hh_
  obtain⟨p1,e1,e2⟩:=bind_some ep
  obtain⟨d0',e3,e4⟩:=bind_some e2
  have:=join_some e3
  rw [e0] at this;cases this
  obtain⟨d1,e5,e6⟩:=bind_some e4
  split at e6
  ·rename_i C' ns xs
   obtain⟨hC,e7⟩:=bL e6
   subst hC
   cases e7
   refine⟨ps,p1,d0,_,w,e0,e1,e5,fun v H1 v0 s1 ev a1=> ?_⟩
   obtain⟨v0',fp,h1,h2⟩:=w j d0 e0
   rw [ev] at h1;cases h1
   obtain⟨fd,rd⟩:=wU (h2.same s1) e5 a1
   have key:∀{p:List Ps1} {d0:D},jD d0 p=some (.obj true C' ns xs)->jD d0 (p++[.fld fn])=some d->∃n d',cQ ns fn=some n/\xs[n]? =some d':=by
    intro p
    induction p with
    |nil=>
     intro d0 h1 h2
     cases h1
     obtain⟨n,k1,k2⟩:=bind_some h2
     obtain⟨d',k3,_⟩:=bind_some k2
     exact⟨n,d',k1,k3⟩
    | cons s p ih=>
     intro d0 h1 h2
     cases s with
     |ix m=>
      obtain⟨ys,x1,rfl,k1,k2⟩:=zM h1
      obtain⟨_,x2,z,k3,k4⟩:=zM h2
      cases z
      rw [k1] at k3;cases k3
      exact ih k2 k4
     |fld f'=>
      obtain⟨C2,ns2,ys,m1,x1,rfl,k0,k1,k2⟩:=wT h1
      obtain⟨_,_,_,m2,x2,z,k5,k3,k4⟩:=wT h2
      cases z
      rw [k0] at k5;cases k5
      rw [k1] at k3;cases k3
      exact ih k2 k4
   obtain⟨n,d',k1,k2⟩:=key e5 eg
   obtain⟨l,dx,fs,g,rfl,hl,hn,hr,_⟩:=rd.objT_inv
   subst hn
   obtain⟨v1,f1,k3,_⟩:=hr.get k2
   exact⟨l,U C',dx,fs,v1,rfl,hl,hc,hna,pV k1 k3,q _ H1 v0 s1 ev (At.snoc_fld hl k1 k3 a1)⟩
  ·cases e6
def dO(j:Nat)(pf:PSt->Option (List Ps1))(g:tz3)(h:List D->D->Option (D×D)):tz8:=fun ps=>((ps[j]?).join).bind fun d0=>(pf ps).bind fun p=>(g ps).bind fun ys=>(fF (h ys) d0 p).bind fun r=>some (r.1,ps.set j (some r.2))
theorem uI(e:dO j pf g h ps=some (d,ps')):∃d0 p ys d0',ps[j]? =some (some d0)/\pf ps=some p/\g ps=some ys/\fF (h ys) d0 p=some (d,d0')/\ps'=ps.set j (some d0'):=by
 obtain⟨d0,e1,e2⟩:=bind_some e
 obtain⟨p,e3,e4⟩:=bind_some e2
 obtain⟨ys,e5,e6⟩:=bind_some e4
 obtain⟨⟨r,d0'⟩,e7,e8⟩:=bind_some e6
 cases e8
 exact⟨d0,p,ys,d0',join_some e1,e3,e5,e7,rfl⟩
def dN:List D->D->Option (D×D)
 |[y],.lst true xs=>if xs.length<sizeLine then some (.non,.lst true (xs++[y])) else none
 |_,_=>none
theorem uJ(h:dN ys d=some (r,d')):∃y xs,ys=[y]/\d= .lst true xs/\xs.length<sizeLine/\r= .non/\d'= .lst true (xs++[y]):=by
 unfold dN at h
 split at h
 ·obtain⟨hc,e⟩:=bL h
  cases e
  exact⟨_,_,rfl,rfl,hc,rfl,rfl⟩
 ·cases h
theorem zN(w:WS K U H σ ps)(s1:SameK H H1)(e0:ps[j]? =some (some d0))(ev:σ[j]? =some (some v0))(g:jD d0 p=some d)(a:At H1 v0 p v):∃fd,Rep K U H1 v d fd:=by
 obtain⟨v0',fp,h1,h2⟩:=w j d0 e0
 rw [ev] at h1;cases h1
 exact wU (h2.same s1) g a
theorem lR(hb:φ.bor j=false)(ho:PE X o (mQ X.K U j pf))(ha:PA X [e] (tPA X.K U g))
  (hbase:attributeBase o "append" X.env (eval o X.env)=eval o X.env:=by rfl)
  (hfew:((backTo pos (starEach [e] X.env)).all (fun x=> !x.1)&&(backToKw pos (keywordEach [] X.env)).all (fun x=>x.1.isSome)
   &&decide ([e].length+([]:List Keyword).length+(if ([]:List Keyword).isEmpty then 0 else 1)<30))=true:=by rfl)
  (hline:(apos.endLine==pos.line)=true:=by rfl) (hs:starEach [e] X.env=(false,eval e X.env)::starEach [] X.env:=by rfl) (hplain:(backTo pos (starEach [] X.env)).any (·.1)=false:=by rfl):
  QE X U φ (.Call (.Attribute o "append" apos) [e] [] pos) (dO j pf g dN):=
 (yv2 Xx PySem.F.slot_list_append PySem.F.type_list_append zb4 ho ha hbase hfew hline hs hplain).imp fun σ H Q hh_=>by
  obtain⟨ps,F,d,ps',R,e,q⟩:=hh_
  obtain⟨d0,p,ys,d0',e0,ep,eg,em,rfl⟩:=uI e
  obtain⟨dd,dn,gp,hh⟩:=lK em
  refine⟨ps,p,d0,dd,R.ws,e0,ep,gp,fun v H1 v0 s1 ev a1=>⟨?_,ps,ys,R.ws.same s1,eg,fun vs H2 fy s2 n2 nd2 r2=> ?_⟩⟩
  ·obtain⟨y,xs,rfl,rfl,_⟩:=uJ hh
   obtain⟨fd,rd⟩:=zN R.ws s1 e0 ev gp a1
   obtain⟨_,_,_,rfl,hl,hr,rfl⟩:=rd.lstT_inv
   exact .inl ⟨rfl,_,.inl (.inl hl)⟩
  ·obtain⟨d1,d1',fd,m1,m2,m3,m4,m5⟩:=rS R (s1.trans s2) hb e0 ev em (a1.same s2)
   obtain⟨y,xs,rfl,rfl,hz,rfl,rfl⟩:=uJ m2
   obtain⟨u,rfl,ru⟩:=r2.one_inv
   obtain⟨l,us,g1,rfl,hl,hr,rfl⟩:=m1.lstT_inv
   have ln:=hr.length
   refine⟨l,us,u,rfl,rfl,hl,by omega,?_⟩
   have nl:l∉fy:=fun z=>by have:=n2 l z;have:=s1.keep l;obtain⟨o,h1,h2,_⟩:=R.own (m4 l Z0);have:=s1.keep l o h1 h2;rw [n2 l z] at this;cases this
   obtain⟨nl2,nd3⟩:=Zo.mp m3
   have up:∀a,a≠l->upd H2 l (.lst (us++[u])) a=H2 a:=fun a h=>aY h
   have tfk:∀a o,H2 a=some o->tf o=true->upd H2 l (.lst (us++[u])) a=some o:=fun a o h t=>by
    rw [up a]
    ·exact h
    ·rintro rfl;rw [hl] at h;cases h;cases t
   obtain⟨F',st,ow⟩:=m5 (upd H2 l (.lst (us++[u]))) (l::(g1++fy)) [] (fun a o h _ hn=>by rw [up a (fun z=>hn (z▸Z0))];exact h)
    (fun a h=>by
     by_cases z:a=l
     ·subst z;rw [bO] at h;cases h
     ·rw [up a z] at h;exact h)
    (.lst bO (Reps.append (hr.move tfk fun a ha=>up a fun z=>nl2 (z▸ha)) (Reps.one (ru.move tfk fun a ha=>up a fun z=>nl (z▸ha)))))
    (by
     rw [Zh,Zo,Zy]
     refine⟨fun z=>(ZB.mp z).elim nl2 nl,nd3,nd2,fun a ha b hb e=> ?_⟩
     subst e
     obtain⟨o,h1,h2,_⟩:=R.own (m4 a (Z1 _ ha))
     have:=s1.keep a o h1 h2
     rw [n2 a hb] at this;cases this)
    (fun a ha=>by
     rw [Zh] at ha
     rcases Z8.mp ha with z|z
     ·exact .inl (z▸Z0)
     ·rcases ZB.mp z with z|z
      ·exact .inl (Z1 _ z)
      ·exact .inr (s1.grow a (n2 a z)))
   exact q .non _ F' [] st ow .non
end
section
variable{K:tz0}{U:tz9}{H:Hp}{l:Addr}{o0 o:HO}
theorem yg6(hl:H l=some o0)(ht:tf o0=false):∀a u,H a=some u->tf u=true->upd H l o a=some u:=fun a u h t=>by
 rw [aY]
 ·exact h
 ·rintro rfl;rw [hl] at h;cases h;rw [ht] at t;cases t
theorem Rep.updL(r:Rep K U H v d g)(hl:H l=some o0)(ht:tf o0=false)(n:l∉g):Rep K U (upd H l o) v d g:=r.move (yg6 hl ht) fun a ha=>aY fun z=>n (z▸ha)
theorem Reps.updL(r:Reps K U H v d g)(hl:H l=some o0)(ht:tf o0=false)(n:l∉g):Reps K U (upd H l o) v d g:=r.move (yg6 hl ht) fun a ha=>aY fun z=>n (z▸ha)
theorem pW(h:H a=some u)(n:a∉l::g):upd H l o a=some u:=by
 rw [aY (fun z=>n (by rw [z];exact Z0))];exact h
theorem fI(h:upd H l o a=none):H a=none:=by
 by_cases z:a=l
 ·subst z;rw [bO] at h;cases h
 ·rw [aY z] at h;exact h
theorem Reps.pop:∀{vs:List V} {ds:List D} {g:List Addr} {d:D},Reps K U H vs ds g->ds[ds.length-1]? =some d->∃v g1 f,vs[vs.length-1]? =some v/\Rep K U H v d f/\Reps K U H vs.dropLast ds.dropLast g1/\g=g1++f
 |_,_,_,_,.nil,e=>by simp at e
 |_,[d1],_,d,.cons (f:=f) h .nil,e=>by
  have e':d1=d:=by simpa using e
  subst e'
  exact⟨_,[],f,by simp,h,.nil,by simp⟩
 |v::v2::vs,d1::d2::ds,_,d,.cons (f:=f) h (.cons (f:=f2) (g:=g2) h2 hs),e=>by
  obtain⟨w,g1,f',k1,k2,k3,k4⟩:=Reps.pop (.cons h2 hs) (d:=d) (by simpa using e)
  refine⟨w,f++g1,f',by simpa using k1,k2,?_,by rw [Ze,<-k4]⟩
  rw [XJ,XJ]
  exact .cons h k3
theorem Reps.setV:∀{vs:List V} {ds:List D} {g:List Addr} {n:Nat} {v':V} {d':D} {f':List Addr},Reps K U H vs ds g->n<ds.length->Rep K U H v' d' f'->∃f1 rest g',g.Perm (f1++rest)/\Reps K U H (vs.set n v') (ds.set n d') g'/\g'.Perm (f'++rest)
 |_,_,_,_,_,_,_,.nil,e,_=>by simp at e
 |_,_,_,0,_,_,f',.cons (f:=f) (g:=g) h hs,_,r=>⟨f,g,f'++g,.refl _,.cons r hs,.refl _⟩
 | _,_,_,n+1,_,_,f',.cons (f:=f) (g:=g) h hs,e,r=>by
  obtain⟨f1,rest,g',h1,h2,h3⟩:=Reps.setV (n:=n) hs (by simpa using e) r
  refine⟨f1,f++rest,f++g',?_,.cons h h2,?_⟩
  ·refine(h1.append_left f).trans ?_
   rw [<-Ze,<-Ze]
   exact Yq.append_right rest
  ·refine(h3.append_left f).trans ?_
   rw [<-Ze,<-Ze]
   exact Yq.append_right rest
end
section
variable{X:Cx}{φ:F0}{U:tz9}{K:tz0}{o e a b:Expr}{f fi fe:tz2}{g:tz3}{pf:PSt->Option (List Ps1)}{j:Nat}{pos apos:Pos}
def rM:List D->D->Option (D×D)
 |[],.lst true xs=>(xs[xs.length-1]?).bind fun y=>some (y,.lst true xs.dropLast)
 |_,_=>none
theorem zc2(h:rM ys d=some (r,d')):∃xs,ys=[]/\d= .lst true xs/\xs[xs.length-1]? =some r/\d'= .lst true xs.dropLast:=by
 unfold rM at h
 split at h
 ·obtain⟨y,h1,h2⟩:=bind_some h
  cases h2
  exact⟨_,rfl,rfl,h1,rfl⟩
 ·cases h
theorem xh7(hb:φ.bor j=false)(ho:PE X o (mQ X.K U j pf))
  (hbase:attributeBase o "pop" X.env (eval o X.env)=eval o X.env:=by rfl) (hline:(apos.endLine==pos.line)=true:=by rfl):QE X U φ (.Call (.Attribute o "pop" apos) [] [] pos) (dO j pf aD rM):=
 (xg3 Xx PySem.F.slot_list_pop PySem.F.type_list_pop xg4 ho hbase hline).imp fun σ H Q hh_=>by
  obtain⟨ps,F,d,ps',R,e,q⟩:=hh_
  obtain⟨d0,p,ys,d0',e0,ep,eg,em,rfl⟩:=uI e
  cases eg
  obtain⟨dd,dn,gp,hh⟩:=lK em
  refine⟨ps,p,d0,dd,R.ws,e0,ep,gp,fun v H1 v0 s1 ev a1=>⟨?_,?_⟩⟩
  ·obtain⟨xs,_,rfl,_⟩:=zc2 hh
   obtain⟨fd,rd⟩:=zN R.ws s1 e0 ev gp a1
   obtain⟨_,_,_,rfl,hl,hr,rfl⟩:=rd.lstT_inv
   exact .inl ⟨rfl,_,.inl (.inl hl)⟩
  ·obtain⟨d1,d1',fd,m1,m2,m3,m4,m5⟩:=rS R s1 hb e0 ev em a1
   obtain⟨xs,_,rfl,hx,rfl⟩:=zc2 m2
   obtain⟨l,us,g1,rfl,hl,hr,rfl⟩:=m1.lstT_inv
   obtain⟨u,g2,f2,k1,k2,k3,rfl⟩:=hr.pop hx
   obtain⟨nl,nd3⟩:=Zo.mp m3
   have n1:l∉g2:=fun z=>nl (Zs _ z)
   have n2:l∉f2:=fun z=>nl (Zb _ z)
   refine⟨l,us,u,rfl,rfl,hl,k1,?_⟩
   obtain⟨F',st,ow⟩:=m5 (upd H1 l (.lst us.dropLast)) (l::g2) f2 (fun a o h _ hn=>pW h hn)
    (fun a h=>fI h)
    (.lst bO (k3.updL hl rfl n1)) (by rw [ZN,Zo];exact⟨nl,nd3⟩) (fun a ha=> .inl ha)
   exact q u _ F' f2 st ow (k2.updL hl rfl n2)
def qH:D->D->D->Option (Unit×D)
 | .int i,y,.lst true xs=>(ixN xs.length i).bind fun n=>some ((),.lst true (xs.set n y))
 |_,_,_=>none
def fV(j:Nat)(pf:PSt->Option (List Ps1))(fi fe:tz2):tz1:=fun ps=>(fe ps).bind fun y=>((ps[j]?).join).bind fun d0=>(pf ps).bind fun p=>(fi ps).bind fun i=>(fF (qH i y) d0 p).bind fun r=>some (.nx,ps.set j (some r.2))
theorem zr0(h:qH i y d=some (r,d')):∃k xs n,i= .int k/\d= .lst true xs/\ixN xs.length k=some n/\d'= .lst true (xs.set n y):=by
 unfold qH at h
 split at h
 ·obtain⟨n,h1,h2⟩:=bind_some h
  cases h2
  exact⟨_,_,n,rfl,rfl,h1,rfl⟩
 ·cases h
theorem pX(hb:φ.bor j=false)(he:PE X e (tP X.K U fe))(ho:PE X o (mQ X.K U j pf))(hi:PE X i (tV X.K U fi))(hs:swapsWithSole [.Subscript o i apos] e pos.line X.env=pure false:=by rfl)(hw:swappedStores [.Subscript o i apos] e X.env=pure none:=by rfl)
  (h1:(assignEach [.Subscript o i apos] X.env).map (·.2)=[assign (.Subscript o i apos) X.env]:=by rfl)
  (ha:∀v,assign (.Subscript o i apos) X.env v=(do
   let ov<-holding [v] (eval o X.env)
   let iv<-holding [v,ov] (eval i X.env)
   standAt apos
   holding [v,ov,iv] (setItem ov iv v)
   release [v,ov,iv] []):=by intro _;rfl):QS X U φ (.Assign [.Subscript o i apos] e pos) (fV j pf fi fe):=
 (yd1 he (xf1 ho hi yn3 ha) hs hw h1).imp fun E σ H hh_=>by
  obtain⟨ps,F,fl,ps',R,e,q⟩:=hh_
  obtain⟨y,e1,e2⟩:=bind_some e
  obtain⟨d0,e3,e4⟩:=bind_some e2
  have e0:=join_some e3
  obtain⟨p,e5,e6⟩:=bind_some e4
  obtain⟨iv,e7,e8⟩:=bind_some e6
  obtain⟨⟨r,d0'⟩,em,e9⟩:=bind_some e8
  cases e9
  obtain⟨dd,dn,gp,hh⟩:=lK em
  refine⟨ps,y,R.ws,e1,fun v H1 fy s1 n1 nd1 ry=>⟨ps,p,d0,dd,R.ws.same s1,e0,e5,gp,fun lv H2 v0 s2 ev a2=>⟨ps,iv,(R.ws.same s1).same s2,e7,fun u H3 fu s3 r3=> ?_⟩⟩⟩
  have s13:=(s1.trans s2).trans s3
  obtain⟨d1,d1',fd,m1,m2,m3,m4,m5⟩:=rS R s13 hb e0 ev em (a2.same s3)
  obtain⟨k,xs,n,rfl,rfl,hn,rfl⟩:=zr0 m2
  obtain⟨l,us,g1,rfl,hl,hr,rfl⟩:=m1.lstT_inv
  have ln:=hr.length
  have ry3:=(ry.same s2).same s3
  obtain⟨nl,nd3⟩:=Zo.mp m3
  have own0:∀a∈l::g1,H a≠none:=fun a ha z=>by obtain⟨o,h,_⟩:=R.own (m4 a ha);rw [z] at h;cases h
  have nl2:l∉fy:=fun z=>own0 l Z0 (n1 l z)
  obtain⟨f1,rest,g2,k1,k2,k3⟩:=hr.setV (n:=n) (vS hn).2.1 ry3
  have mem2:∀a∈g2,a∈fy\/a∈g1:=fun a ha=>(ZB.mp (k3.mem_iff.mp ha)).elim .inl fun z=> .inr (k1.mem_iff.mpr (Zb _ z))
  have n2:l∉g2:=fun z=>(mem2 l z).elim nl2 nl
  refine⟨l,us,k,n,rfl,r3.is_int,hl,by rw [ln];exact hn,?_⟩
  obtain⟨F',st,ow⟩:=m5 (upd H3 l (.lst (us.set n v))) (l::g2) [] (fun a o h _ hn=>pW h hn)
   (fun a h=>fI h)
   (.lst bO (k2.updL hl rfl n2))
   (by
    rw [Zh,Zo]
    refine⟨n2,k3.nodup_iff.mpr (Zy.mpr ⟨nd1,?_,fun a ha b hb e=> ?_⟩)⟩
    ·exact(Zy.mp (k1.nodup_iff.mp nd3)).2.1
    ·subst e
     exact own0 a (Z1 _ (k1.mem_iff.mpr (Zb _ hb))) (n1 a ha))
   (fun a ha=>by
    rw [Zh] at ha
    rcases Z8.mp ha with z|z
    ·exact .inl (by rw [z];exact Z0)
    ·exact(mem2 a z).elim (fun z=> .inr (n1 a z)) fun z=> .inl (Z1 _ z))
  exact q _ _ F' st
end
section
variable{φ:Fx}{H H1:Hp}{σ σ1:St}{ps ps1:PSt}{F F1:Nat->List Addr}
theorem Stp.set'(s1:Stp φ σ H F σ1 H1 ps1 F1)(o:OwnV F H F1 fv)(R:RS φ H σ ps F)(r:Rep φ.K φ.U H1 v d fv)(hb:φ.bor i=false\/fv=[])(hm:φ.M i=false):
  ∃F',Stp φ σ H F (σ1.set i (some v)) H1 (ps1.set i (some d)) F'/\∀k a,a∈F' k->a∈fv\/a∈F1 k:=by
 refine⟨_,⟨s1.fr,fun j a h=> ?_,s1.rs.set r hb (fun j _=>o.dis j) o.nd fun a ha=>R.notB (o.nw a ha),fun j h=> ?_⟩,fun k a h=> ?_⟩
 ·rcases iW h with z|z
  ·by_cases k:i<ps1.length
   ·rw [if_pos k] at z;exact o.nw a z
   ·rw [if_neg k] at z;exact absurd z (by simp)
  ·exact s1.nw j a z
 ·rw [Zq (fun z=>by subst z;rw [hm] at h;cases h)]
  exact s1.msk j h
 ·rcases iW h with z|z
  ·by_cases k:i<ps1.length
   ·rw [if_pos k] at z;exact .inl z
   ·rw [if_neg k] at z;exact absurd z (by simp)
  ·exact .inr z
def setN:St->List Nat->List V->St
 |σ,i::is,v::vs=>setN (σ.set i (some v)) is vs
 |σ,_,_=>σ
def rN:PSt->List Nat->List D->PSt
 |ps,i::is,d::ds=>rN (ps.set i (some d)) is ds
 |ps,_,_=>ps
def sG:List Nat->TGs
 |[]=>xk3
 |i::is=>yw0 (tM i) (sG is)
theorem qQ:∀{is:List Nat} {vs:List V} {σ:St},vs.length=is.length->Q (setN σ is vs) H->sG is vs σ H Q
 |[],[],σ,_,q=>⟨rfl,q⟩
 |i::is,v::vs,σ,h,q=>⟨v,vs,rfl,qQ (is:=is) (by simpa using h) q⟩
 |[],_::_,_,h,_=>by simp at h
 |_::_,[],_,h,_=>by simp at h
theorem Stp.setN(R:RS φ H σ ps F):∀{is:List Nat} {vs:List V} {ds:List D} {g:List Addr} {σ1:St} {ps1:PSt} {F1:Nat->List Addr},Stp φ σ H F σ1 H1 ps1 F1->OwnV F H F1 g->Reps φ.K φ.U H1 vs ds g->(∀i∈is,φ.bor i=false/\φ.M i=false)->
  ∃F',Stp φ σ H F (L2.setN σ1 is vs) H1 (rN ps1 is ds) F':=by
 intro is
 induction is with
 |nil=>intro vs ds g σ1 ps1 F1 s _ _ _;exact⟨F1,by simpa [L2.setN,rN] using s⟩
 | cons i is ih=>
  intro vs ds g σ1 ps1 F1 s o r hi
  cases ds with
  |nil=>cases r;exact⟨F1,by simpa [L2.setN,rN] using s⟩
  |cons d ds=>
   obtain⟨v,us,f,g',rfl,h,hs,rfl⟩:=r.split
   obtain⟨nd1,nd2,nd3⟩:=Zy.mp o.nd
   obtain⟨F2,s2,hF⟩:=s.set' (i:=i) (fv:=f) ⟨fun a ha=>o.nw a (Zs _ ha),nd1,fun k a ha hf=>o.dis k a ha (Zs _ hf)⟩ R h (.inl (hi i Z0).1) (hi i Z0).2
   refine ih s2 ⟨fun a ha=>o.nw a (Zb _ ha),nd2,fun k a ha hg=> ?_⟩ hs fun k hk=>hi k (Z1 _ hk)
   rcases hF k a ha with z|z
   ·exact nd3 a z a hg rfl
   ·exact o.dis k a z (Zb _ hg)
end
def zp1:D->Option (List D)
 | .lst _ ds=>some ds
 | .tup ds=>some ds
 |_=>none
def vE(is:List Nat)(f:tz8):tz1:=fun ps=>(f ps).bind fun r=>(zp1 r.1).bind fun ds=>if ds.length=is.length then some (.nx,rN r.2 is ds) else none
section
variable{X:Cx}{U:tz9}{φ:F0}{es:List Expr}{pos p:Pos}{k:Nat}{is:List Nat}{e:Expr}{f:tz8}
theorem yg7(hc:X.calm=true)(h:PGs X es t)
  (hn:(assignEach es X.env).length=n:=by rfl) (hst:(assignEach es X.env).findIdx? (·.1)=none:=by rfl):PG X (.Tuple es k pos) (fun v σ H Q=>yu3 X.K n t v σ H Q\/yt7 X.K n t v σ H Q):=⟨by
 intro pins s σ H v u Q I r hw
 rcases hw with hw|hw
 ·exact xh0 hc h hn hst pins s σ H v u Q I r hw
 ·exact xf0 hc h hn hst pins s σ H v u Q I r hw⟩
theorem yg8(hc:X.calm=true)(hg:PGs X es (sG is))(he:QE X U φ e f)(hb:∀i∈is,φ.bor i=false/\φ.M i=false)(hn:(assignEach es X.env).length=is.length:=by rfl)(hst:(assignEach es X.env).findIdx? (·.1)=none:=by rfl)
  (hs:swapsWithSole [.Tuple es k p] e pos.line X.env=pure false:=by rfl) (hw:swappedStores [.Tuple es k p] e X.env=pure none:=by rfl)
  (h1:(assignEach [.Tuple es k p] X.env).map (·.2)=[assign (.Tuple es k p) X.env]:=by rfl):QS X U φ (.Assign [.Tuple es k p] e pos) (vE is f):=
 (yd1 he (yg7 (n:=is.length) hc hg hn hst) hs hw h1).imp fun E σ H hh_=>by
  obtain⟨ps,F,fl,ps',R,e,q⟩:=hh_
  obtain⟨⟨d,ps1⟩,e1,e2⟩:=bind_some e
  obtain⟨ds,e3,e4⟩:=bind_some e2
  obtain⟨hl,e5⟩:=bL e4
  cases e5
  refine⟨ps,F,d,ps1,R,e1,fun v H' F' fv s o r=> ?_⟩
  cases d with
  |lst ow xs=>
   cases e3
   obtain⟨a,vs,g,rfl,h,hs,sub⟩:=r.lst_inv
   have ln:=hs.length
   obtain⟨F2,s2⟩:=Stp.setN R s ⟨fun a ha=>o.nw a (sub.subset ha),o.nd.sublist sub,fun k a ha hg=>o.dis k a ha (sub.subset hg)⟩ hs hb
   exact .inl ⟨a,vs,rfl,.inl h,by omega,qQ (by omega) (q _ _ F2 s2)⟩
  |tup xs=>
   cases e3
   obtain⟨a,vs,rfl,h,hs⟩:=r.tup_inv
   have ln:=hs.length
   obtain⟨F2,s2⟩:=Stp.setN R s ⟨fun a ha=>absurd ha (by simp),Zf,fun k a ha hg=>absurd hg (by simp)⟩ hs hb
   exact .inr ⟨a,vs,rfl,h,by omega,qQ (by omega) (q _ _ F2 s2)⟩
  |_=>cases e3
end
def D.key:D->Option Key
 | .int i=>some (.inl i)
 | .str x=>some (.inr x)
 |_=>none
theorem vU{K:tz0}{U:tz9}{H:Hp}{v:V}{d:D}{fp:List Addr}{k:Key}(r:Rep K U H v d fp)(h:d.key=some k):v=kV k:=by
 cases r<;>first|(cases h;rfl)|cases h
def gQ{α:Type}[DecidableEq α]:List α->List D->α->Option D
 |k::ks,d::ds,j=>if k=j then some d else gQ ks ds j
 |_,_,_=>none
def jE:D->D->Option D
 | .dic _ ks ds,y=>y.key.bind fun k=>gQ ks ds k
 | .dit _ ks ds,.kt k=>gQ ks ds k
 |_,_=>none
theorem wV{K:tz0}{U:tz9}{H:Hp}{α:Type}[DecidableEq α]:∀{kvs:List (α×V)} {ks:List α} {ds:List D} {g:List Addr} {k:α} {d:D},kvs.map (·.1)=ks->Reps K U H (kvs.map (·.2)) ds g->gQ ks ds k=some d->∃v f,nD kvs k=some v/\Rep K U H v d f/\f.Sublist g
 |[],_,_,_,_,_,e,r,h=>by subst e;cases r;cases h
 | (k0,v0)::kvs,_,_,_,k,d,e,.cons (f:=f) (g:=g) h hs,q=>by
  subst e
  rw [Za,gQ] at q
  by_cases z:k0=k
  ·rw [if_pos z] at q
   cases q
   exact⟨v0,f,pR z,h,Xt _ _⟩
  ·rw [if_neg z] at q
   obtain⟨v,f',q1,q2,q3⟩:=wV rfl hs q
   exact⟨v,f',by rw [pS z];exact q1,q2,q3.trans (Xp _ _)⟩
theorem Rep.dic_inv{K:tz0}{U:tz9}{H:Hp}{v:V}{o:Bool}{ks:List Key}{ds:List D}{fp:List Addr}(r:Rep K U H v (.dic o ks ds) fp):∃a kvs g,v= .ref a/\Rd H a (.dK kvs)/\kvs.map (·.1)=ks/\Reps K U H (kvs.map (·.2)) ds g/\g.Sublist fp:=by
 cases r with
 |dic h e hs=>exact⟨_,_,_,rfl,.inl h,e,hs,Yn _ _⟩
 |dicF h e hs=>exact⟨_,_,_,rfl,.inr ⟨_,h⟩,e,hs,.refl _⟩
theorem Rep.dit_inv{K:tz0}{U:tz9}{H:Hp}{v:V}{o:Bool}{ks:List (List Key)}{ds:List D}{fp:List Addr}(r:Rep K U H v (.dit o ks ds) fp):∃a kvs g,v= .ref a/\Rd H a (.dT kvs)/\kvs.map (·.1)=ks/\Reps K U H (kvs.map (·.2)) ds g/\g.Sublist fp:=by
 cases r with
 |dit h e hs=>exact⟨_,_,_,rfl,.inl h,e,hs,Yn _ _⟩
 |ditF h e hs=>exact⟨_,_,_,rfl,.inr ⟨_,h⟩,e,hs,.refl _⟩
theorem Rep.kt_inv{K:tz0}{U:tz9}{H:Hp}{v:V}{ks:List Key}{fp:List Addr}(r:Rep K U H v (.kt ks) fp):∃b,v= .ref b/\H b=some (.tup (ks.map kV)):=by
 cases r with
 |kt h=>exact⟨_,rfl,h⟩
section
variable{X:Cx}{U:tz9}{a b:Expr}{fa fb:tz2}{pos:Pos}
theorem yz2{K:tz0}{H:Hp}{x y:V}{dx dy d:D}{fx fy:List Addr}{Q:VK}(r1:Rep K U H x dx fx)(r2:Rep K U H y dy fy)(e:jE dx dy=some d)(q:∀v f,Rep K U H v d f->f.Sublist fx->Q v H):∃a v,x= .ref a/\za1 H a y (some v)/\Q v H:=by
 cases dx with
 |dic o ks ds=>
  obtain⟨k,e1,e2⟩:=bind_some e
  obtain⟨a,kvs,g,rfl,h,hk,hs,sub⟩:=r1.dic_inv
  obtain⟨v,f,q1,q2,q3⟩:=wV hk hs e2
  exact⟨a,v,rfl,.inl ⟨kvs,k,h,vU r2 e1,q1.symm⟩,q v f q2 (q3.trans sub)⟩
 | dit o ks ds=>
  cases dy with
  |kt k=>
   obtain⟨a,kvs,g,rfl,h,hk,hs,sub⟩:=r1.dit_inv
   obtain⟨b,rfl,hb⟩:=r2.kt_inv
   obtain⟨v,f,q1,q2,q3⟩:=wV hk hs e
   exact⟨a,v,rfl,.inr ⟨kvs,k,b,h,rfl,hb,q1.symm⟩,q v f q2 (q3.trans sub)⟩
  |_=>cases e
 |_=>cases e
theorem rT(hu:X.A.units+1<cLine)(ha:QV X U a fa)(hb:QV X U b fb)(hs:yu2 b:=by exact fun _ _=>rfl):QV X U (.Subscript a b pos) (f2 jE fa fb):=
 (yy1 hu ha hb hs).imp fun σ H Q hh_=>by
  obtain⟨ps,d,w,e,q⟩:=hh_
  obtain⟨x,y,e1,e2,e3⟩:=rR e
  exact⟨ps,x,w,e1,fun v H1 fp s1 r1=>⟨ps,y,w.same s1,e2,fun u H2 fq s2 r2=>yz2 (r1.same s2) r2 e3 fun v f r _=>q v H2 f (s1.trans s2) r⟩⟩
end
def fxE(K:tz0)(U:tz9)(np:Nat)(m:Nat->Bool):Fx:=⟨K,U,fun i=>decide (i<np)&& !m i,m,fun _ _=>False⟩
def f0E(np:Nat)(m:Nat->Bool):F0:=⟨fun i=>decide (i<np)&& !m i,m,fun _ _=>False⟩
def SpE(np:Nat)(K:tz0)(U:tz9)(m:Nat->Bool)(g:tz7):Sp:=fun vs H Q _=>vs.length=np/\∃ds r ds' F,ds.length=np/\RS (fxE K U np m) H (vs.map some) (ds.map some) F/\g ds=some (r,ds')/\
 ∀v H' F' fv,Stp (fxE K U np m) (vs.map some) H F (vs.map some) H' (ds'.map some) F'->OwnV F H F' fv->Rep K U H' v r fv->Q v H'
def tO(m:Nat->Bool)(ps:PSt):Nat->List D->Option (List D)
 |_,[]=>some []
 |i,d::ds=>(if m i=true then(ps[i]?).join else some d).bind fun d'=>(tO m ps (i+1) ds).bind fun ds'=>some (d'::ds')
theorem zc3:∀{ds ds':List D} {i:Nat},tO m ps i ds=some ds'->ds'.length=ds.length/\∀(k:Nat) (d':D),ds'[k]? =some d'->(m (i+k)=true->ps[i+k]? =some (some d'))/\(m (i+k)=false->ds[k]? =some d')
 |[],_,_,e=>by cases e;exact⟨rfl,fun k d' h=>by simp at h⟩
 | d::ds,_,i,e=>by
  obtain⟨d1,e1,e2⟩:=bind_some e
  obtain⟨ds1,e3,e4⟩:=bind_some e2
  cases e4
  obtain⟨l,h⟩:=zc3 e3
  refine⟨by simp [l],fun k d' hk=> ?_⟩
  cases k with
  |zero=>
   simp at hk;subst hk
   refine⟨fun z=> ?_,fun z=> ?_⟩
   ·rw [X3] at z|-;rw [if_pos z] at e1;exact join_some e1
   ·rw [X3] at z;rw [if_neg (by rw [z];simp)] at e1;simpa using e1
  |succ k=>
   obtain⟨h1,h2⟩:=h k d' (by simpa using hk)
   have ea:i+(k+1)=i+1+k:=by omega
   rw [ea]
   exact⟨h1,fun z=>by simpa using h2 z⟩
def gE(np n:Nat)(m:Nat->Bool)(f:tz1):tz7:=fun ds=>if ds.length=np then(f (ds.map some++List.replicate n none)).bind fun r=>match r with
 |(.ret d,ps)=>(tO m ps 0 ds).bind fun ds'=>some (d,ds')
 |(.nx,ps)=>(tO m ps 0 ds).bind fun ds'=>some (.non,ds')
 |_=>none
 else none
theorem RS.more(R:RS φ H σ ps F)(hl:ps.length=σ.length)(h2:n<=σ2.length):RS φ H (σ++σ2) (ps++List.replicate n none) F:=by
 refine⟨fun i d h=> ?_,fun i a h=> ?_,R.dis,R.nd,R.nb,R.bt,by simp [hl];omega⟩
 ·by_cases hi:i<ps.length
  ·rw [ZL hi] at h
   rw [ZL (by omega)]
   exact R.rep i d h
  ·rw [ZW (by omega),Yj] at h
   split at h<;>cases h
 ·obtain⟨b,d,e⟩:=R.emp i a h
  have hi:=(Z6.mp e).1
  exact⟨b,d,by rw [ZL hi];exact e⟩
theorem zk3{K:tz0}{U:tz9}{np n:Nat}{m:Nat->Bool}{H H':Hp}{vs:List V}{σ2 σ':St}{ds ds':List D}{ps':PSt}{F F':Nat->List Addr}{fv:List Addr}(hm:∀i,m i=true->i<np)(hl:vs.length=np)(hd:ds.length=np)(R:RS (fxE K U np m) H (vs.map some) (ds.map some) F)
  (s:Stp (fxE K U np m) (vs.map some++σ2) H F σ' H' ps' F') (o:OwnV F H F' fv) (e:tO m ps' 0 ds=some ds'):
  ∃F2,Stp (fxE K U np m) (vs.map some) H F (vs.map some) H' (ds'.map some) F2/\OwnV F H F2 fv:=by
 obtain⟨l,ho⟩:=zc3 e
 have sub:∀i a,a∈(if m i=true then F' i else [])->m i=true/\a∈F' i:=fun i a h=>by
  by_cases z:m i=true
  ·rw [if_pos z] at h;exact⟨z,h⟩
  ·rw [if_neg z] at h;exact absurd h (by simp)
 have tfk:∀a u,H a=some u->tf u=true->H' a=some u:=fun a u h t=>s.fr.keep a u h (lI t) fun i hi=>by
  obtain⟨u',h',_,t'⟩:=R.own hi
  rw [h] at h';cases h';rw [t] at t';cases t'
 have mb:∀i,m i=true->(fxE K U np m).bor i=false:=fun i h=>by simp [fxE,h]
 refine⟨fun i=>if m i=true then F' i else [],⟨s.fr,fun i a h=>s.nw i a (sub i a h).2,⟨fun i d h=> ?_,fun i a h=> ?_,fun i j a h1 h2=>s.rs.dis i j a (sub i a h1).2 (sub j a h2).2,fun i=> ?_,fun i a h=>s.rs.nb i a (sub i a h).2,fun _ a h=>h.elim,by simp [l,hl,hd]⟩,fun _ _=>rfl⟩,⟨o.nw,o.nd,fun i a h=>o.dis i a (sub i a h).2⟩⟩
 ·rw [Zi] at h
  cases q:ds'[i]? with
  |none=>rw [q] at h;cases h
  | some d1=>
   rw [q] at h;cases h
   obtain⟨h1,h2⟩:=ho i d q
   rw [Yw] at h1 h2
   by_cases z:m i=true
   ·obtain⟨v,fp,k1,k2,k3,_⟩:=s.rs.rep i d (h1 z)
    refine⟨v,fp,?_,k2,fun _=>by rw [if_pos z];exact k3 (mb i z),fun w=>by rw [mb i z] at w;cases w⟩
    rw [<-k1]
    have:=s.msk i z
    rw [this,ZL (by simp [hl];exact hm i z)]
   ·have zf:m i=false:=by simpa using z
    have hi:(ds.map some)[i]? =some (some d):=by rw [Zi,h2 zf];rfl
    have hib:(fxE K U np m).bor i=true:=by
     have:=(Z6.mp (h2 zf)).1
     simp [fxE,zf];omega
    obtain⟨v,fp,k1,k2,_,k4⟩:=R.rep i d hi
    have efp:fp=[]:=by
     cases fp with
     |nil=>rfl
     |cons a r=>exact(k4 hib a Z0).elim
    subst efp
    exact⟨v,[],k1,k2.move tfk (fun a ha=>absurd ha (by simp)),(fun w=>by rw [hib] at w;cases w),(fun _ a ha=>absurd ha (by simp))⟩
 ·obtain⟨z,h⟩:=sub i a h
  refine⟨mb i z,?_⟩
  have hi:i<ds'.length:=by rw [l,hd];exact hm i z
  exact⟨ds'[i],by rw [Zi,Zp hi];rfl⟩
 ·by_cases z:m i=true
  ·rw [if_pos z];exact s.rs.nd i
  ·rw [if_neg z];exact Zf
section
variable{P:Program}{w:World}{K:tz0}{mg:tzA}{base:Heap}{U:tz9}
theorem oW{x qual:Str}{st:Stmt}{f:Addr}{fd:FuncData}{N ps:List Str}{k:Nat}{fb:tz1}{m:Nat->Bool}(F:Fun K x qual st f fd)(S:FnScope N ps (bA st))(hm:∀i,m i=true->i<ps.length)
  (hbody:∀(cdv:Value) (A:Around) (outer:List Env) (s:Shared) (H:Hp) (E:XK),Room k (A.deeper (envOfC qual (bA st) s.heap.objs.size f cdv))->
   QSs (vB CX0 P w K mg base N qual (bA st) f cdv A outer s H E).nox U (f0E ps.length m) (lU st) fb):
  FnOk P w K mg base CX0 (k+1) f fd ps (SpE ps.length K U m (gE ps.length (N.length-ps.length) m fb)):=by
 refine F.ok S (fun vs H Q E h=>h.1) fun cdv A outer s H vs Q E hr ⟨hl,ds,r,ds',F0,hd,R,e,q⟩=>⟨_,hbody cdv A outer s H E hr,?_⟩
 have hn:ps.length<=N.length:=by have:=ZP List.length S.pre;rw [YD] at this;omega
 unfold gE at e
 obtain⟨_,e0⟩:=bL e
 obtain⟨⟨fl,ps'⟩,e1,e2⟩:=bind_some e0
 have R0:=R.more (σ2:=List.replicate (N.length-vs.length) none) (n:=N.length-ps.length) (by simp [hl,hd]) (by simp [hl])
 refine⟨_,F0,fl,ps',R0,e1,?_⟩
 cases fl with
 | ret d'=>
  obtain⟨ds1,e3,e4⟩:=bind_some e2
  cases e4
  exact fun v σ' H' F' fv s o rv=>by
   obtain⟨F2,s2,o2⟩:=zk3 (n:=0) hm hl hd R s o e3
   exact q v H' F2 fv s2 o2 rv
 | nx=>
  obtain⟨ds1,e3,e4⟩:=bind_some e2
  cases e4
  exact fun σ' H' F' s=>by
   obtain⟨F2,s2,o2⟩:=zk3 (n:=0) (fv:=[]) hm hl hd R s ⟨fun _ h=>absurd h (by simp),Zf,fun _ _ _ h=>absurd h (by simp)⟩ e3
   exact q .non H' F2 [] s2 o2 .non
 |bk=>cases e2
 |ct=>cases e2
end
set_option genInjectivity true in
inductive Arg where
 |io (j:Nat)|im (f:tz2)
def cO:List Arg->tz3
 |[],_=>some []
 | .io j::as,ps=>((ps[j]?).join).bind fun d=>(cO as ps).bind fun ds=>some (d::ds)
 | .im f::as,ps=>(aR f ps).bind fun d=>(cO as ps).bind fun ds=>some (d::ds)
def kW:List Arg->Nat->Bool
 | .io _::_,0=>true
 |_::as,i+1=>kW as i
 |_,_=>false
def slots:List Arg->List Nat
 |[]=>[]
 | .io j::as=>j::slots as
 | .im _::as=>slots as
def gW:PSt->List Arg->List D->PSt
 |ps,.io j::as,d::ds=>gW (ps.set j (some d)) as ds
 |ps,.im _::as,_::ds=>gW ps as ds
 |ps,_,_=>ps
inductive ArgsAt(K:tz0)(U:tz9)(H:Hp)(σ:St)(ps:PSt):List Arg->List V->List D->Prop
 |nil:ArgsAt K U H σ ps [] [] []
 |io {j:Nat} {as:List Arg} {v:V} {vs:List V} {d:D} {ds:List D}:σ[j]? =some (some v)->ps[j]? =some (some d)->ArgsAt K U H σ ps as vs ds->ArgsAt K U H σ ps (.io j::as) (v::vs) (d::ds)
 |im {f:tz2} {as:List Arg} {v:V} {vs:List V} {d:D} {ds:List D}:Rep K U H v d []->ArgsAt K U H σ ps as vs ds->ArgsAt K U H σ ps (.im f::as) (v::vs) (d::ds)
theorem ArgsAt.len{K:tz0}{U:tz9}{H:Hp}{σ:St}{ps:PSt}:∀{as:List Arg} {vs:List V} {ds:List D},ArgsAt K U H σ ps as vs ds->vs.length=as.length/\ds.length=as.length
 |_,_,_,.nil=>⟨rfl,rfl⟩
 |_,_,_,.io _ _ h=>by have:=h.len;simp [this]
 |_,_,_,.im _ h=>by have:=h.len;simp [this]
theorem ArgsAt.get{K:tz0}{U:tz9}{H:Hp}{σ:St}{ps:PSt}:∀{as:List Arg} {vs:List V} {ds:List D} {i:Nat} {d:D},ArgsAt K U H σ ps as vs ds->ds[i]? =some d->∃v,vs[i]? =some v/\((∃j,as[i]? =some (.io j)/\kW as i=true/\σ[j]? =some (some v)/\ps[j]? =some (some d))\/(kW as i=false/\Rep K U H v d []))
 |_,_,_,_,_,.nil,e=>by simp at e
 |_,_,_,0,_,.io h1 h2 _,e=>by simp at e;subst e;exact⟨_,rfl,.inl ⟨_,rfl,rfl,h1,h2⟩⟩
 |_,_,_,0,_,.im r _,e=>by simp at e;subst e;exact⟨_,rfl,.inr ⟨rfl,r⟩⟩
 |_,_,_,i+1,_,.io _ _ h,e=>by
  obtain⟨v,h1,h2⟩:=ArgsAt.get (i:=i) h (by simpa using e)
  exact⟨v,by simpa using h1,by simpa [kW] using h2⟩
 |_,_,_,i+1,_,.im _ h,e=>by
  obtain⟨v,h1,h2⟩:=ArgsAt.get (i:=i) h (by simpa using e)
  exact⟨v,by simpa using h1,by simpa [kW] using h2⟩
theorem zO:∀{as:List Arg} {i:Nat},kW as i=true->∃j,as[i]? =some (.io j)
 | .io j::_,0,_=>⟨j,rfl⟩
 | .im _::_,0,h=>by cases h
 | .io _::as,i+1,h=>by obtain⟨j,e⟩:=zO (as:=as) (i:=i) h;exact⟨j,by simpa using e⟩
 | .im _::as,i+1,h=>by obtain⟨j,e⟩:=zO (as:=as) (i:=i) h;exact⟨j,by simpa using e⟩
 |[],_,h=>by cases h
theorem nA:∀{as:List Arg} {i j:Nat},as[i]? =some (.io j)->kW as i=true
 | .io _::_,0,_,_=>rfl
 | .im _::_,0,_,h=>by simp at h
 | .io _::as,i+1,j,h=>nA (as:=as) (i:=i) (j:=j) (by simpa using h)
 | .im _::as,i+1,j,h=>nA (as:=as) (i:=i) (j:=j) (by simpa using h)
 |[],_,_,h=>by simp at h
theorem hJ:∀{as:List Arg} {i j:Nat},as[i]? =some (.io j)->j∈slots as
 | .io _::_,0,_,h=>by simp at h;subst h;exact Z0
 | .im _::_,0,_,h=>by simp at h
 | .io _::as,i+1,j,h=>Z1 _ (hJ (as:=as) (i:=i) (by simpa using h))
 | .im _::as,i+1,j,h=>hJ (as:=as) (i:=i) (by simpa using h)
 |[],_,_,h=>by simp at h
theorem uK:∀{as:List Arg} {i k j:Nat},(slots as).Nodup->as[i]? =some (.io j)->as[k]? =some (.io j)->i=k
 |[],_,_,_,_,h,_=>by simp at h
 |a::as,0,0,_,_,_,_=>rfl
 | .io j'::as,0,k+1,j,nd,h1,h2=>by
  simp at h1;subst h1
  exact absurd (hJ (as:=as) (i:=k) (by simpa using h2)) (Zo.mp nd).1
 | .im _::as,0,k+1,j,_,h1,_=>by simp at h1
 | .io j'::as,i+1,0,j,nd,h1,h2=>by
  simp at h2;subst h2
  exact absurd (hJ (as:=as) (i:=i) (by simpa using h1)) (Zo.mp nd).1
 | .im _::as,i+1,0,j,_,_,h2=>by simp at h2
 | .io j'::as,i+1,k+1,j,nd,h1,h2=>by rw [uK (as:=as) (i:=i) (k:=k) (j:=j) (Zo.mp nd).2 (by simpa using h1) (by simpa using h2)]
 | .im _::as,i+1,k+1,j,nd,h1,h2=>by rw [uK (as:=as) (i:=i) (k:=k) (j:=j) nd (by simpa using h1) (by simpa using h2)]
def eT:List Arg->Nat->Option Nat
 |[],_=>none
 | .io i::as,j=>if i=j then some 0 else(eT as j).map (·+1)
 | .im _::as,j=>(eT as j).map (·+1)
theorem kM:∀{as:List Arg} {j i:Nat},eT as j=some i->as[i]? =some (.io j)
 |[],_,_,h=>by cases h
 | .io k::as,j,i,h=>by
  rw [eT] at h
  by_cases z:k=j
  ·rw [if_pos z] at h;cases h;rw [z];rfl
  ·rw [if_neg z] at h
   cases q:eT as j with
   |none=>rw [q] at h;cases h
   |some n=>rw [q] at h;cases h;simpa using kM q
 | .im _::as,j,i,h=>by
  rw [eT] at h
  cases q:eT as j with
  |none=>rw [q] at h;cases h
  |some n=>rw [q] at h;cases h;simpa using kM q
theorem iX:∀{as:List Arg} {j:Nat},eT as j=none->j∉slots as
 |[],_,_=>by simp [slots]
 | .io k::as,j,h=>by
  rw [eT] at h
  by_cases z:k=j
  ·rw [if_pos z] at h;cases h
  ·rw [if_neg z] at h
   have h':eT as j=none:=by
    cases q:eT as j with
    |none=>rfl
    |some n=>rw [q] at h;cases h
   exact fun hm=>(Z8.mp hm).elim (fun e=>z e.symm) (iX h')
 | .im _::as,j,h=>by
  rw [eT] at h
  have h':eT as j=none:=by
   cases q:eT as j with
   |none=>rfl
   |some n=>rw [q] at h;cases h
  exact fun hm=>iX (as:=as) h' hm
theorem sQ:∀{as:List Arg} {ds:List D} {ps:PSt},(gW ps as ds).length=ps.length
 |[],_,_=>by simp [gW]
 | .io j::as,[],_=>by simp [gW]
 | .im _::as,[],_=>by simp [gW]
 | .io j::as,d::ds,ps=>by rw [gW,sQ (as:=as)];simp
 | .im _::as,d::ds,ps=>by rw [gW,sQ (as:=as)]
theorem mF:∀{as:List Arg} {ds:List D} {ps:PSt} {j:Nat},j∉slots as->(gW ps as ds)[j]? =ps[j]?
 |[],_,_,_,_=>by simp [gW]
 | .io _::_,[],_,_,_=>by simp [gW]
 | .im _::_,[],_,_,_=>by simp [gW]
 | .io k::as,d::ds,ps,j,h=>by
  rw [gW,mF (as:=as) (fun z=>h (Z1 _ z)),Zq (fun z=>h (by rw [<-z];exact Z0))]
 | .im _::as,d::ds,ps,j,h=>by rw [gW];exact mF (as:=as) h
theorem vV:∀{as:List Arg} {ds:List D} {ps:PSt} {i j:Nat} {d:D},(slots as).Nodup->as[i]? =some (.io j)->ds[i]? =some d->j<ps.length->(gW ps as ds)[j]? =some (some d)
 |[],_,_,_,_,_,_,h,_,_=>by simp at h
 |_::_,[],_,_,_,_,_,_,h,_=>by simp at h
 | .io k::as,d1::ds,ps,0,j,d,nd,h1,h2,h3=>by
  simp at h1 h2;subst h1;subst h2
  rw [gW,mF (Zo.mp nd).1,Zv h3]
 | .im _::as,d1::ds,ps,0,j,d,_,h1,_,_=>by simp at h1
 | .io k::as,d1::ds,ps,i+1,j,d,nd,h1,h2,h3=>by
  rw [gW];exact vV (Zo.mp nd).2 (by simpa using h1) (by simpa using h2) (by simpa using h3)
 | .im _::as,d1::ds,ps,i+1,j,d,nd,h1,h2,h3=>by
  rw [gW];exact vV (as:=as) nd (by simpa using h1) (by simpa using h2) h3
def nF(as:List Arg)(F:Nat->List Addr):Nat->List Addr:=fun i=>match as[i]? with
 |some (.io j)=>F j
 |_=>[]
theorem zt1(e:as[i]? =some (.io j)):nF as F i=F j:=by unfold nF;rw [e]
theorem zk4(h:b∈nF as F i):∃j,as[i]? =some (.io j)/\b∈F j:=by
 unfold nF at h
 cases q:as[i]? with
 |none=>rw [q] at h;exact absurd h (by simp)
 |some x=>
  cases x with
  |io j=>rw [q] at h;exact⟨j,rfl,h⟩
  |im _=>rw [q] at h;exact absurd h (by simp)
theorem zP(e:kW as i=false):nF as F i=[]:=by
 unfold nF
 cases q:as[i]? with
 |none=>rfl
 |some x=>cases x with
  |io j=>rw [nA q] at e;cases e
  |im _=>rfl
theorem yo7{φ:Fx}{H:Hp}{σ:St}{ps:PSt}{F:Nat->List Addr}{as:List Arg}{vs:List V}{ds:List D}(R:RS φ H σ ps F)(nd:(slots as).Nodup)(hb:∀j∈slots as,φ.bor j=false)(a:ArgsAt φ.K φ.U H σ ps as vs ds):
  RS (fxE φ.K φ.U as.length (kW as)) H (vs.map some) (ds.map some) (nF as F):=by
 obtain⟨lv,ld⟩:=a.len
 have memF:∀i b,b∈nF as F i->∃j,as[i]? =some (Arg.io j)/\b∈F j:=fun i b h=>zk4 h
 refine⟨fun i d h=> ?_,fun i b h=> ?_,fun i k b h1 h2=> ?_,fun i=> ?_,fun i b h k z=>z.elim,fun k b z=>z.elim,by simp [lv,ld]⟩
 ·rw [Zi] at h
  cases q:ds[i]? with
  |none=>rw [q] at h;cases h
  | some d1=>
   rw [q] at h;cases h
   obtain⟨v,h1,h2⟩:=a.get q
   have hi:=(Z6.mp q).1
   refine⟨v,nF as F i,by rw [Zi,h1];rfl,?_,fun _=>rfl,fun z=> ?_⟩
   ·rcases h2 with ⟨j,e1,e2,e3,e4⟩|⟨e1,r⟩
    ·obtain⟨v',fp,k1,k2,k3,_⟩:=R.rep j d e4
     rw [e3] at k1;cases k1
     rw [zt1 e1]
     have:=k3 (hb j (hJ e1))
     subst this
     exact k2
    ·rw [zP e1];exact r
   ·rcases h2 with ⟨j,e1,e2,_⟩|⟨e1,r⟩
    ·simp [fxE,e2] at z
    ·rw [zP e1];intro b hb;exact absurd hb (by simp)
 ·obtain⟨j,e,hj⟩:=memF i b h
  have hi:i<ds.length:=by rw [ld];exact(Z6.mp e).1
  exact⟨by simp [fxE,nA e],ds[i],by rw [Zi,Zp hi];rfl⟩
 ·obtain⟨j1,e1,m1⟩:=memF i b h1
  obtain⟨j2,e2,m2⟩:=memF k b h2
  have:=R.dis j1 j2 b m1 m2
  subst this
  exact uK nd e1 e2
 ·cases z:kW as i with
  |true=>obtain⟨j,e⟩:=zO z;rw [zt1 e];exact R.nd j
  |false=>rw [zP z];exact Zf
def qZ(as:List Arg)(F Fc:Nat->List Addr):Nat->List Addr:=fun j=>match eT as j with
 |some i=>Fc i
 |none=>F j
theorem yg9(h:b∈qZ as F Fc j):(∃i,eT as j=some i/\b∈Fc i)\/(eT as j=none/\b∈F j):=by
 unfold qZ at h
 cases q:eT as j with
 |none=>rw [q] at h;exact .inr ⟨rfl,h⟩
 |some i=>rw [q] at h;exact .inl ⟨i,rfl,h⟩
theorem xT(e:eT as j=some i):qZ as F Fc j=Fc i:=by unfold qZ;rw [e]
theorem xU(e:eT as j=none):qZ as F Fc j=F j:=by unfold qZ;rw [e]
theorem yz3{φ:Fx}{H H1 H':Hp}{σ:St}{ps:PSt}{F Fc':Nat->List Addr}{as:List Arg}{vs:List V}{ds ds':List D}{fv:List Addr}(R:RS φ H σ ps F)(s1:SameK H H1)(nd:(slots as).Nodup)(hb:∀j∈slots as,φ.bor j=false)(a:ArgsAt φ.K φ.U H1 σ ps as vs ds)(hl:ds'.length=as.length)
  (s:Stp (fxE φ.K φ.U as.length (kW as)) (vs.map some) H1 (nF as F) (vs.map some) H' (ds'.map some) Fc') (o:OwnV (nF as F) H1 Fc' fv):
  ∃F',Stp φ σ H F σ H' (gW ps as ds') F'/\OwnV F H F' fv:=by
 have memF:∀i b,b∈nF as F i->∃j,as[i]? =some (Arg.io j)/\b∈F j:=fun i b h=>zk4 h
 have nwA:∀b,((∃i,b∈nF as F i)\/H1 b=none)->(∃j∈slots as,b∈F j)\/H b=none:=fun b h=>by
  rcases h with ⟨i,h⟩|h
  ·obtain⟨j,e,m⟩:=memF i b h
   exact .inl ⟨j,hJ e,m⟩
  ·exact .inr (s1.grow b h)
 have isDisj:∀b,((∃i,b∈Fc' i)\/b∈fv)->∀j,j∉slots as->b∉F j:=fun b h j hj hm=>by
  have h':(∃j∈slots as,b∈F j)\/H b=none:=by
   rcases h with ⟨i,h⟩|h
   ·exact nwA b (s.nw i b h)
   ·exact nwA b (o.nw b h)
  rcases h' with ⟨k,hk,hm2⟩|z
  ·exact hj (R.dis j k b hm hm2▸hk)
  ·obtain⟨u,q,_⟩:=R.own hm;rw [z] at q;cases q
 have keepN:∀b u,H b=some u->kd u=true->(∀j∈slots as,b∉F j)->H' b=some u:=fun b u h k n=>s.fr.keep b u (s1.keep b u h k) k fun i hi=>by
  obtain⟨j,e,m⟩:=memF i b hi
  exact n j (hJ e) m
 have tfk:∀b u,H b=some u->tf u=true->H' b=some u:=fun b u h t=>keepN b u h (lI t) fun j _ hm=>by
  obtain⟨u',h',_,t'⟩:=R.own hm
  rw [h] at h';cases h';rw [t] at t';cases t'
 have posmem:∀j b,b∈qZ as F Fc' j->(∃i,eT as j=some i/\b∈Fc' i)\/(eT as j=none/\b∈F j):=fun j b h=>yg9 h
 refine⟨qZ as F Fc',⟨⟨fun b u h k n=>keepN b u h k fun j _=>n j,fun b h=>s1.grow b (s.fr.grow b h)⟩,fun j b h=> ?_,⟨fun j d h=> ?_,fun j b h=> ?_,fun j k b h1 h2=> ?_,fun j=> ?_,fun j b h=> ?_,fun kk b hB z=>R.bt kk b hB (s1.grow b (s.fr.grow b z)),by rw [sQ];exact R.len⟩,fun _ _=>rfl⟩,⟨fun b hb'=> ?_,o.nd,fun j b h hv=> ?_⟩⟩
 ·rcases posmem j b h with ⟨i,e,m⟩|⟨e,m⟩
  ·exact(nwA b (s.nw i b m)).elim (fun⟨k,_,hk⟩=> .inl ⟨k,hk⟩) .inr
  ·exact .inl ⟨j,m⟩
 ·cases q:eT as j with
  | some i=>
   have e:=kM q
   have hi:i<ds'.length:=by rw [hl];exact(Z6.mp e).1
   have ei:ds'[i]? =some ds'[i]:=Zp hi
   have hj:j<ps.length:=by
    have:=(Z6.mp h).1
    rwa [sQ] at this
   rw [vV nd e ei hj] at h
   cases h
   obtain⟨v,fp,k1,k2,k3,_⟩:=s.rs.rep i ds'[i] (by rw [Zi,ei];rfl)
   have hbi:(fxE φ.K φ.U as.length (kW as)).bor i=false:=by simp [fxE,nA e]
   have k3:=k3 hbi
   subst k3
   have hvi:i<vs.length:=by rw [a.len.1];exact(Z6.mp e).1
   have hdi:i<ds.length:=by rw [a.len.2];exact(Z6.mp e).1
   obtain⟨v',g1,g2⟩:=a.get (Zp hdi)
   rw [Zi,g1] at k1
   cases k1
   rcases g2 with ⟨j',e1,_,e3,_⟩|⟨e1,_⟩
   ·rw [e] at e1;cases e1
    exact⟨v,Fc' i,e3,k2,(fun _=>(xT q).symm),(fun z=>by rw [hb j (hJ e)] at z;cases z)⟩
   ·rw [nA e] at e1;cases e1
  |none=>
   have hn:=iX q
   rw [mF hn] at h
   obtain⟨v,fp,k1,k2,k3,k4⟩:=R.rep j d h
   refine⟨v,fp,k1,k2.move tfk fun b hb'=> ?_,(fun z=>by rw [xU q];exact k3 z),k4⟩
   obtain⟨u,q1,q2,_⟩:=k2.own b hb'
   rw [q1]
   refine keepN b u q1 q2 fun k hk hm=> ?_
   cases z:φ.bor j with
   |true=>exact R.nb k b hm j (k4 z b hb')
   |false=>rw [k3 z] at hb';exact hn (R.dis j k b hb' hm▸hk)
 ·rcases posmem j b h with ⟨i,e,m⟩|⟨e,m⟩
  ·have e':=kM e
   refine⟨hb j (hJ e'),?_⟩
   have hi:i<ds'.length:=by rw [hl];exact(Z6.mp e').1
   have hdi:i<ds.length:=by rw [a.len.2];exact(Z6.mp e').1
   obtain⟨v',g1,g2⟩:=a.get (Zp hdi)
   rcases g2 with ⟨j',e1,_,_,e4⟩|⟨e1,_⟩
   ·rw [e'] at e1;cases e1
    exact⟨_,vV nd e' (Zp hi) (Z6.mp e4).1⟩
   ·rw [nA e'] at e1;cases e1
  ·obtain⟨b1,d,b2⟩:=R.emp j b m
   exact⟨b1,d,by rw [mF (iX e)];exact b2⟩
 ·rcases posmem j b h1 with ⟨i,e,m⟩|⟨e,m⟩
  ·rcases posmem k b h2 with ⟨i',e',m'⟩|⟨e',m'⟩
   ·have:=s.rs.dis i i' b m m'
    subst this
    have q1:=kM e
    have q2:=kM e'
    rw [q1] at q2
    cases q2;rfl
   ·exact absurd m' (isDisj b (.inl ⟨i,m⟩) k (iX e'))
  ·rcases posmem k b h2 with ⟨i',e',m'⟩|⟨e',m'⟩
   ·exact absurd m (isDisj b (.inl ⟨i',m'⟩) j (iX e))
   ·exact R.dis j k b m m'
 ·cases q:eT as j with
  |some i=>rw [xT q];exact s.rs.nd i
  |none=>rw [xU q];exact R.nd j
 ·rcases posmem j b h with ⟨i,e,m⟩|⟨e,m⟩
  ·exact R.notB ((nwA b (s.nw i b m)).elim (fun⟨k,_,hk⟩=> .inl ⟨k,hk⟩) .inr)
  ·exact R.nb j b m
 ·exact(nwA b (o.nw b hb')).elim (fun⟨k,_,hk⟩=> .inl ⟨k,hk⟩) .inr
 ·rcases posmem j b h with ⟨i,e,m⟩|⟨e,m⟩
  ·exact o.dis i b m hv
  ·exact isDisj b (.inr hv) j (iX e) m
def tIO(K:tz0)(U:tz9)(as:List Arg):TA:=fun σ H Q=>∃ps ds,WS K U H σ ps/\cO as ps=some ds/\∀vs H',SameK H H'->ArgsAt K U H' σ ps as vs ds->Q vs H'
def fIO(as:List Arg)(g:tz7):tz8:=fun ps=>(cO as ps).bind fun ds=>(g ds).bind fun r=>if r.2.length=as.length then some (r.1,gW ps as r.2) else none
section
variable{X:Cx}{φ:F0}{U:tz9}{e:Expr}{es:List Expr}{as:List Arg}{f:tz2}{pos p:Pos}
theorem dM:PA X [] (tIO X.K U []):=lY.imp fun σ H Q ⟨ps,ds,w,e,q⟩=>by cases e;exact q [] H (.refl H) .nil
theorem lA(j:Nat){x:Str}(hr:PA X es (tIO X.K U as))(hN:X.N[j]? =some x:=by rfl)(hv:Vis X.env.scope x:=by first|exact Or.inl rfl|exact Or.inr (Or.inl rfl)|exact Or.inr (Or.inr rfl))(hd:NDb x:=by decide)
  (hcd:(x==("__classdict__":Str))=false:=by decide) (hs:starEach (.Name x pos::es) X.env=(false,eval (.Name x pos) X.env)::starEach es X.env:=by rfl):PA X (.Name x pos::es) (tIO X.K U (.io j::as)):=
 (fH (rO hN hv hd hcd) hr hs).imp fun σ H Q hh_=>by
  obtain⟨ps,ds,w,e,q⟩:=hh_
  obtain⟨d,e1,e2⟩:=bind_some e
  obtain⟨ds',e3,e4⟩:=bind_some e2
  cases e4
  have e0:=join_some e1
  obtain⟨v,fp,h1,h2⟩:=w j d e0
  exact⟨v,h1,ps,ds',w,e3,fun vs H1 s1 a1=>q (v::vs) H1 s1 (.io h1 e0 a1)⟩
theorem bP(ha:QV X U e f)(hr:PA X es (tIO X.K U as))(hs:StE e es X:=by rfl):PA X (e::es) (tIO X.K U (.im f::as)):=
 (fH ha.p hr hs).imp fun σ H Q hh_=>by
  obtain⟨ps,ds,w,e,q⟩:=hh_
  obtain⟨d,e1,e2⟩:=bind_some e
  obtain⟨ds',e3,e4⟩:=bind_some e2
  cases e4
  refine⟨ps,d,w,e1,fun v H1 fv s1 n1 nd1 r1=>⟨ps,ds',w.same s1,e3,fun vs H2 s2 a2=>q (v::vs) H2 (s1.trans s2) (.im ?_ a2)⟩⟩
  unfold aR at e1
  obtain⟨d1,k1,k2⟩:=bind_some e1
  obtain⟨k3,k4⟩:=bL k2
  cases k4
  have:=r1.imm k3
  subst this
  exact r1.same s2
theorem nI{x:Str}{st:Stmt}{ps:List Str}{fa:Addr}{fd:FuncData}{k np:Nat}{m:Nat->Bool}{g:tz7}(Dd:Dn X.K X.mg x st ps fa fd)(G:FnOk X.prog X.w X.K X.mg X.base CX0 k fa fd ps (SpE np X.K U m g))(hr:Room k X.A)(hg:Gl X x)(ha:PA X (e::es) (tIO X.K U as))
  (hnp:np=as.length) (hm:m=kW as) (nd:(slots as).Nodup) (hb:∀j∈slots as,φ.bor j=false)
  (hdb:NDb x:=by decide) (he:StE e es X:=by rfl) (hpl:BkE pos es X:=by rfl):
  QE X U φ (.Call (.Name x p) (e::es) [] pos) (fIO as g):=(zx4 Dd G hr hg ha hdb he hpl).imp fun σ H Q hh_=>by
 obtain⟨ps,F,d,ps',R,e,q⟩:=hh_
 obtain⟨ds,e1,e2⟩:=bind_some e
 obtain⟨⟨r,ds'⟩,e3,e4⟩:=bind_some e2
 obtain⟨hl,e5⟩:=bL e4
 cases e5
 subst hnp hm
 refine⟨ps,ds,R.ws,e1,fun vs H1 s1 a1=> ?_⟩
 show SpE _ X.K U _ g (vs++[]) H1 Q E0
 rw [Zh]
 refine⟨a1.len.1,ds,r,ds',_,a1.len.2,yo7 (R.same s1) nd hb a1,e3,fun v H' F' fv s o rv=> ?_⟩
 obtain⟨F2,s2,o2⟩:=yz3 R s1 nd hb a1 hl s o
 exact q v H' F2 fv s2 o2 rv
end
inductive AreD:List Expr->List D->Prop
 |nil:AreD [] []
 |int {i:Int} {j:Nat} {pos:Pos} {es:List Expr} {ds:List D}:AreD es ds->AreD (.Constant (.int i) j pos::es) (.int i::ds)
 |str {x:Str} {j:Nat} {pos:Pos} {es:List Expr} {ds:List D}:AreD es ds->AreD (.Constant (.str x) j pos::es) (.str x::ds)
def fKs(ds:List D):tz3:=fun _=>some ds
theorem kN(h:AreD es ds):QPA X U es (fKs ds):=by
 have key:∃vs,AreC es vs/\∀K U H,Reps K U H vs ds []:=by
  induction h with
  |nil=>exact⟨[],.nil,fun _ _ _=> .nil⟩
  |int _ ih=>obtain⟨vs,h1,h2⟩:=ih;exact⟨_,.int h1,fun K U H=> .cons (f:=[]) (g:=[]) (.int _) (h2 K U H)⟩
  |str _ ih=>obtain⟨vs,h1,h2⟩:=ih;exact⟨_,.str h1,fun K U H=> .cons (f:=[]) (g:=[]) (.str _) (h2 K U H)⟩
 obtain⟨vs,h1,h2⟩:=key
 exact(yf8 h1).imp fun σ H Q ⟨ps,ds',w,e,q⟩=>by cases e;exact q vs H [] (.refl H) (fun _ h=>absurd h (by simp)) Zf (h2 _ _ _)
def bX(l:List Bool):Nat->Bool:=fun i=>(l[i]?).getD false
def yl9(as:List Arg):List Bool:=as.map fun a=>match a with
 | .io _=>true
 | .im _=>false
theorem fN:∀{as:List Arg} {l:List Bool},yl9 as=l->bX l=kW as:=by
 intro as l h
 subst h
 funext i
 induction as generalizing i with
 |nil=>cases i<;>rfl
 | cons a as ih=>
  cases i with
  |zero=>cases a<;>rfl
  |succ i=>
   have e:kW (a::as) (i+1)=kW as i:=by cases a<;>rfl
   rw [e,<-ih i]
   simp [bX,yl9]
theorem iY(h:bX l i=true):i<l.length:=by
 unfold bX at h
 cases q:l[i]? with
 |none=>rw [q] at h;cases h
 |some b=>exact(Z6.mp q).1
section
variable{P:Program}{w:World}{K:tz0}{mg:tzA}{base:Heap}{U:tz9}
theorem FnOk.noneP:FnOk P w K mg base CX0 k f fd ps (SpP ps.length K U fun _=>none):=
 ⟨fun vs H Q E h=>h.1,fun A outer s H args us vs Q E _ _ _ _ ⟨_,ds,fp,d,_,e,_⟩=>by cases e⟩
theorem FnOk.noneE:FnOk P w K mg base CX0 k f fd ps (SpE ps.length K U m fun _=>none):=
 ⟨fun vs H Q E h=>h.1,fun A outer s H args us vs Q E _ _ _ _ ⟨_,ds,r,ds',F,_,_,e,_⟩=>by cases e⟩
end
section
variable{X:Cx}{U:tz9}{a b c:Expr}{fa fb fc:tz2}{g g':D->D->Option D}{pos:Pos}
theorem yo8(h:tP X.K U (f3 g g' fa fb fc) σ H Q):yl8 (POp X.K U g) (POp X.K U g') (tV X.K U fa) (tV X.K U fb) (tV X.K U fc) σ H Q:=by
 obtain⟨ps,d,w,e,q⟩:=h
 obtain⟨x,e1,e2⟩:=bind_some e
 obtain⟨y,e3,e4⟩:=bind_some e2
 obtain⟨k,e5,e6⟩:=bind_some e4
 obtain⟨t,rfl,e7⟩:=zf8 (x:=(fc ps).bind fun z=>g' y z) (y:=some (D.bl false)) e6
 refine⟨ps,x,w,e1,fun v H1 f1 s1 r1=>⟨ps,y,w.same s1,e3,fun u H2 f2 s2 r2=>⟨x,y,_,f1,f2,r1.same s2,r2,e5,fun z H3 fz s3 n3 nd3 r3=>⟨t,r3.is_bl,?_⟩⟩⟩⟩
 have s13:=(s1.trans s2).trans s3
 cases t with
 |true=>
  rw [if_pos rfl] at e7|-
  obtain⟨zz,e8,e9⟩:=bind_some e7
  exact⟨ps,zz,w.same s13,e8,fun u' H4 f4 s4 r4=>⟨y,zz,d,f2,f4,(r2.same s3).same s4,r4,e9,q.after (s13.trans s4)⟩⟩
 |false=>
  rw [if_neg Z5] at e7|-
  cases e7
  exact(q.after s13).now (.bl false)
theorem zk5(ho:OpR X (compareOp op) (POp X.K U g))(ho':OpR X (compareOp op') (POp X.K U g'))(ha:QV X U a fa)(hb:QV X U b fb)(hc:QV X U c fc)(hm:lastMarks [op,op'] [b,c]=false:=by with_unfolding_all rfl):QT X U (.Compare a [op,op'] [b,c] pos) (fB (f3 g g' fa fb fc)):=
 (ym7 ho ho' ha hb hc hm).imp fun σ H Q ⟨ps,k,w,e,q⟩=>yo8 (Q:=fun x H'=>∃k,x= .bl k/\Q k H') ⟨ps,_,w,zK e,fun v H' fv s _ _ r=>⟨k,r.is_bl,q H' s⟩⟩
end
theorem yz4(h:tK k u=true):cC (kV k) u:=by
 rcases eW h with ⟨i,t,rfl,rfl⟩|⟨x,t,rfl,rfl⟩
 ·exact⟨t,rfl⟩
 ·exact⟨t,rfl⟩
def zp2:Key->D
 | .inl i=> .int i
 | .inr x=> .str x
theorem zk6{K:tz0}{U:tz9}{H:Hp}(k:Key):Rep K U H (kV k) (zp2 k) []:=by
 cases k with
 |inl i=>exact .int i
 |inr x=>exact .str x
theorem xV:∀ys:List (Str×Tok),bN (ys.map fun p=>V.str p.1) (ys.map fun p=>Value.str p.1 p.2)
 |[]=> .nil
 |y::ys=> .cons ⟨y.2,rfl⟩ (xV ys)
theorem zc4{K:tz0}{U:tz9}{H:Hp}:∀ys:List (Str×Tok),Reps K U H (ys.map fun p=>V.str p.1) (ys.map fun p=>D.str p.1) []
 |[]=> .nil
 |y::ys=> .cons (f:=[]) (g:=[]) (.str _) (zc4 ys)
theorem yo9{K:tz0}{U:tz9}{a:Addr}{ys:List (Str×Tok)}{od:Option Addr}{n:Nat}{sl:Array (Option Value)}(h:K.lookup a=some ⟨.type "tuple",od,.seq (ys.map fun p=>Value.str p.1 p.2).toArray n,sl⟩)(hl:ys.length<=1000)(H:Hp):
  Rep K U H (.ref a) (.tup (ys.map fun p=>D.str p.1)) []:=
 .tup (.inr ⟨_,_,n,h,rfl,rfl,by rw [Zm,Zd];exact xQ hl,xV ys⟩) (zc4 ys)
section
variable{X:Cx}{pins:tzB}{σ:St}{H:Hp}{s:Shared}{a C dx:Addr}{fs:List (Str×V)}{f:Str}{v:V}{A:Around}{E:Value->Shared->Prop}
theorem yh0(hok:HOk P w H h)(e:Rd H a (.ins C dx fs)):∃mA,ObjM h a dx C mA/\(∀f,jB (fs.lookup f) (mA f)):=by
 obtain⟨d,z,ne,ob,mA,n,r,q⟩:=(show dA P w H h a (.ins C dx fs) from e.ok hok)
 exact⟨mA,⟨ob,n,ne⟩,r⟩
theorem zy1(I:Inv X pins σ H s)(e:Rd H a (.ins C dx fs))(c:Cls X.K C)(n:cY X.K C f)(l:fs.lookup f=some v)
  (h:∀u s',Inv X pins σ H s'->cC v u->Q u s'):wpAny (model X.prog X.w) A (getAttr (.ref a) f b) Q E s:=by
 obtain⟨mA,O,r⟩:=yh0 I.hok e
 obtain⟨u,hu,ru⟩:=jB.some_of (v:=v) (o:=mA f) (by rw [<-l];exact r f)
 exact zs2 I.kIn O (c.get f) c.hd n hu (za9 ru) (h u _ (I.tok _) ru)
theorem zy2(I:Inv X pins σ H s)(e:Rd H a (.ins C dx fs))(c:Cls X.K C)(k:Meth X.K C m g)(l:fs.lookup m=none)
  (h:Q (.ref g,[.ref a]) s):wpAny (model X.prog X.w) A (getMethod (.ref a) m pl) Q E s:=by
 obtain⟨mA,O,r⟩:=yh0 I.hok e
 have hn:mA m=none:=jB.none_of (by rw [<-l];exact r m)
 exact zi8 I.kIn O (c.get m) k.at_ k.fn hn h
end
def xq0(K:tz0)(ta:TE)(f:Str):TE:=fun σ H Q=>ta σ H fun x H1=>∃a C dx fs v,x= .ref a/\Rd H1 a (.ins C dx fs)/\Cls K C/\cY K C f/\fs.lookup f=some v/\Q v H1
theorem yz5(he:PE X e ta)(hb:attributeBase e f X.env (eval e X.env)=eval e X.env):PE X (.Attribute e f pos) (xq0 X.K ta f):=⟨by
 intro pins s σ H Q I h
 refine zs3 hb (thn (he pins s σ H _ I h) fun u s1 ⟨x,H1,I1,rx,a,C,dx,fs,v,ex,ea,c,n,l,q⟩=> ?_)
 subst ex
 obtain rfl:u=Value.ref a:=rx
 exact zy1 I1 ea c n l fun w' s2 I2 rw'=>⟨v,H1,I2,rw',q⟩⟩
def zp3(C f:Str):D->Option D
 | .obj _ C' ns vs=>if C'=C then(cQ ns f).bind fun n=>vs[n]? else none
 |_=>none
def cX(C f:Str)(fo:tz2):tz2:=fun ps=>(fo ps).bind (zp3 C f)
theorem Rep.obj_inv{K:tz0}{U:tz9}{H:Hp}{v:V}{o:Bool}{C:Str}{ns:List Str}{ds:List D}{fp:List Addr}(r:Rep K U H v (.obj o C ns ds) fp):∃a dx fs g,v= .ref a/\Rd H a (.ins (U C) dx fs)/\fs.map (·.1)=ns/\Reps K U H (fs.map (·.2)) ds g/\g.Sublist fp:=by
 cases r with
 |obj h e hs=>exact⟨_,_,_,_,rfl,.inl h,e,hs,Yn _ _⟩
 |objF h e hs=>exact⟨_,_,_,_,rfl,.inr ⟨_,h⟩,e,hs,.refl _⟩
section
variable{X:Cx}{U:tz9}{o e:Expr}{C fn:Str}{fo:tz2}{pos:Pos}
theorem dY(hc:Cls X.K (U C))(hna:cY X.K (U C) fn)(ho:QV X U o fo)(hb:attributeBase o fn X.env (eval o X.env)=eval o X.env:=by rfl):QV X U (.Attribute o fn pos) (cX C fn fo):=
 (yz5 ho hb).imp fun σ H Q hh_=>by
  obtain⟨ps,d,w,e,q⟩:=hh_
  obtain⟨x,e1,e2⟩:=bind_some e
  refine⟨ps,x,w,e1,fun v H1 fp s1 r1=> ?_⟩
  cases x with
  |obj ow C' ns ds=>
   have e2':(if C'=C then(cQ ns fn).bind fun n=>ds[n]? else none)=some d:=e2
   by_cases hC:C'=C
   case neg=>rw [if_neg hC] at e2';cases e2'
   rw [if_pos hC] at e2'
   subst hC
   obtain⟨n,e4,e5⟩:=bind_some e2'
   obtain⟨a,dx,fs,g,rfl,h,hk,hs,sub⟩:=r1.obj_inv
   subst hk
   obtain⟨u,f1,k3,k4,_⟩:=hs.get e5
   exact⟨a,U C',dx,fs,u,rfl,h,hc,hna,pV e4 k3,q u H1 f1 s1 k4⟩
  |_=>cases e2
end
theorem zt2:∀{fs:List (Str×V)} {f:Str} {n:Nat} (v:V),cQ (fs.map (·.1)) f=some n->(fQ f v fs).map (·.1)=fs.map (·.1)/\(fQ f v fs).map (·.2)=(fs.map (·.2)).set n v
 |[],_,_,_,h=>by cases h
 | (g,x)::r,f,n,v,h=>by
  rw [Za,cQ] at h
  by_cases z:g=f
  ·have z':(g,x).1=f:=z
   rw [if_pos z'] at h;cases h
   rw [fQ,if_pos z];exact⟨rfl,rfl⟩
  ·have z':¬(g,x).1=f:=z
   rw [if_neg z'] at h
   obtain⟨m,h1,h2⟩:=Zj.mp h
   subst h2
   obtain⟨k1,k2⟩:=zt2 v h1
   rw [fQ,if_neg z]
   exact⟨by rw [Za,Za,k1],by rw [Za,Za,List.set_cons_succ,k2]⟩
theorem zk7:∀{fs:List (Str×V)} {f:Str} (v:V),cQ (fs.map (·.1)) f=none->(fQ f v fs).map (·.1)=fs.map (·.1)++[f]/\(fQ f v fs).map (·.2)=fs.map (·.2)++[v]
 |[],_,_,_=>⟨rfl,rfl⟩
 | (g,x)::r,f,v,h=>by
  rw [Za,cQ] at h
  by_cases z:g=f
  ·have z':(g,x).1=f:=z
   rw [if_pos z'] at h;cases h
  ·have z':¬(g,x).1=f:=z
   rw [if_neg z'] at h
   obtain⟨k1,k2⟩:=zk7 v (XC.mp h)
   rw [fQ,if_neg z]
   exact⟨by rw [Za,Za,k1];rfl,by rw [Za,Za,k2];rfl⟩
def sH(C f:Str)(y:D):D->Option (Unit×D)
 | .obj true C' ns vs=>if (C'=C/\ns.length<900) then(match cQ ns f with
   |some n=>some ((),.obj true C' ns (vs.set n y))
   |none=>some ((),.obj true C' (ns++[f]) (vs++[y]))) else none
 |_=>none
theorem zk8(h:sH C f y d=some (r,d')):∃ns vs,d= .obj true C ns vs/\ns.length<900/\((∃n,cQ ns f=some n/\d'= .obj true C ns (vs.set n y))\/(cQ ns f=none/\d'= .obj true C (ns++[f]) (vs++[y]))):=by
 unfold sH at h
 split at h
 ·rename_i C' ns vs
  by_cases hh:C'=C/\ns.length<900
  ·rw [if_pos hh] at h
   obtain⟨hC,hl⟩:=hh
   subst hC
   cases q:cQ ns f with
   |some n=>rw [q] at h;cases h;exact⟨ns,vs,rfl,hl,.inl ⟨n,q,rfl⟩⟩
   |none=>rw [q] at h;cases h;exact⟨ns,vs,rfl,hl,.inr ⟨q,rfl⟩⟩
  ·rw [if_neg hh] at h;cases h
 ·cases h
def lV(j:Nat)(pf:PSt->Option (List Ps1))(C f:Str)(fe:tz2):tz1:=fun ps=>(fe ps).bind fun y=>((ps[j]?).join).bind fun d0=>(pf ps).bind fun p=>(fF (sH C f y) d0 p).bind fun r=>some (.nx,ps.set j (some r.2))
theorem zk9:∀{ns:List Str} {f:Str} {n:Nat},cQ ns f=some n->n<ns.length
 |[],_,_,h=>by cases h
 | m::ns,f,n,h=>by
  rw [cQ] at h
  by_cases z:m=f
  ·rw [if_pos z] at h;cases h;simp
  ·rw [if_neg z] at h
   obtain⟨k,h1,h2⟩:=Zj.mp h
   subst h2
   have:=zk9 h1
   simp;omega
section
variable{X:Cx}{U:tz9}{φ:F0}{o e:Expr}{C fn:Str}{j:Nat}{pf:PSt->Option (List Ps1)}{fe:tz2}{pos pos':Pos}
theorem nR(hc:Cls X.K (U C))(hna:cY X.K (U C) fn)(hb:φ.bor j=false)(he:PE X e (tP X.K U fe))(ho:PE X o (mQ X.K U j pf))(hs:swapsWith e (some (.Attribute o fn pos')) pos.line X.env=pure false:=by rfl):
  QS X U φ (.Assign [.Attribute o fn pos'] e pos) (lV j pf C fn fe):=
 (xf8 ho he hs).imp fun E σ H hh_=>by
  obtain⟨ps,F,fl,ps',R,e,q⟩:=hh_
  obtain⟨y,e1,e2⟩:=bind_some e
  obtain⟨d0,e3,e4⟩:=bind_some e2
  have e0:=join_some e3
  obtain⟨p,e5,e6⟩:=bind_some e4
  obtain⟨⟨r,d0'⟩,em,e9⟩:=bind_some e6
  cases e9
  obtain⟨dd,dn,gp,hh⟩:=lK em
  refine⟨ps,y,R.ws,e1,fun v H1 fy s1 n1 nd1 ry=>⟨ps,p,d0,dd,R.ws.same s1,e0,e5,gp,fun lv H2 v0 s2 ev a2=> ?_⟩⟩
  have s12:=s1.trans s2
  obtain⟨d1,d1',fd,m1,m2,m3,m4,m5⟩:=rS R s12 hb e0 ev em a2
  obtain⟨ns,vs,rfl,hlen,hd⟩:=zk8 m2
  obtain⟨l,dx,fs,g1,rfl,hl,hn,hr,rfl⟩:=m1.objT_inv
  subst hn
  have ry2:=ry.same s2
  obtain⟨nl,nd3⟩:=Zo.mp m3
  have own0:∀a∈l::g1,H a≠none:=fun a ha z=>by obtain⟨o,h,_⟩:=R.own (m4 a ha);rw [z] at h;cases h
  have nl2:l∉fy:=fun z=>own0 l Z0 (n1 l z)
  have hl9:fs.length<900:=by rw [Zd] at hlen;exact hlen
  refine⟨l,U C,dx,fs,rfl,hl,hc,hna,by omega,?_⟩
  have go:∀(g2:List Addr),(∀a∈g2,a∈fy\/a∈g1)->g2.Nodup->Rep X.K U (upd H2 l (.ins (U C) dx (fQ fn v fs))) (.ref l) d1' (l::g2)->∃F',Stp (φ.fx X.K U) σ H F σ (upd H2 l (.ins (U C) dx (fQ fn v fs))) (ps.set j (some d0')) F':=fun g2 mem2 nd2 rp=>by
   have n2:l∉g2:=fun z=>(mem2 l z).elim nl2 nl
   obtain⟨F',st,ow⟩:=m5 (upd H2 l (.ins (U C) dx (fQ fn v fs))) (l::g2) [] (fun a o h _ hn=>pW h hn) (fun a h=>fI h) rp
    (by rw [Zh,Zo];exact⟨n2,nd2⟩)
    (fun a ha=>by
     rw [Zh] at ha
     rcases Z8.mp ha with z|z
     ·exact .inl (by rw [z];exact Z0)
     ·exact(mem2 a z).elim (fun z=> .inr (n1 a z)) fun z=> .inl (Z1 _ z))
   exact⟨F',st⟩
  rcases hd with ⟨n,hx,rfl⟩|⟨hx,rfl⟩
  ·obtain⟨k1,k2⟩:=zt2 v hx
   have hn':=zk9 hx
   obtain⟨f1,rest,g2,p1,p2,p3⟩:=hr.setV (n:=n) (by rw [<-hr.length,Zd];rw [Zd] at hn';exact hn') ry2
   have mem2:∀a∈g2,a∈fy\/a∈g1:=fun a ha=>(ZB.mp (p3.mem_iff.mp ha)).elim .inl fun z=> .inr (p1.mem_iff.mpr (Zb _ z))
   have n2:l∉g2:=fun z=>(mem2 l z).elim nl2 nl
   have nd2:g2.Nodup:=p3.nodup_iff.mpr (Zy.mpr ⟨nd1,(Zy.mp (p1.nodup_iff.mp nd3)).2.1,fun a ha b hb e=>by
    subst e
    exact own0 a (Z1 _ (p1.mem_iff.mpr (Zb _ hb))) (n1 a ha)⟩)
   obtain⟨F',st⟩:=go g2 mem2 nd2 (.obj bO k1 (by rw [k2];exact p2.updL hl rfl n2))
   exact q _ _ F' st
  ·obtain⟨k1,k2⟩:=zk7 v hx
   have mem2:∀a∈g1++fy,a∈fy\/a∈g1:=fun a ha=>(ZB.mp ha).elim .inr .inl
   have n2:l∉g1++fy:=fun z=>(mem2 l z).elim nl2 nl
   have nd2:(g1++fy).Nodup:=Zy.mpr ⟨nd3,nd1,fun a ha b hb e=>by
    subst e
    exact own0 a (Z1 _ ha) (n1 a hb)⟩
   obtain⟨F',st⟩:=go (g1++fy) mem2 nd2 (.obj bO k1 (by rw [k2];exact(Reps.append hr (Reps.one ry2)).updL hl rfl n2))
   exact q _ _ F' st
end
structure Mn(K:tz0)(U:tz9)(C m qual:Str)(st:Stmt)(ps:List Str)(f:Addr)(fd:FuncData):Prop where
 F:Fun K m qual st f fd
 b:kP K fd ps []
 c:Cls K (U C)
 h:Meth K (U C) m f
theorem rJ:∀{fs:List (Str×V)} {m:Str},cQ (fs.map (·.1)) m=none->fs.lookup m=none
 |[],_,_=>rfl
 | (g,x)::r,m,h=>by
  rw [Za,cQ] at h
  by_cases z:g=m
  ·have z':(g,x).1=m:=z
   rw [if_pos z'] at h;cases h
  ·have z':¬(g,x).1=m:=z
   rw [if_neg z'] at h
   have ih:=rJ (XC.mp h)
   rw [Zx]
   have:(m==g)=false:=by
    rw [ZZ];exact fun e=>z e.symm
   rw [this];exact ih
def mR:Nat->Bool:=fun i=>decide (i=0)
def rA(fd:List Addr):Nat->List Addr:=fun i=>if i=0 then fd else []
theorem jU(h:a∈rA fd i):i=0/\a∈fd:=by
 unfold rA at h
 by_cases z:i=0
 ·rw [if_pos z] at h;exact⟨z,h⟩
 ·rw [if_neg z] at h;exact absurd h (by simp)
theorem xW{K:tz0}{U:tz9}{H:Hp}{v:V}{vs:List V}{d:D}{ds:List D}{fd:List Addr}(r:Rep K U H v d fd)(nd:fd.Nodup)(rs:Reps K U H vs ds []):
  RS (fxE K U (ds.length+1) mR) H ((v::vs).map some) ((d::ds).map some) (rA fd):=by
 refine⟨fun i x hx=> ?_,fun i a ha=> ?_,fun i j a h1 h2=> ?_,fun i=> ?_,fun i a _ k z=>z.elim,fun k a z=>z.elim,by simp [rs.length]⟩
 ·cases i with
  |zero=>
   simp at hx;subst hx
   exact⟨v,fd,rfl,r,fun _=>rfl,fun z=>by simp [fxE,mR] at z⟩
  | succ i=>
   rw [Za,Yk,Zi] at hx
   obtain⟨y,hy,e⟩:=Zj.mp hx
   cases e
   obtain⟨u,f1,k1,k2,k3⟩:=rs.get hy
   have ef:f1=[]:=by
    cases f1 with
    |nil=>rfl
    |cons b l=>exact absurd (k3 b Z0) (by simp)
   subst ef
   exact⟨u,[],by rw [Za,Yk,Zi,k1];rfl,k2,(fun _=>by simp [rA]),fun _ a ha=>absurd ha (by simp)⟩
 ·obtain⟨e,h⟩:=jU ha
  subst e
  exact⟨by simp [fxE,mR],d,rfl⟩
 ·rw [(jU h1).1,(jU h2).1]
 ·unfold rA;split
  ·exact nd
  ·exact Zf
def zg7:List Arg->Bool
 |[]=>true
 | .im _::as=>zg7 as
 | .io _::_=>false
theorem ArgsAt.reps{K:tz0}{U:tz9}{H:Hp}{σ:St}{ps:PSt}:∀{as:List Arg} {vs:List V} {ds:List D},ArgsAt K U H σ ps as vs ds->zg7 as=true->Reps K U H vs ds []
 |_,_,_,.nil,_=> .nil
 |_,_,_,.io _ _ _,h=>by cases h
 |_,_,_,.im r a,h=> .cons (f:=[]) (g:=[]) r (ArgsAt.reps a h)
def iB(C m:Str)(g:tz7)(ys:List D)(d:D):Option (D×D):=match d with
 | .obj true C' ns vs=>if (C'=C/\cQ ns m=none) then(g (.obj true C' ns vs::ys)).bind fun r=>match r.2 with
   |d'::ds=>if ds.length=ys.length then some (r.1,d') else none
   |[]=>none
  else none
 |_=>none
theorem xX(h:iB C m g ys d=some (r,d')):∃ns vs ds,d= .obj true C ns vs/\cQ ns m=none/\g (d::ys)=some (r,d'::ds)/\ds.length=ys.length:=by
 unfold iB at h
 split at h
 ·rename_i C' ns vs
  by_cases hc:C'=C/\cQ ns m=none
  ·rw [if_pos hc] at h
   obtain⟨hC,hn⟩:=hc
   subst hC
   obtain⟨⟨r1,ds⟩,e1,e2⟩:=bind_some h
   cases ds with
   |nil=>cases e2
   |cons d1 ds=>
    obtain⟨hl,e3⟩:=bL e2
    cases e3
    exact⟨ns,vs,ds,rfl,hn,e1,hl⟩
  ·rw [if_neg hc] at h;cases h
 ·cases h
section
variable{X:Cx}{U:tz9}{φ:F0}{o e:Expr}{es:List Expr}{C m qual:Str}{st:Stmt}{ps:List Str}{f:Addr}{fd:FuncData}{k np j:Nat}{mk:Nat->Bool}{g:tz7}{pf:PSt->Option (List Ps1)}{as:List Arg}{apos pos p:Pos}{pl:Sem Bool}
theorem yp0{σ:St}{H H1:Hp}{Q:VK}{ps:PSt}{F:Nat->List Addr}{d0 d0' r:D}{pp:List Ps1}{v0 v:V}{ys:List D}{us:List V}(R:RS (φ.fx X.K U) H σ ps F)(s1:SameK H H1)(hb:φ.bor j=false)(e0:ps[j]? =some (some d0))(ev:σ[j]? =some (some v0))
  (em:fF (iB C m g ys) d0 pp=some (r,d0')) (at_:At H1 v0 pp v) (ry:Reps X.K U H1 us ys []) (hnp:np=ys.length+1) (hm:mk=mR)
  (q:∀v H' F' fv,Stp (φ.fx X.K U) σ H F σ H' (ps.set j (some d0')) F'->OwnV F H F' fv->Rep X.K U H' v r fv->Q v H'):SpE np X.K U mk g (v::us) H1 Q E0:=by
 subst hnp hm
 obtain⟨d1,d1',fd,m1,m2,m3,m4,m5⟩:=rS R s1 hb e0 ev em at_
 obtain⟨ns,vs,ds,rfl,hn,eg,hl⟩:=xX m2
 refine⟨by rw [Z4,ry.length],_,r,d1'::ds,rA fd,by simp,xW m1 m3 ry,eg,fun u H' F' fv s o rv=> ?_⟩
 obtain⟨v2,fp2,k1,k2,k3,_⟩:=s.rs.rep 0 d1' rfl
 have ek:v2=v:=by
  have:(List.map some (v::us))[0]? =some (some v2):=k1
  simp at this;exact this.symm
 subst ek
 have k3':=k3 (by simp [fxE,mR])
 subst k3'
 have old:∀a,((∃i,a∈rA fd i)\/H1 a=none)->a∈fd\/H a=none:=fun a h=>h.elim (fun⟨i,hi⟩=> .inl (jU hi).2) fun z=> .inr (s1.grow a z)
 obtain⟨F2,st2,ow2⟩:=m5 H' (F' 0) fv (fun a o h k hn=>s.fr.keep a o h k fun i hi=>hn (jU hi).2) (fun a h=>s.fr.grow a h) k2
  (Zy.mpr ⟨s.rs.nd 0,o.nd,fun a ha b hb e=>by subst e;exact o.dis 0 a ha hb⟩)
  (fun a ha=>(ZB.mp ha).elim (fun z=>old a (s.nw 0 a z)) fun z=>old a (o.nw a z))
 exact q u H' F2 fv st2 ow2 rv
theorem yp1{σ:St}{H H1:Hp}{ps:PSt}{F:Nat->List Addr}{d0 d0' r:D}{pp:List Ps1}{v0 v:V}{ys:List D}(R:RS (φ.fx X.K U) H σ ps F)(s1:SameK H H1)(e0:ps[j]? =some (some d0))(ev:σ[j]? =some (some v0))
  (em:fF (iB C m g ys) d0 pp=some (r,d0')) (at_:At H1 v0 pp v):∃a dx fs,v= .ref a/\H1 a=some (.ins (U C) dx fs)/\fs.lookup m=none:=by
 obtain⟨dd,dn,gp,hh⟩:=lK em
 obtain⟨ns,vs,ds,rfl,hn,_⟩:=xX hh
 obtain⟨fd,rd⟩:=zN R.ws s1 e0 ev gp at_
 obtain⟨_,_,_,_,rfl,hl,hk,hs,rfl⟩:=rd.objT_inv
 subst hk;exact⟨_,_,_,rfl,hl,rJ hn⟩
theorem rV(M:Mn X.K U C m qual st ps f fd)(G:FnOk X.prog X.w X.K X.mg X.base CX0 k f fd ps (SpE np X.K U mk g))(hr:Room k X.A)(hb:φ.bor j=false)(ho:PE X o (mQ X.K U j pf))(ha:PA X (e::es) (tIO X.K U as))(has:zg7 as=true)(hnp:np=as.length+1)(hm:mk=mR)
  (hst:StE e es X:=by rfl) (hpl:BkE pos es X:=by rfl)
  (ht:eval (.Call (.Attribute o m apos) (e::es) [] pos) X.env=(do
   let ov<-eval o X.env
   standAt apos.atName
   let (f,first)<-holding [ov] (getMethod ov m pl)
   callWith pos f first (backTo pos (starEach (e::es) X.env)) (backToKw pos (keywordEach [] X.env))):=by rfl):
  QE X U φ (.Call (.Attribute o m apos) (e::es) [] pos) (dO j pf (cO as) (iB C m g)):=(yx5 ho M.c M.h G hr M.b .nil xO ha hst hpl ht).imp fun σ H Q hh_=>by
 obtain⟨ps,F,d,ps',R,e,q⟩:=hh_
 obtain⟨d0,pp,ys,d0',e0,ep,eg,em,rfl⟩:=uI e
 obtain⟨dd,dn,gp,hh⟩:=lK em
 refine⟨ps,pp,d0,dd,R.ws,e0,ep,gp,fun v H1 v0 s1 ev a1=> ?_⟩
 obtain⟨a,dx,fs,rfl,hl,hn⟩:=yp1 R s1 e0 ev em a1
 refine⟨a,dx,fs,rfl,hl,hn,ps,ys,R.ws.same s1,eg,fun us H2 s2 a2=> ?_⟩
 show SpE np X.K U mk g (_::(us++[])) H2 Q E0
 rw [Zh]
 exact yp0 R (s1.trans s2) hb e0 ev em (a1.same s2) (a2.reps has) (by rw [hnp,a2.len.2]) hm q
end
structure Kn(K:tz0)(mg:tzA)(U:tz9)(C qual:Str)(st:Stmt)(ps:List Str)(f:Addr)(fd:FuncData):Prop where
 F:Fun K "__init__" qual st f fd
 b:kP K fd ps []
 M:Mk K (U C) f
 m:mg C=some (.ref (U C))
def eL(C:Str)(ga:tz3)(g:tz7):tz2:=fun ps=>(ga ps).bind fun ys=>(g (.obj true C [] []::ys)).bind fun r=>match r with
 |(.non,d'::_)=>some d'
 |_=>none
theorem zy3(h:eL C ga g ps=some d):∃ys ds,ga ps=some ys/\g (.obj true C [] []::ys)=some (.non,d::ds):=by
 obtain⟨ys,e1,e2⟩:=bind_some h
 obtain⟨⟨r,ds⟩,e3,e4⟩:=bind_some e2
 cases r with
 |non=>cases ds with
  |nil=>cases e4
  |cons d1 ds=>cases e4;exact⟨ys,ds,e1,e3⟩
 |_=>cases e4
section
variable{X:Cx}{U:tz9}{e:Expr}{es:List Expr}{C qual:Str}{st:Stmt}{ps:List Str}{f:Addr}{fd:FuncData}{k np:Nat}{mk:Nat->Bool}{g:tz7}{as:List Arg}{pos p:Pos}
theorem yz6{H H1:Hp}{Q:VK}{d:D}{ys ds:List D}{us:List V}{x dx:Addr}(s1:SameK H H1)(hx:H1 x=none)(hdx:H1 dx=none)(hne:dx≠x)(ry:Reps X.K U H1 us ys [])(hnp:np=ys.length+1)(hm:mk=mR)(eg:g (.obj true C [] []::ys)=some (.non,d::ds))(q:jX X.K U H d Q):
  SpE np X.K U mk g (.ref x::us) (upd (upd H1 dx (.own x)) x (.ins (U C) dx [])) (fun v H2=>v= .non/\Q (.ref x) H2) E0:=by
 subst hnp hm
 have ne:∀a o,H1 a=some o->a≠x/\a≠dx:=fun a o h=>⟨fun z=>(by rw [z,hx] at h;cases h),fun z=>(by rw [z,hdx] at h;cases h)⟩
 have up:∀a o,H1 a=some o->upd (upd H1 dx (.own x)) x (.ins (U C) dx []) a=some o:=fun a o h=>by rw [aY (ne a o h).1,aY (ne a o h).2];exact h
 have gr:∀a,upd (upd H1 dx (.own x)) x (.ins (U C) dx []) a=none->H1 a=none:=fun a h=>by
  by_cases z:a=x
  ·rw [z];exact hx
  ·rw [aY z] at h
   by_cases z2:a=dx
   ·rw [z2];exact hdx
   ·rwa [aY z2] at h
 have s2:SameK H1 (upd (upd H1 dx (.own x)) x (.ins (U C) dx [])):=⟨fun a o h _=>up a o h,gr⟩
 have r0:Rep X.K U (upd (upd H1 dx (.own x)) x (.ins (U C) dx [])) (.ref x) (.obj true C [] []) [x]:= .obj (fs:=[]) bO rfl .nil
 have ry2:Reps X.K U (upd (upd H1 dx (.own x)) x (.ins (U C) dx [])) us ys []:=ry.move (fun a o h _=>up a o h) fun a ha=>absurd ha (by simp)
 refine⟨by rw [Z4,ry.length],_,.non,d::ds,rA [x],by simp,xW r0 (by simp) ry2,eg,fun u H' F' fv s o rv=>⟨by cases rv;rfl,?_⟩⟩
 obtain⟨v2,fp2,k1,k2,k3,_⟩:=s.rs.rep 0 d rfl
 have ek:v2= .ref x:=by
  have:(List.map some (V.ref x::us))[0]? =some (some v2):=k1
  simp at this;exact this.symm
 subst ek
 have k3':=k3 (by simp [fxE,mR])
 subst k3'
 refine q (.ref x) H' (F' 0) ⟨fun a o h hk=> ?_,fun a h=>s1.grow a (gr a (s.fr.grow a h))⟩ (fun a ha=> ?_) (s.rs.nd 0) k2
 ·have h1:=s1.keep a o h hk
  refine s.fr.keep a o (up a o h1) hk fun i hi=> ?_
  have:=(jU hi).2
  simp at this
  exact(ne a o h1).1 this
 ·rcases s.nw 0 a ha with ⟨i,hi⟩|z
  ·have:=(jU hi).2
   simp at this
   subst this
   exact s1.grow a hx
  ·exact s1.grow a (gr a z)
theorem lS(Kd:Kn X.K X.mg U C qual st ps f fd)(G:FnOk X.prog X.w X.K X.mg X.base CX0 k f fd ps (SpE np X.K U mk g))(hr:Room (k+1) X.A)(hg:Gl X C)(ha:PA X (e::es) (tIO X.K U as))(has:zg7 as=true)(hnp:np=as.length+1)(hm:mk=mR)
  (hdb:NDb C:=by decide) (he:StE e es X:=by rfl) (hpl:BkE pos es X:=by rfl):
  QP X U (.Call (.Name C p) (e::es) [] pos) (eL C (cO as) g):=(yx6 Kd.M G hr hg Kd.m Kd.b .nil xO ha hdb he hpl).imp fun σ H Q hh_=>by
 obtain⟨ps,d,w,e,q⟩:=hh_
 obtain⟨ys,ds,e1,e2⟩:=zy3 e
 refine⟨ps,ys,w,e1,fun us H1 s1 a1 x dx hx hdx hne=> ?_⟩
 show SpE np X.K U mk g (_::(us++[])) _ _ E0
 rw [Zh]
 exact yz6 s1 hx hdx hne (a1.reps has) (by rw [hnp,a1.len.2]) hm e2 q
end
section
variable{X:Cx}{U:tz9}
theorem yh1:MtR X "str.startswith" (fun x xs H Q=>∃z y,x= .str z/\xs=[.str y]/\Q (.bl (Txt.startswith z y)) H):=⟨by
 intro pins s σ H x xs v us Q I rx r h
 obtain⟨z,y,rfl,rfl,q⟩:=h
 obtain⟨t,rfl⟩:=rx
 obtain⟨u,rfl,t',rfl⟩:=vQ r
 exact SC.startswith ⟨.bl _,H,I.tok _,rfl,q⟩⟩
def nK:D->tz6
 | .str z,[.str y]=>some (.bl (Txt.startswith z y))
 |_,_=>none
theorem zl0:MtR X "str.startswith" (PMt X.K U nK):=⟨by
 rintro pins s σ H x vs v us Q I rx r ⟨dx,ds,fx,fp,d,r1,rs,e,q⟩
 unfold nK at e
 split at e
 ·cases e
  obtain⟨w,rfl,r2⟩:=rs.one_inv
  exact yh1 pins s σ H x _ v us Q I rx r ⟨_,_,r1.is_str,by rw [r2.is_str],q.now (.bl _)⟩
 ·cases e⟩
end
theorem dW(n:Nat):bX (true::List.replicate n false)=mR:=by
 funext i
 unfold bX mR
 cases i with
 |zero=>rfl
 |succ i=>
  rw [Yk,Yj]
  split<;>simp
def kap:List (Str×Addr)->tz9
 |[],_=>mainGlobals
 |(x,a)::r,y=>if x=y then a else kap r y
section
variable{X:Cx}{pins:tzB}{σ:St}{H:Hp}{s:Shared}{a C dx:Addr}{fs:List (Str×V)}
theorem Inv.freeze(I:Inv X pins σ H s)(h:H a=some (.ins C dx fs)):Inv X pins σ (upd H a (.frz (PySem.W.instObj C dx) (.ins C dx fs))) s:=by
 have ne:∀b,H b=none->b≠a:=fun b hb z=>by rw [z,h] at hb;cases hb
 have nt:∀b o,H b=some o->(∀C' dx' fs',o≠ .ins C' dx' fs')->b≠a:=fun b o hb ho z=>by
  rw [z,h] at hb
  cases hb
  exact ho _ _ _ rfl
 refine⟨I.ok,I.os,I.bare,⟨I.base.keep,I.base.slot,fun b o h1 h2 h3=> ?_,I.base.there,fun b xs h1=> ?_,fun b o u h1=> ?_,fun b ps h1=> ?_⟩,I.loc,I.cell,?_,fun x c e=> ?_,fun p hp=> ?_,fun b o e=> ?_,I.len⟩
 ·have:=I.base.free b o h1 h2 h3
  rw [aY (ne b this)];exact this
 ·have:=I.base.tups b xs h1
  rw [aY (nt b _ this fun _ _ _ z=>by cases z)];exact this
 ·have:=I.base.frzs b o u h1
  rw [aY (nt b _ this fun _ _ _ z=>by cases z)];exact this
 ·obtain⟨more,this⟩:=I.base.tbls b ps h1
  exact⟨more,by rw [aY (nt b _ this fun _ _ _ z=>by cases z)];exact this⟩
 ·rw [aY (ne _ I.free)];exact I.free
 ·have:=I.freeC x c e
  rw [aY (ne _ this)];exact this
 ·obtain⟨p1,p2,p3⟩:=I.pin p hp
  exact⟨p1,by rw [aY (ne _ p2)];exact p2,p3⟩
 ·have st:∀{b o},dA X.prog X.w H s.heap b o->dA X.prog X.w (upd H a (.frz (PySem.W.instObj C dx) (.ins C dx fs))) s.heap b o:=fun x=>
   x.stay (fun _ _ _ q=>q) (fun b' hb=>by rw [aY (nt b' _ hb fun _ _ _ z=>by cases z)];exact hb) fun b' xs hb=>by rw [aY (nt b' _ hb fun _ _ _ z=>by cases z)];exact hb
  by_cases z:b=a
  ·subst z
   rw [bO] at e
   cases e
   have x:=I.hok b _ h
   obtain⟨_,_,_,ob,_⟩:=(show dA X.prog X.w H s.heap b (.ins C dx fs) from x)
   exact⟨ob,st x⟩
  ·rw [aY z] at e
   exact st (I.hok b o e)
end
theorem PE.frz(h:PE X e t):PE X e (fun σ H Q=>t σ H fun x H'=>∃a C dx fs,x= .ref a/\H' a=some (.ins C dx fs)/\Q x (upd H' a (.frz (PySem.W.instObj C dx) (.ins C dx fs)))):=⟨by
 intro pins s σ H Q I q
 exact thn (h pins s σ H _ I q) fun v s1 ⟨x,H1,I1,rx,a,C,dx,fs,ex,ea,q1⟩=>⟨x,_,I1.freeze ea,rx,q1⟩⟩
def kX(f:tz2):tz2:=fun ps=>(f ps).bind fun d=>match d with
 | .obj true C ns vs=>if D.imms vs=true then some (.obj false C ns vs) else none
 |_=>none
theorem xY(h:QP X U e f):QP X U e (kX f):=
 (PE.frz h).imp fun σ H Q hh_=>by
  obtain⟨ps,d,w,e,q⟩:=hh_
  obtain⟨d0,e1,e2⟩:=bind_some e
  refine⟨ps,d0,w,e1,fun v H1 fv s1 n1 nd1 r1=> ?_⟩
  cases d0 with
  | obj o C ns vs=>cases o with
   | true=>
    have e2':(if D.imms vs=true then some (D.obj false C ns vs) else none)=some d:=e2
    obtain⟨hi,e3⟩:=bL e2'
    cases e3
    obtain⟨l,dx,fs,g,rfl,hl,hn,hs,rfl⟩:=r1.objT_inv
    have eg:=hs.imm hi
    subst eg
    have hln:=n1 l Z0
    have up:∀b o,H b=some o->b≠l:=fun b o hb z=>by rw [z,hln] at hb;cases hb
    refine⟨l,U C,dx,fs,rfl,hl,q (.ref l) _ [] ⟨fun b o hb hk=> ?_,fun b hb=> ?_⟩ (fun _ h=>absurd h (by simp)) Zf (.objF bO hn (hs.move (fun b o hb ht=> ?_) fun _ h=>absurd h (by simp)))⟩
    ·rw [aY (up b o hb)];exact s1.keep b o hb hk
    ·by_cases z:b=l
     ·rw [z,bO] at hb;cases hb
     ·rw [aY z] at hb;exact s1.grow b hb
    ·by_cases z:b=l
     ·rw [z,hl] at hb;cases hb;cases ht
     ·rw [aY z];exact hb
   |false=>cases e2
  |_=>cases e2
section
variable{X:Cx}{U:tz9}
theorem yp2:MtR X "str.rfind" (fun x xs H Q=>∃z y,x= .str z/\xs=[.str y]/\Q (.int (Txt.rfind z y)) H):=⟨by
 intro pins s σ H x xs v us Q I rx r h
 obtain⟨z,y,rfl,rfl,q⟩:=h
 obtain⟨t,rfl⟩:=rx
 obtain⟨u,rfl,t',rfl⟩:=vQ r
 exact SC.rfind ⟨.int _,H,I.tok _,⟨_,rfl⟩,q⟩⟩
def vF:D->tz6
 | .str z,[.str y]=>some (.int (Txt.rfind z y))
 |_,_=>none
theorem yz7:MtR X "str.rfind" (PMt X.K U vF):=⟨by
 rintro pins s σ H x vs v us Q I rx r ⟨dx,ds,fx,fp,d,r1,rs,e,q⟩
 unfold vF at e
 split at e
 ·cases e
  obtain⟨w,rfl,r2⟩:=rs.one_inv
  exact yp2 pins s σ H x _ v us Q I rx r ⟨_,_,r1.is_str,by rw [r2.is_str],q.now (.int _)⟩
 ·cases e⟩
end
def wB(f:PSt->Option (Bool×PSt)):PSt->Option (Bool×PSt):=fun ps=>(f ps).bind fun r=>some (!r.1,r.2)
def fTE(f:tz8):PSt->Option (Bool×PSt):=fun ps=>(f ps).bind fun r=>(za2 r.1).bind fun b=>some (b,r.2)
section
variable{X:Cx}{U:tz9}{φ:F0}{a b:Expr}{pos:Pos}
theorem zt3(h:QTE X U φ a f):QTE X U φ (.UnaryOp .Not a pos) (wB f):=(yc8 h).imp fun σ H Q hh_=>by
 obtain⟨ps,F,c,ps',R,e,q⟩:=hh_
 obtain⟨⟨c1,p1⟩,e1,e2⟩:=bind_some e
 cases e2
 exact⟨ps,F,c1,p1,R,e1,fun H' F' s=>q H' F' s⟩
theorem zt4(h:QE X U φ a f)(he:∀whole,isTrue a X.env whole=(do let v<-whole;standAt a.pos;holding [v] (truthy v)):=by intro _;rfl):QTE X U φ a (fTE f):=(zi7 h he).imp fun σ H Q hh_=>by
 obtain⟨ps,F,c,ps',R,e,q⟩:=hh_
 obtain⟨⟨d,p1⟩,e1,e2⟩:=bind_some e
 obtain⟨c1,e3,e4⟩:=bind_some e2
 cases e4
 exact⟨ps,F,d,p1,R,e1,fun v H' F' fv s o r=>⟨_,zs5 r e3,q H' F' s⟩⟩
end
def yu5:D->Option (List D)
 | .tup ds=>some ds
 |_=>none
theorem yh2(h:yu5 d=some ys):d= .tup ys:=by
 unfold yu5 at h
 split at h
 ·cases h;rfl
 ·cases h
def lC(is:List Nat)(f:tz1):List D->tz1
 |[],ps=>some (.nx,ps)
 | d::ds,ps=>(yu5 d).bind fun ys=>if ys.length=is.length then(f (rN ps is ys)).bind fun q=>match q with
   |(.nx,p)=>lC is f ds p
   |(.ct,p)=>lC is f ds p
   |(.bk,p)=>some (.nx,p)
   |(.ret d,p)=>some (.ret d,p)
  else none
def zg8(is:List Nat)(fi:tz3)(f:tz1):tz1:=fun ps=>(fi ps).bind fun ds=>lC is f ds ps
def yb5:D->Option (List D)
 | .lst true xs=>if D.imms xs=true then some xs else none
 |_=>none
theorem zy4(h:yb5 d=some xs):d= .lst true xs/\D.imms xs=true:=by
 unfold yb5 at h
 split at h
 ·obtain⟨h1,h2⟩:=bL h
  cases h2
  exact⟨rfl,h1⟩
 ·cases h
end L2
namespace L2
section
open PySem PySem.W PySem.Calls PyProof.Rows Builtin Builtin.ObjectAttr Builtin.Getset_descriptor
variable{prog:Program}{w:World}{A:Around}{E:Value->Shared->Prop}{s:Shared}{K:tz0}{x D:Addr}{name:Str}
end
open PySem PySem.Spec PyProof.Rows
section
variable{P:Program}{w:World}{A:Around}{E:Value->Shared->Prop}{h:Heap}{g:Array GenState}{d:Drawn}{t:Nat}{os:OsState}{nm q:Str}{C N:Addr}{bs bm bmB:List Value}{hdct ab:Bool}{sn:List Str}{sub:List Value}
 {col:Option Bool} {dd:Option Addr} {k0 k1 k2 k3 k5:Option Value} {B newId initId:String}
end
section
variable{P:Program}{w:World}{A:Around}{E:Value->Shared->Prop}{s:Shared}{env:Env}{nm q:Str}{C N:Addr}{bs bm bmB:List Value}{hdct ab:Bool}{sn:List Str}{sub:List Value}
 {col:Option Bool} {dd:Option Addr} {k0 k1 k2 k3 k5:Option Value} {B newId initId:String}
end
end L2
namespace L2
section
open PySem PySem.W PySem.Calls PyProof.Rows Builtin Builtin.ObjectAttr Builtin.Getset_descriptor
variable{prog:Program}{w:World}{A:Around}{E:Value->Shared->Prop}{K:tz0}{x C:Addr}{name:Str}
end
open PySem PySem.Spec PyProof.Rows
section
variable{K:tz0}{U:tz9}{H:Hp}
theorem lB{α:Type}[DecidableEq α]:∀{kvs:List (α×V)} {ks:List α} {ds:List D} {g:List Addr} {k:α},kvs.map (·.1)=ks->Reps K U H (kvs.map (·.2)) ds g->(nD kvs k).isSome=(gQ ks ds k).isSome
 |[],_,_,_,_,e,r=>by subst e;cases r;rfl
 |(k0,v0)::kvs,_,_,_,k,e,.cons h hs=>by
  subst e
  rw [Za,gQ]
  by_cases z:k0=k
  ·rw [if_pos z,pR z];rfl
  ·rw [if_neg z,pS z];exact lB rfl hs
theorem Rep.dicT_inv(r:Rep K U H v (.dic true ks ds) fp):∃a kvs g,v= .ref a/\H a=some (.dK kvs)/\kvs.map (·.1)=ks/\Reps K U H (kvs.map (·.2)) ds g/\fp=a::g:=by
 cases r with
 |dic h e hs=>exact⟨_,_,_,rfl,h,e,hs,rfl⟩
theorem Rep.dicF_inv(r:Rep K U H v (.dic false ks ds) fp):∃a o kvs,v= .ref a/\H a=some (.frz o (.dK kvs))/\kvs.map (·.1)=ks/\Reps K U H (kvs.map (·.2)) ds []:=by
 cases r with
 |dicF h e hs=>exact⟨_,_,_,rfl,h,e,hs⟩
theorem Rep.ditT_inv(r:Rep K U H v (.dit true ks ds) fp):∃a kvs g,v= .ref a/\H a=some (.dT kvs)/\kvs.map (·.1)=ks/\Reps K U H (kvs.map (·.2)) ds g/\fp=a::g:=by
 cases r with
 |dit h e hs=>exact⟨_,_,_,rfl,h,e,hs,rfl⟩
theorem Rep.ditF_inv(r:Rep K U H v (.dit false ks ds) fp):∃a o kvs,v= .ref a/\H a=some (.frz o (.dT kvs))/\kvs.map (·.1)=ks/\Reps K U H (kvs.map (·.2)) ds []:=by
 cases r with
 |ditF h e hs=>exact⟨_,_,_,rfl,h,e,hs⟩
end
def pB:tz2:=fun _=>some (.dit true [] [])
theorem yp3{X:Cx}{U:tz9}{pos:Pos}:QP X U (.Dict [] [] pos) pB:=yn6.imp fun σ H Q hh_=>by
 obtain⟨ps,d,w,e,q⟩:=hh_
 cases e
 exact fun p hp=>q.at hp (fv:=[p]) (fun a ha=>by rw [ZA.mp ha];exact hp) (by simp) (.dit (kvs:=[]) bO rfl .nil)
def gZ:D->D->Option D
 |y,.dic _ ks ds=>y.key.bind fun k=>some (.bl (!(gQ ks ds k).isSome))
 | .kt k,.dit _ ks ds=>some (.bl (!(gQ ks ds k).isSome))
 |_,_=>none
def oO{α:Type}[DecidableEq α]:List α->List D->α->D->List D
 |k::ks,d::ds,j,y=>(if k=j then y else d)::oO ks ds j y
 |_,_,_,_=>[]
def nL:D->D->D->Option (Unit×D)
 |i,y,.dic true ks ds=>i.key.bind fun k=>if D.imms ds=true/\y.imm=true/\ks.length<sizeLine then some ((),if (gQ ks ds k).isSome=true then .dic true ks (oO ks ds k y) else .dic true (ks++[k]) (ds++[y])) else none
 | .kt k,y,.dit true ks ds=>if D.imms ds=true/\y.imm=true/\ks.length<sizeLine then some ((),if (gQ ks ds k).isSome=true then .dit true ks (oO ks ds k y) else .dit true (ks++[k]) (ds++[y])) else none
 |_,_,_=>none
theorem zy5(h:nL i y d=some (r,d')):(∃k ks ds,d= .dic true ks ds/\i.key=some k/\D.imms ds=true/\y.imm=true/\ks.length<sizeLine/\d'=if (gQ ks ds k).isSome=true then .dic true ks (oO ks ds k y) else .dic true (ks++[k]) (ds++[y]))\/
  ∃k ks ds,d= .dit true ks ds/\i= .kt k/\D.imms ds=true/\y.imm=true/\ks.length<sizeLine/\d'=if (gQ ks ds k).isSome=true then .dit true ks (oO ks ds k y) else .dit true (ks++[k]) (ds++[y]):=by
 unfold nL at h
 split at h
 ·obtain⟨k,e1,e2⟩:=bind_some h
  obtain⟨hc,e3⟩:=bL e2
  cases e3
  exact .inl ⟨k,_,_,rfl,e1,hc.1,hc.2.1,hc.2.2,rfl⟩
 ·obtain⟨hc,e3⟩:=bL h
  cases e3
  exact .inr ⟨_,_,_,rfl,rfl,hc.1,hc.2.1,hc.2.2,rfl⟩
 ·cases h
theorem qR{K:tz0}{U:tz9}{H:Hp}{v:V}{y:D}{α:Type}[DecidableEq α]{k:α}(r:Rep K U H v y []):∀{kvs:List (α×V)} {ds:List D},Paired (fun v d=>Rep K U H v d []) (kvs.map (·.2)) ds->Paired (fun v d=>Rep K U H v d []) ((kvs.map fun kv=>if kv.1=k then(kv.1,v) else kv).map (·.2)) (oO (kvs.map (·.1)) ds k y)
 |[],_,.nil=> .nil
 |(k0,v0)::kvs,_,.cons h t=>by
  rw [Za,Za,Za,oO]
  by_cases z:k0=k
  ·rw [if_pos z,if_pos z];exact .cons r (qR r t)
  ·rw [if_neg z,if_neg z];exact .cons h (qR r t)
theorem oK{α:Type}[DecidableEq α]{k:α}{v:V}:∀kvs:List (α×V),(kvs.map fun kv=>if kv.1=k then(kv.1,v) else kv).map (·.1)=kvs.map (·.1)
 |[]=>rfl
 |(k0,v0)::kvs=>by
  rw [Za,Za,Za,oK kvs]
  by_cases z:k0=k
  ·rw [if_pos z]
  ·rw [if_neg z]
theorem yz8{K:tz0}{U:tz9}{H:Hp}{l:Addr}{v:V}{y:D}{kvs:List (Key×V)}{ds:List D}{k:Key}(hl:H l=some (.dK kvs))(hs:Reps K U H (kvs.map (·.2)) ds [])(ry:Rep K U H v y []):
  Rep K U (upd H l (.dK (eV kvs k v))) (.ref l) (if (gQ (kvs.map (·.1)) ds k).isSome=true then .dic true (kvs.map (·.1)) (oO (kvs.map (·.1)) ds k y) else .dic true (kvs.map (·.1)++[k]) (ds++[y])) [l]:=by
 have ha:=sM k kvs
 rw [lB (k:=k) rfl hs] at ha
 have hs':Reps K U (upd H l (.dK (eV kvs k v))) (kvs.map (·.2)) ds []:=hs.updL hl rfl (by simp)
 have ry':Rep K U (upd H l (.dK (eV kvs k v))) v y []:=ry.updL hl rfl (by simp)
 by_cases hc:(gQ (kvs.map (·.1)) ds k).isSome=true
 ·rw [if_pos hc]
  rw [hc] at ha
  have e:eV kvs k v=kvs.map fun kv=>if kv.1=k then(kv.1,v) else kv:=by unfold eV;rw [if_pos ha]
  exact .dic (fp:=[]) (kvs:=eV kvs k v) bO (by rw [e];exact oK kvs) (.ofp (by rw [e];rw [e] at hs' ry';exact qR ry' hs'.nilp))
 ·rw [if_neg hc]
  rw [YG] at hc
  rw [hc] at ha
  have e:eV kvs k v=kvs++[(k,v)]:=by unfold eV;rw [if_neg (by rw [ha];exact Z5)]
  have hh:=Reps.append hs' (Reps.one ry')
  exact .dic (fp:=[]) (kvs:=eV kvs k v) bO (by rw [e,ZU];rfl) (by rw [e,ZU];rw [e] at hh;exact hh)
theorem yp4{K:tz0}{U:tz9}{H:Hp}{l:Addr}{v:V}{y:D}{kvs:List (List Key×V)}{ds:List D}{k:List Key}(hl:H l=some (.dT kvs))(hs:Reps K U H (kvs.map (·.2)) ds [])(ry:Rep K U H v y []):
  Rep K U (upd H l (.dT (eV kvs k v))) (.ref l) (if (gQ (kvs.map (·.1)) ds k).isSome=true then .dit true (kvs.map (·.1)) (oO (kvs.map (·.1)) ds k y) else .dit true (kvs.map (·.1)++[k]) (ds++[y])) [l]:=by
 have ha:=sM k kvs
 rw [lB (k:=k) rfl hs] at ha
 have hs':Reps K U (upd H l (.dT (eV kvs k v))) (kvs.map (·.2)) ds []:=hs.updL hl rfl (by simp)
 have ry':Rep K U (upd H l (.dT (eV kvs k v))) v y []:=ry.updL hl rfl (by simp)
 by_cases hc:(gQ (kvs.map (·.1)) ds k).isSome=true
 ·rw [if_pos hc]
  rw [hc] at ha
  have e:eV kvs k v=kvs.map fun kv=>if kv.1=k then(kv.1,v) else kv:=by unfold eV;rw [if_pos ha]
  exact .dit (fp:=[]) (kvs:=eV kvs k v) bO (by rw [e];exact oK kvs) (.ofp (by rw [e];rw [e] at hs' ry';exact qR ry' hs'.nilp))
 ·rw [if_neg hc]
  rw [YG] at hc
  rw [hc] at ha
  have e:eV kvs k v=kvs++[(k,v)]:=by unfold eV;rw [if_neg (by rw [ha];exact Z5)]
  have hh:=Reps.append hs' (Reps.one ry')
  exact .dit (fp:=[]) (kvs:=eV kvs k v) bO (by rw [e,ZU];rfl) (by rw [e,ZU];rw [e] at hh;exact hh)
section
variable{X:Cx}{U:tz9}{φ:F0}{a b o e i:Expr}{f fa fb fi fe:tz2}{pf:PSt->Option (List Ps1)}{j:Nat}{pos apos:Pos}{tg:Expr}
theorem zc5(hu:X.A.units+1<cLine)(ha:QV X U a fa)(hb:QV X U b fb)(hm:behindInMarks .NotIn b=false:=by rfl):QT X U (.Compare a [.NotIn] [b] pos) (fB (f2 gZ fa fb)):=
 (xe7 (yf4 hu ha hb) hm).imp fun σ H Q hh_=>by
  obtain⟨ps,c,w,e,q⟩:=hh_
  obtain⟨x,y,e1,e2,e3⟩:=rR (zK e)
  refine⟨ps,x,w,e1,fun v H1 fp s1 r1=>⟨ps,y,w.same s1,e2,fun u H2 fq s2 r2=> ?_⟩⟩
  unfold gZ at e3
  split at e3
  ·obtain⟨k,e4,e5⟩:=bind_some e3
   cases e5
   obtain⟨l,kvs,g,rfl,h,hk,hs,_⟩:=r2.dic_inv
   exact⟨l,nD kvs k,rfl,.inl ⟨kvs,k,h,vU r1 e4,rfl⟩,_,by rw [lB hk hs],q H2 (s1.trans s2)⟩
  ·cases e3
   obtain⟨l,kvs,g,rfl,h,hk,hs,_⟩:=r2.dit_inv
   obtain⟨b,rfl,hb⟩:=(r1.same s2).kt_inv
   exact⟨l,_,rfl,.inr ⟨kvs,_,b,h,rfl,hb,rfl⟩,_,by rw [lB hk hs],q H2 (s1.trans s2)⟩
  ·cases e3
def pC(j:Nat)(pf:PSt->Option (List Ps1))(fi fe:tz2):tz1:=fun ps=>(fe ps).bind fun y=>((ps[j]?).join).bind fun d0=>(pf ps).bind fun p=>(fi ps).bind fun i=>(fF (nL i y) d0 p).bind fun r=>some (.nx,ps.set j (some r.2))
theorem yz9(hu:X.A.units+1<cLine)(hb:φ.bor j=false)(he:PE X e (tP X.K U fe))(ho:PE X o (mQ X.K U j pf))(hi:PE X i (tV X.K U fi))(hs:swapsWith e (some (.Subscript o i apos)) pos.line X.env=pure false:=by rfl):QS X U φ (.Assign [.Subscript o i apos] e pos) (pC j pf fi fe):=
 (yy2 hu ho hi he hs).imp fun E σ H hh_=>by
  obtain⟨ps,F,fl,ps',R,e,q⟩:=hh_
  obtain⟨y,e1,e2⟩:=bind_some e
  obtain⟨d0,e3,e4⟩:=bind_some e2
  have e0:=join_some e3
  obtain⟨p,e5,e6⟩:=bind_some e4
  obtain⟨iv,e7,e8⟩:=bind_some e6
  obtain⟨⟨r,d0'⟩,em,e9⟩:=bind_some e8
  cases e9
  obtain⟨dd,dn,gp,hh⟩:=lK em
  refine⟨ps,y,R.ws,e1,fun v H1 fy s1 n1 nd1 ry=>⟨ps,p,d0,dd,R.ws.same s1,e0,e5,gp,fun lv H2 v0 s2 ev a2=>⟨ps,iv,(R.ws.same s1).same s2,e7,fun u H3 fu s3 r3=> ?_⟩⟩⟩
  have s13:=(s1.trans s2).trans s3
  obtain⟨d1,d1',fd,m1,m2,m3,m4,m5⟩:=rS R s13 hb e0 ev em (a2.same s3)
  rcases zy5 m2 with ⟨k,ks,ds,rfl,ek,hi,hy,hl,rfl⟩|⟨k,ks,ds,rfl,rfl,hi,hy,hl,rfl⟩
  ·obtain⟨l,kvs,g,rfl,hd,hk,hs,rfl⟩:=m1.dicT_inv
   subst hk
   have eg:=hs.imm hi
   subst eg
   have ey:=ry.imm hy
   subst ey
   refine⟨l,_,rfl,.inl ⟨kvs,k,hd,vU r3 ek,by simpa using hl,rfl⟩,?_⟩
   obtain⟨F',st,ow⟩:=m5 (upd H3 l (.dK (eV kvs k v))) [l] [] (fun a o h _ hn=>pW h hn) (fun a h=>fI h)
    (yz8 hd hs ((ry.same s2).same s3)) (by simp) (fun a ha=> .inl (by simpa using ha))
   exact q _ _ F' st
  ·obtain⟨bk,rfl,hbk⟩:=r3.kt_inv
   obtain⟨l,kvs,g,rfl,hd,hk,hs,rfl⟩:=m1.ditT_inv
   subst hk
   have eg:=hs.imm hi
   subst eg
   have ey:=ry.imm hy
   subst ey
   refine⟨l,_,rfl,.inr ⟨kvs,k,bk,hd,rfl,hbk,by simpa using hl,rfl⟩,?_⟩
   obtain⟨F',st,ow⟩:=m5 (upd H3 l (.dT (eV kvs k v))) [l] [] (fun a o h _ hn=>pW h hn) (fun a h=>fI h)
    (yp4 hd hs ((ry.same s2).same s3)) (by simp) (fun a ha=> .inl (by simpa using ha))
   exact q _ _ F' st
end
def yb6(h:Heap)(d:Addr)(es:Array DictEntry)(ep:Nat):Prop:=∃o,h.get? d=some o/\o.ExactDict/\o.data= .dict es ep
section
variable{prog:Program}{w:World}{A:Around}{E:Value->Shared->Prop}{s:Shared}{d it:Addr}{es:Array DictEntry}{ep i:Nat}
theorem yp5{Q:Value->Shared->Prop}(sm:(d==sysModules)=false)(hm:yb6 s.heap d es ep)(hQ:Q (.ref s.heap.objs.size) {s with heap:=s.heap.push {cls:= .type "dict_keyiterator",data:= .fields #[.ref d,.int 0 0,.int es.size 0,.int ep 0]}}):wpAny (model prog w) A (pyIter (.ref d)) Q E s:=by
 obtain⟨o,h1,h2,h3⟩:=hm
 have T:s.TypeIs (.ref d) "dict":=⟨o,h1,h2.1⟩
 refine wpAny_pyIter_slot T F.slot_dict_iter (Xv F.slot_dict_iter T F.entry_dict_iter ?_ (F.args_dict_iter_1 _))
 unfold Builtin.«dict.__iter__» Builtin.Dict.dictSlotNone Builtin.Dict.showsAll
 have c1:(o.cls !=Value.type "dict")=false:=by rw [h2.1];rfl
 repeat (any_goals (first|assumption|with_reducible refine wpAny_dictEntries h1 h3 ?_|with_reducible refine wpAny_dictEpoch h1 h3 ?_|with_reducible refine YK ?_|rw [c1]|rw [sm]|simp only [Y8,X4]|wp_step))
 exact⟨_,rfl,"dict_keyiterator",_,⟨_,Zw _ rfl,rfl⟩,F.slot_dict_keyiterator_next.lookup,hQ⟩
theorem yp6{e:DictEntry}{Q:Option Value->Shared->Prop}(hit:s.heap.IsKeyIter it d i es.size ep)(hm:yb6 s.heap d es ep)(hx:es[i]? =some e)
  (hQ:∀h',h'.IsKeyIter it d (i+1) es.size ep->Heap.SameBut it s.heap h'->Q (some e.key) {s with heap:=h'}):wpAny (model prog w) A (pyNext (.ref it)) Q E s:=by
 obtain⟨o,h1,h2,h3⟩:=id hit
 obtain⟨p,g1,g2,g3⟩:=hm
 have T:=hit.typeIs
 unfold pyNext
 refine Zg (wpAny_attempt (XU (name:=Str.ofString "__next__") T F.slot_dict_keyiterator_next (Xv F.slot_dict_keyiterator_next T F.entry_dict_keyiterator_next ?_ (F.args_dict_keyiterator_next_1 _))))
 have ix:(if (i:Int)<0 then none else es[((i:Int)).toNat]?)=some e:=by rw [if_neg (by omega),X5,hx]
 repeat (any_goals (first|assumption|with_reducible refine wpAny_typeNameOfWhole_keyiter T ?_|with_reducible refine wpAny_typeNameOf_keyiter T ?_|with_reducible refine wpAny_fieldsOf h1 h3 ?_|with_reducible refine wpAny_dictEntries g1 g3 ?_|with_reducible refine wpAny_dictEpoch g1 g3 ?_|with_reducible refine wpAny_isOneOf_keyiter T ?_|wp_step))
 rw [ix]
 have hit':(s.heap.update it (Obj.mapFields (·.setIfInBounds 1 (rawInt ((i:Int)+1))))).IsKeyIter it d (i+1) es.size ep:=
  ⟨_,Heap.get?_update_self _ h1 (Obj.isFreed_of_fields (Obj.data_mapFields h3 _)),(Obj.cls_mapFields ..).trans h2,by rw [Obj.data_mapFields h3];simp [rawInt]⟩
 refine Zg ?_
 first|refine Zg (wpAny_typeNameOfWhole_keyiter T (ZE ?_))|refine Zg (wpAny_typeNameOf_keyiter T (ZE ?_))
 refine Zg (wpAny_isOneOf_keyiter T ?_)
 change wpAny (model prog w) A.in1 (setField (.ref it) 1 (rawInt ((i:Int)+1))>>=_) _ _ _
 refine Zg (wpAny_setField h1 h3 (by simp) (Zg (YL (Zg (wpAny_isOneOf_keyiter (s:=⟨_,s.gens,s.drawn,s.toks,s.os⟩) hit'.typeIs ?_)))))
 change wpAny (model prog w) A.in1 (pure e.key) _ _ _
 exact ZE (ZE ⟨_,rfl,ZE (hQ _ hit' (Heap.SameBut.update ..))⟩)
theorem xa0{Q:Option Value->Shared->Prop}(hh:A.handled=none)(hit:s.heap.IsKeyIter it d i es.size ep)(hm:yb6 s.heap d es ep)(hx:es.size<=i)
  (hQ:∀h',Heap.ExtBut it s.heap h'->Q none {s with heap:=h'}):wpAny (model prog w) A (pyNext (.ref it)) Q E s:=by
 obtain⟨o,h1,h2,h3⟩:=id hit
 obtain⟨p,g1,g2,g3⟩:=hm
 have T:=hit.typeIs
 unfold pyNext
 refine Zg (wpAny_attempt (XU (name:=Str.ofString "__next__") T F.slot_dict_keyiterator_next (Xv F.slot_dict_keyiterator_next T F.entry_dict_keyiterator_next ?_ (F.args_dict_keyiterator_next_1 _))))
 have ix:(if (i:Int)<0 then none else es[((i:Int)).toNat]?)=none:=by rw [if_neg (by omega),X5,Array.getElem?_eq_none hx]
 repeat (any_goals (first|assumption|with_reducible refine wpAny_typeNameOfWhole_keyiter T ?_|with_reducible refine wpAny_typeNameOf_keyiter T ?_|with_reducible refine wpAny_fieldsOf h1 h3 ?_|with_reducible refine wpAny_dictEntries g1 g3 ?_|with_reducible refine wpAny_dictEpoch g1 g3 ?_|with_reducible refine wpAny_isOneOf_keyiter T ?_|wp_step))
 rw [ix]
 refine Zg ?_
 first|refine Zg (wpAny_typeNameOfWhole_keyiter T (ZE ?_))|refine Zg (wpAny_typeNameOf_keyiter T (ZE ?_))
 change wpAny (model prog w) A.in1 (setField (.ref it) 0 .none>>=_) _ _ _
 refine Zg (wpAny_setField h1 h3 (by simp) ?_)
 change wpAny (model prog w) A.in1 (newExc (.type "StopIteration") []>>=_) _ _ _
 simp only [newExc,newTuple,raiseNew]
 refine Zg (Zg (YK (Zg (m:=firstArgMember _ _) (wpAny_of_eq (a:=Value.none) (by first|rfl|(simp only [firstArgMember];rfl)) (YK (Zg (wpAny_handled ?_)) (by size_fits)))) (by size_fits)))
 rw [show A.in1.handled=none from hh]
 refine Zg (ZE (wpAny_throw ?_))
 have ty:∀(hp:Heap) (ob:Obj) (g:Array GenState) (dr:Drawn) (t:Nat) (os:OsState),ob.isFreed=false->ob.cls= .type "StopIteration"->(⟨hp.push ob,g,dr,t,os⟩:Shared).TypeIs (.ref hp.objs.size) "StopIteration":=fun hp ob g dr t os h1 h2=>⟨ob,Zw _ h1,h2⟩
 refine Zg (wpAny_isInstance (T:="StopIteration") (b:=true) (ty _ _ _ _ _ _ rfl rfl) isSubtype_stop (ZE (hQ _ ?_)))
 exact((Heap.SameBut.update ..).extBut.push _).push _
end
def Itf(a:Addr)(o:Obj)(kvs:List (Key×V)):It:=⟨fun i H=>H a=some (.frz o (.dK kvs))/\i<kvs.length,fun i H x H'=>H'=H/\(kvs.map fun kv=>kV kv.1)[i]? =some x,fun i H=>H a=some (.frz o (.dK kvs))/\kvs.length<=i⟩
theorem wW{X:Cx}{pins:tzB}{σ:St}{H:Hp}{s:Shared}{a:Addr}{o:Obj}{kvs:List (Key×V)}(I:Inv X pins σ H s)(h:H a=some (.frz o (.dK kvs))):
  (a==sysModules)=false/\kvs.length<=sizeLine/\∃vs es ep,KV kvs vs/\o.data= .dict es ep/\s.heap.DictAt (eQ X.prog X.w) a vs ep:=by
 obtain⟨g,z,sm,vs,hv,hd⟩:=(show dA X.prog X.w H s.heap a (.frz o (.dK kvs)) from I.hok a _ h)
 obtain⟨ep,hat⟩:=hd.dictAt
 obtain⟨o',es,g',h1,h2,h3⟩:=id hat
 rw [g] at g'
 cases g'
 exact⟨sm,z,vs,es,ep,hv,h2,hat⟩
theorem xa1{P:Program}{w:World}{K:tz0}{tg:Expr}{a it:Addr}{o:Obj}{es:Array DictEntry}{ep:Nat}{kvs:List (Key×V)}(hd:o.data= .dict es ep):Turn P w K tg (Itf a o kvs) [it] it (fun i h=>h.IsKeyIter it a i kvs.length ep) where
 mem:=by simp
 obj:=fun i h st b hb=>by
  have e:b=it:=by simpa using hb
  subst e
  obtain⟨o,e,c,d⟩:=st
  exact⟨o,e,fun v z=>by rw [d] at z;cases z⟩
 keep:=fun i h h' st k=>st.at fun o e=>k it (by simp) o e
 item:=by
  intro X hP hw hK hc i pins s σ H E I hf st hg
  subst hP hw hK
  obtain⟨sm,z,vs,es',ep',hv,hd',dd⟩:=wW I hg.1
  rw [hd] at hd'
  cases hd'
  have hi:i<vs.length:=by rw [<-ZC hv];exact hg.2
  obtain⟨⟨k,x⟩,hx'⟩:∃p,vs[i]? =some p:=⟨vs[i],by simp [hi]⟩
  obtain⟨⟨k',v'⟩,hx2,he,_⟩:=lJ hv hx'
  have he':k'=k:=he
  subst he'
  obtain⟨f0,f1,f2,f3,f4,f5⟩:=hf it (by simp)
  rw [ZC hv] at st
  refine wpAny_pyNext_dict_item st dd hx' fun key h' hkey st' sb=> ?_
  have I1:Inv X pins σ H {s with heap:=h'}:=I.turned (t':=s.toks) (fun b o hb e=>(sb.2 b hb).trans e) f0 f1 f3 f4 f5
  obtain⟨o2,e,c,d⟩:=id st'
  rw [<-ZC hv] at st'
  exact⟨key,rfl,xJ (s:={s with heap:=h'}) e c d (by decide) ⟨kV k',H,I1,yz4 hkey,⟨rfl,by rw [Zi,hx2];rfl⟩,st',fun b hb=>(hf b hb).1⟩⟩
 done:=by
  intro X hP hw hK hc i pins s σ H E I hf st hg
  subst hP hw hK
  obtain⟨sm,z,vs,es',ep',hv,hd',dd⟩:=wW I hg.1
  rw [hd] at hd'
  cases hd'
  have hi:vs.length<=i:=by rw [<-ZC hv];exact hg.2
  obtain⟨f0,f1,f2,f3,f4,f5⟩:=hf it (by simp)
  rw [ZC hv] at st
  exact wpAny_pyNext_dict_end (I.ok.hd hc) st dd (YN hi) fun h' eb=>⟨rfl,I.turned (t':=s.toks) (fun b o hb e=>eb b o hb e) f0 f1 f3 f4 f5⟩
 self:=fun _ _ _ _ _ st h=>wpAny_pyIter_keyiter st h
def xl9(a:Addr)(o:Obj)(kvs:List (List Key×V)):It:=⟨fun i H=>H a=some (.frz o (.dT kvs))/\i<kvs.length,fun i H x H'=>H'=H/\∃k b,(kvs.map (·.1))[i]? =some k/\x= .ref b/\H b=some (.tup (k.map kV)),fun i H=>H a=some (.frz o (.dT kvs))/\kvs.length<=i⟩
theorem uL{X:Cx}{pins:tzB}{σ:St}{H:Hp}{s:Shared}{a:Addr}{o:Obj}{kvs:List (List Key×V)}(I:Inv X pins σ H s)(h:H a=some (.frz o (.dT kvs))):
  (a==sysModules)=false/\∃xs es ep,KT H kvs xs/\o.data= .dict es ep/\yb6 s.heap a es ep/\es.toList=xs.map (entryOfKey (tupleKind (eQ X.prog X.w))):=by
 obtain⟨g,z,sm,xs,hv,o',es,ep,h1,h2,h3,h4,_⟩:=(show dA X.prog X.w H s.heap a (.frz o (.dT kvs)) from I.hok a _ h)
 rw [g] at h1
 cases h1
 exact⟨sm,xs,es,ep,hv,h3,⟨o,g,h2,h3⟩,h4⟩
theorem yp7{P:Program}{w:World}{K:tz0}{tg:Expr}{a it:Addr}{o:Obj}{es:Array DictEntry}{ep:Nat}{kvs:List (List Key×V)}(hd:o.data= .dict es ep):Turn P w K tg (xl9 a o kvs) [it] it (fun i h=>h.IsKeyIter it a i kvs.length ep) where
 mem:=by simp
 obj:=fun i h st b hb=>by
  have e:b=it:=by simpa using hb
  subst e
  obtain⟨o,e,c,d⟩:=st
  exact⟨o,e,fun v z=>by rw [d] at z;cases z⟩
 keep:=fun i h h' st k=>st.at fun o e=>k it (by simp) o e
 item:=by
  intro X hP hw hK hc i pins s σ H E I hf st hg
  subst hP hw hK
  obtain⟨sm,xs,es',ep',hv,hd',dd,he⟩:=uL I hg.1
  rw [hd] at hd'
  cases hd'
  have hl:es.size=kvs.length:=by rw [ZC hv,<-ZQ,he,Zd]
  have hi:i<xs.length:=by rw [<-ZC hv];exact hg.2
  obtain⟨x,hx'⟩:∃p,xs[i]? =some p:=⟨xs[i],by simp [hi]⟩
  obtain⟨p,hx2,e1,e2,_⟩:=lJ hv hx'
  obtain⟨f0,f1,f2,f3,f4,f5⟩:=hf it (by simp)
  rw [<-hl] at st
  refine yp6 (e:=entryOfKey (tupleKind (eQ X.prog X.w)) x) st dd (by rw [<-XG,he,Zi,hx'];rfl) fun h' st' sb=> ?_
  have I1:Inv X pins σ H {s with heap:=h'}:=I.turned (t':=s.toks) (fun b o hb e=>(sb.2 b hb).trans e) f0 f1 f3 f4 f5
  obtain⟨o2,e,c,d⟩:=id st'
  rw [hl] at st'
  exact⟨_,rfl,xJ (s:={s with heap:=h'}) e c d (by decide) ⟨.ref x.2.1,H,I1,rfl,⟨rfl,p.1,x.2.1,by rw [Zi,hx2];rfl,rfl,e2⟩,st',fun b hb=>(hf b hb).1⟩⟩
 done:=by
  intro X hP hw hK hc i pins s σ H E I hf st hg
  subst hP hw hK
  obtain⟨sm,xs,es',ep',hv,hd',dd,he⟩:=uL I hg.1
  rw [hd] at hd'
  cases hd'
  have hl:es.size=kvs.length:=by rw [ZC hv,<-ZQ,he,Zd]
  obtain⟨f0,f1,f2,f3,f4,f5⟩:=hf it (by simp)
  rw [<-hl] at st
  exact xa0 (I.ok.hd hc) st dd (by rw [hl];exact hg.2) fun h' eb=>⟨rfl,I.turned (t':=s.toks) (fun b o hb e=>eb b o hb e) f0 f1 f3 f4 f5⟩
 self:=fun _ _ _ _ _ st h=>wpAny_pyIter_keyiter st h
def dH:D->Option (List D)
 | .dic false ks _=>some (ks.map zp2)
 | .dit false ks _=>some (ks.map .kt)
 |_=>none
def sI(f:tz2):tz3:=fun ps=>(f ps).bind dH
theorem xa2{K:tz0}{U:tz9}{H:Hp}{a:Addr}{o:Obj}{kvs:List (Key×V)}(h:H a=some (.frz o (.dK kvs))):Walk K U (Itf a o kvs) [] H ((kvs.map (·.1)).map zp2) where
 go:=fun H' k i d e=>by
  rw [Yp,Zi] at e
  obtain⟨kv,hkv,e⟩:=Zj.mp e
  refine⟨⟨k a _ h (.inl rfl),(Z6.mp hkv).1⟩,fun y H2 ⟨hy1,hy2⟩=>⟨hy1,?_⟩⟩
  rw [Zi,hkv] at hy2
  cases hy2
  rw [<-e]
  exact zk6 kv.1
 stop:=fun H' k=>⟨k a _ h (.inl rfl),by rw [Zd,Zd];exact Z9 _⟩
theorem yp8{K:tz0}{U:tz9}{H:Hp}{a:Addr}{o:Obj}{kvs:List (List Key×V)}(h:H a=some (.frz o (.dT kvs))):Walk K U (xl9 a o kvs) [] H ((kvs.map (·.1)).map .kt) where
 go:=fun H' k i d e=>by
  rw [Zi] at e
  obtain⟨kk,hkk,rfl⟩:=Zj.mp e
  have hi:=(Z6.mp hkk).1
  rw [Zd] at hi
  refine⟨⟨k a _ h (.inl rfl),hi⟩,fun y H2 ⟨hy1,k2,b,hy2,hy3,hy4⟩=>⟨hy1,?_⟩⟩
  rw [hkk] at hy2
  cases hy2
  subst hy3
  subst hy1
  exact .kt hy4
 stop:=fun H' k=>⟨k a _ h (.inl rfl),by rw [Zd,Zd];exact Z9 _⟩
theorem zQ{X:Cx}{U:tz9}{tg e:Expr}{f:tz2}(h:QP X U e f):QIP X U tg e (sI f):=⟨by
 rintro pins s σ H R I ⟨ps,l,w,e,q⟩
 obtain⟨d,e1,e2⟩:=bind_some e
 unfold dH at e2
 split at e2
 ·cases e2
  refine thn (h pins s σ H (fun x H1=>SameK H H1/\∃fp,Rep X.K U H1 x _ fp) I ⟨ps,_,w,e1,fun v H' fv s1 _ _ r=>⟨s1,fv,r⟩⟩) fun v s1 ⟨x,H1,I1,r1,sm,fp,rp⟩=> ?_
  obtain⟨a,o,kvs,rfl,ha,hk,_⟩:=rp.dicF_inv
  subst hk
  cases r1
  obtain⟨hsm,z,vs,es,ep,hv,hd,dd⟩:=wW I1 ha
  refine wpAny_pyIter_dict hsm dd ?_
  refine⟨s1.heap.objs.size,[s1.heap.objs.size],_,_,H1,rfl,I1.kept (t':=s1.toks) fun b o e=>Zk _ e,xa1 (kvs:=kvs) (a:=a) hd,⟨_,Zw _ rfl,rfl,by rw [ZC hv];rfl⟩,fun b hb=> ?_,q _ H1 [] sm (fun _ h=>absurd h (by simp)) (xa2 ha)⟩
  have e:b=s1.heap.objs.size:=by simpa using hb
  subst e
  exact I1.fpOk (Z9 _) (I1.hok.fresh (Z9 _))
 ·cases e2
  refine thn (h pins s σ H (fun x H1=>SameK H H1/\∃fp,Rep X.K U H1 x _ fp) I ⟨ps,_,w,e1,fun v H' fv s1 _ _ r=>⟨s1,fv,r⟩⟩) fun v s1 ⟨x,H1,I1,r1,sm,fp,rp⟩=> ?_
  obtain⟨a,o,kvs,rfl,ha,hk,_⟩:=rp.ditF_inv
  subst hk
  cases r1
  obtain⟨hsm,xs,es,ep,hv,hd,dd,he⟩:=uL I1 ha
  have hl:es.size=kvs.length:=by rw [ZC hv,<-ZQ,he,Zd]
  refine yp5 hsm dd ?_
  refine⟨s1.heap.objs.size,[s1.heap.objs.size],_,_,H1,rfl,I1.kept (t':=s1.toks) fun b o e=>Zk _ e,yp7 (kvs:=kvs) (a:=a) hd,⟨_,Zw _ rfl,rfl,by rw [<-hl];rfl⟩,fun b hb=> ?_,q _ H1 [] sm (fun _ h=>absurd h (by simp)) (yp8 ha)⟩
  have e:b=s1.heap.objs.size:=by simpa using hb
  subst e
  exact I1.fpOk (Z9 _) (I1.hok.fresh (Z9 _))
 ·cases e2⟩
theorem zl1{u:HO}{ob:Obj}(I:Inv X pins σ H s)(h:H a=some u)(e0:s.heap.get? a=some ob)(n1:∀xs,HO.tup xs≠u)(n2:∀o v,HO.frz o v≠u)(n3:∀ps,HO.tbl ps≠u)(n4:∀x,HO.own x≠u):Inv X pins σ (upd H a (.frz ob u)) s:=by
 have ne:∀b,H b=none->b≠a:=fun b hb z=>by rw [z,h] at hb;cases hb
 have nt:∀b o,H b=some o->o≠u->b≠a:=fun b o hb ho z=>by
  rw [z,h] at hb
  cases hb
  exact ho rfl
 refine⟨I.ok,I.os,I.bare,⟨I.base.keep,I.base.slot,fun b o h1 h2 h3=> ?_,I.base.there,fun b xs h1=> ?_,fun b o u h1=> ?_,fun b ps h1=> ?_⟩,I.loc,I.cell,?_,fun x c e=> ?_,fun p hp=> ?_,fun b o e=> ?_,I.len⟩
 ·have:=I.base.free b o h1 h2 h3
  rw [aY (ne b this)];exact this
 ·have:=I.base.tups b xs h1
  rw [aY (nt b _ this (n1 _))];exact this
 ·have:=I.base.frzs b o u h1
  rw [aY (nt b _ this (n2 _ _))];exact this
 ·obtain⟨more,this⟩:=I.base.tbls b ps h1
  exact⟨more,by rw [aY (nt b _ this (n3 _))];exact this⟩
 ·rw [aY (ne _ I.free)];exact I.free
 ·have:=I.freeC x c e
  rw [aY (ne _ this)];exact this
 ·obtain⟨p1,p2,p3⟩:=I.pin p hp
  exact⟨p1,by rw [aY (ne _ p2)];exact p2,p3⟩
 ·have st:∀{b o},dA X.prog X.w H s.heap b o->dA X.prog X.w (upd H a (.frz ob u)) s.heap b o:=fun x=>
   x.stay (fun _ _ _ q=>q) (fun b' hb=>by rw [aY (nt b' _ hb (n4 _))];exact hb) fun b' xs hb=>by rw [aY (nt b' _ hb (n1 _))];exact hb
  by_cases z:b=a
  ·subst z
   rw [bO] at e
   cases e
   exact⟨e0,st (I.hok b _ h)⟩
  ·rw [aY z] at e
   exact st (I.hok b o e)
theorem zl2(I:Inv X pins σ H s)(h:H a=some (.dK kvs)):∃ob,Inv X pins σ (upd H a (.frz ob (.dK kvs))) s:=by
 obtain⟨z0,sm,vs,hv,hd⟩:=(show dA X.prog X.w H s.heap a (.dK kvs) from I.hok a _ h)
 obtain⟨ep,ob,es,e0,_⟩:=hd.dictAt
 exact⟨ob,zl1 I h e0 (fun _ z=>HO.noConfusion z) (fun _ _ z=>HO.noConfusion z) (fun _ z=>HO.noConfusion z) fun _ z=>HO.noConfusion z⟩
theorem zl3(I:Inv X pins σ H s)(h:H a=some (.dT kvs)):∃ob,Inv X pins σ (upd H a (.frz ob (.dT kvs))) s:=by
 obtain⟨z0,sm,xs,hv,ob,es,ep,e0,_⟩:=(show dA X.prog X.w H s.heap a (.dT kvs) from I.hok a _ h)
 exact⟨ob,zl1 I h e0 (fun _ z=>HO.noConfusion z) (fun _ _ z=>HO.noConfusion z) (fun _ z=>HO.noConfusion z) fun _ z=>HO.noConfusion z⟩
def za5:D->Option D
 | .obj true C ns [x,.dic true ks ds]=>if x.imm=true/\D.imms ds=true then some (.obj false C ns [x,.dic false ks ds]) else none
 | .obj true C ns [x,.dit true ks ds]=>if x.imm=true/\D.imms ds=true then some (.obj false C ns [x,.dit false ks ds]) else none
 |_=>none
def nM(f:tz2):tz2:=fun ps=>(f ps).bind za5
theorem zR{X:Cx}{U:tz9}{e:Expr}{f:tz2}(h:QP X U e f):QP X U e (nM f):=⟨by
 intro pins s σ H Q I hh_
 obtain⟨ps,d,w,e,q⟩:=hh_
 obtain⟨d0,e1,e2⟩:=bind_some e
 unfold za5 at e2
 split at e2
 ·rename_i C ns x ks ds
  obtain⟨⟨hx,hi⟩,e3⟩:=bL e2
  cases e3
  refine thn (h pins s σ H (fun y H1=>SameK H H1/\∃fv,(∀a∈fv,H a=none)/\fv.Nodup/\Rep X.K U H1 y _ fv) I ⟨ps,_,w,e1,fun v H' fv s1 n1 nd1 r=>⟨s1,fv,n1,nd1,r⟩⟩) fun v s1 ⟨y,H1,I1,r1,sm,fv,n1,nd1,rp⟩=> ?_
  obtain⟨l,dx,fs,g,rfl,hl,hn,hs,rfl⟩:=rp.objT_inv
  obtain⟨v1,us,f1,g1,ev,k1,k2,rfl⟩:=hs.split
  obtain⟨v2,rfl,k3⟩:=k2.one_inv
  obtain⟨b,kvs,g2,rfl,hb,hk,k4,rfl⟩:=k3.dicT_inv
  have z1:=k1.imm hx
  subst z1
  have z2:=k4.imm hi
  subst z2
  rw [ZV] at nd1 n1
  have hln:=n1 l Z0
  have hbn:=n1 b (Z1 _ Z0)
  have nbl:b≠l:=fun z=>(Zo.mp nd1).1 (z▸Z0)
  obtain⟨ob,I2⟩:=zl2 I1 hb
  have hl2:upd H1 b (.frz ob (.dK kvs)) l=some (.ins (U C) dx fs):=by rw [aY (Y6 nbl)];exact hl
  refine⟨.ref l,_,I2.freeze hl2,r1,q (.ref l) _ [] ⟨fun c o hc hk'=> ?_,fun c hc=> ?_⟩ (fun _ h=>absurd h (by simp)) Zf (.objF bO hn ?_)⟩
  ·rw [aY (fun z=>by rw [z,hln] at hc;cases hc),aY (fun z=>by rw [z,hbn] at hc;cases hc)]
   exact sm.keep c o hc hk'
  ·exact sm.grow c (fI (fI hc))
  ·have mv:∀c o,H1 c=some o->tf o=true->upd (upd H1 b (.frz ob (.dK kvs))) l (.frz (PySem.W.instObj (U C) dx) (.ins (U C) dx fs)) c=some o:=fun c o hc ht=>by
    rw [aY (fun z=>by rw [z,hl] at hc;cases hc;cases ht),aY (fun z=>by rw [z,hb] at hc;cases hc;cases ht)];exact hc
   rw [ev]
   exact .cons (f:=[]) (g:=[]) (k1.move mv fun _ h=>absurd h (by simp)) (.one (.dicF (o:=ob) (by rw [aY nbl];exact bO) hk (k4.move mv fun _ h=>absurd h (by simp))))
 ·rename_i C ns x ks ds
  obtain⟨⟨hx,hi⟩,e3⟩:=bL e2
  cases e3
  refine thn (h pins s σ H (fun y H1=>SameK H H1/\∃fv,(∀a∈fv,H a=none)/\fv.Nodup/\Rep X.K U H1 y _ fv) I ⟨ps,_,w,e1,fun v H' fv s1 n1 nd1 r=>⟨s1,fv,n1,nd1,r⟩⟩) fun v s1 ⟨y,H1,I1,r1,sm,fv,n1,nd1,rp⟩=> ?_
  obtain⟨l,dx,fs,g,rfl,hl,hn,hs,rfl⟩:=rp.objT_inv
  obtain⟨v1,us,f1,g1,ev,k1,k2,rfl⟩:=hs.split
  obtain⟨v2,rfl,k3⟩:=k2.one_inv
  obtain⟨b,kvs,g2,rfl,hb,hk,k4,rfl⟩:=k3.ditT_inv
  have z1:=k1.imm hx
  subst z1
  have z2:=k4.imm hi
  subst z2
  rw [ZV] at nd1 n1
  have hln:=n1 l Z0
  have hbn:=n1 b (Z1 _ Z0)
  have nbl:b≠l:=fun z=>(Zo.mp nd1).1 (z▸Z0)
  obtain⟨ob,I2⟩:=zl3 I1 hb
  have hl2:upd H1 b (.frz ob (.dT kvs)) l=some (.ins (U C) dx fs):=by rw [aY (Y6 nbl)];exact hl
  refine⟨.ref l,_,I2.freeze hl2,r1,q (.ref l) _ [] ⟨fun c o hc hk'=> ?_,fun c hc=> ?_⟩ (fun _ h=>absurd h (by simp)) Zf (.objF bO hn ?_)⟩
  ·rw [aY (fun z=>by rw [z,hln] at hc;cases hc),aY (fun z=>by rw [z,hbn] at hc;cases hc)]
   exact sm.keep c o hc hk'
  ·exact sm.grow c (fI (fI hc))
  ·have mv:∀c o,H1 c=some o->tf o=true->upd (upd H1 b (.frz ob (.dT kvs))) l (.frz (PySem.W.instObj (U C) dx) (.ins (U C) dx fs)) c=some o:=fun c o hc ht=>by
    rw [aY (fun z=>by rw [z,hl] at hc;cases hc;cases ht),aY (fun z=>by rw [z,hb] at hc;cases hc;cases ht)];exact hc
   rw [ev]
   exact .cons (f:=[]) (g:=[]) (k1.move mv fun _ h=>absurd h (by simp)) (.one (.ditF (o:=ob) (by rw [aY nbl];exact bO) hk (k4.move mv fun _ h=>absurd h (by simp))))
 ·cases e2⟩
def Ite(K:tz0)(a:Addr):It:=
 ⟨fun i H=>∃xs x,SqL K H a xs/\xs[i]? =some x,fun i H x H'=>∃p v,H p=none/\x= .ref p/\H'=upd H p (.tup [.int i,v])/\∀xs,SqL K H a xs->xs[i]? =some v,fun i H=>∃xs,SqL K H a xs/\xs.length<=i⟩
theorem zr1{X:Cx}{pins:tzB}{σ:St}{H:Hp}{s:Shared}{h':Heap}{t':Nat}{e it:Addr}(I:Inv X pins σ H s)(k:∀b o,b≠e->b≠it->s.heap.get? b=some o->h'.get? b=some o)(he:mO X pins H e)(hi:mO X pins H it):Inv X pins σ H {s with heap:=h',toks:=t'}:=by
 have nn:∀b,(b∉[e,it])->b≠e/\b≠it:=fun b h=>⟨fun z=>h (by simp [z]),fun z=>h (by simp [z])⟩
 have nit:∀b u,H b=some u->b≠e/\b≠it:=fun b u q=>⟨fun z=>by(rw [z,he.1] at q;cases q),fun z=>by(rw [z,hi.1] at q;cases q)⟩
 refine I.step (g':=s.gens) (d':=s.drawn) (ch:=[e,it]) (fun b hb=> ?_) (fun b o _ _ hc q _=>k b o (nn b hc).1 (nn b hc).2 q) (fun b o _ _ hc q _=>⟨o.slots,k b o (nn b hc).1 (nn b hc).2 q⟩) (fun _ _ _ _ n=>n)
  (fun b o hc q=>⟨o,k b o (nn b hc).1 (nn b hc).2 q⟩) (fun _ _ e=>e) (fun _ _ _ e=>e) (fun b ps e=>⟨#[],by rw [e];simp⟩) (fun m hm=> ?_) (fun b u q=> ?_) I.bare
 ·rcases Z8.mp hb with z|z
  ·rw [z];exact⟨he.2.2.2.1,he.2.1,he.2.2.2.2.1,he.2.2.2.2.2⟩
  ·rw [ZA.mp z];exact⟨hi.2.2.2.1,hi.2.1,hi.2.2.2.2.1,hi.2.2.2.2.2⟩
 ·obtain⟨o,es,ep,ho,r⟩:=hm
  exact⟨o,es,ep,k _ o (Y6 he.2.1) (Y6 hi.2.1) ho,r⟩
 ·refine(I.hok b u q).stay (fun c v hc q'=> ?_) (fun _ q=>q) fun _ _ q=>q
  rcases hc with z|z
  ·rw [z] at q'|-;exact k b v (nit b u q).1 (nit b u q).2 q'
  ·exact k c v (nit c _ z).1 (nit c _ z).2 q'
theorem xa3{P:Program}{w:World}{K:tz0}{elts:List Expr}{x1:Nat}{pos:Pos}(a e it:Addr)(hne:e≠it):Turn P w K (.Tuple elts x1 pos) (Ite K a) [e,it] e (fun i h=>(∃old,IsEnum h e it (i:Nat) old)/\h.IsListIter it a i) where
 mem:=by simp
 obj:=fun i h st b hb=>by
  obtain⟨⟨old,st1⟩,st2⟩:=st
  rcases Z8.mp hb with rfl|hb
  ·exact⟨_,st1,fun v z=>by
    have z':Data.fields _=Data.cell v:=z
    cases z'⟩
  ·have z:b=it:=by simpa using hb
   subst z
   obtain⟨o,q,c,d⟩:=st2
   exact⟨o,q,fun v z=>by rw [d] at z;cases z⟩
 keep:=fun i h h' st k=>⟨by obtain⟨⟨old,st1⟩,_⟩:=st;exact⟨old,k e (by simp) _ st1⟩,st.2.at fun o q=>k it (by simp) o q⟩
 item:=by
  intro X hP hw hK hc i pins s σ H E I hf st hg
  subst hP hw hK
  obtain⟨xs,x,hq,hx⟩:=hg
  obtain⟨its,rv,p,hz⟩:=I.list hq
  obtain⟨u,hu,ru⟩:=rv.get hx
  obtain⟨⟨old,st1⟩,st2⟩:=st
  refine wpAny_pyNext_enum_item st1 st2 p.isList (x:=u) (by simpa using hu) hne fun h' heo hit ht hsz hk=> ?_
  refine⟨_,rfl,wpAny_letOwnedTupleGo_enum heo fun h2 he2 hs2=> ?_⟩
  have hs2':Heap.SameBut e h' h2:=hs2
  have hes:e<s.heap.objs.size:=Zn st1
  have ni:Heap.get? h2 s.heap.objs.size=some {cls:= .type "tuple",data:= .seq #[.int i s.toks,u]}:=(hs2'.2 _ (Xy hes)).trans ht
  have hp:H s.heap.objs.size=none:=I.hok.fresh (Z9 _)
  have kk:∀b o,b≠e->b≠it->s.heap.get? b=some o->h2.get? b=some o:=fun b o h3 h4 h5=>(hs2'.2 b h3).trans (hk b o h3 h4 h5)
  have hes2:it<s.heap.objs.size:=by obtain⟨o,q,_⟩:=st2;exact Zn q
  have I0:Inv X pins σ (upd H s.heap.objs.size (.tup [.int i,x])) {s with heap:=s.heap.push {cls:= .type "tuple",data:= .seq #[.int i s.toks,u]}}:=
   I.laid (t':=s.toks) (fun b o q=>Zk _ q) (Z9 _) ⟨YI (uH (by simp)),[.int i s.toks,u],.cons ⟨_,rfl⟩ (.cons ru .nil),⟨_,Zw _ rfl,rfl,0,rfl⟩⟩
  have fo:∀b∈[e,it],mO X pins (upd H s.heap.objs.size (.tup [.int i,x])) b:=fun b hb=>by
   refine⟨?_,(hf b hb).2⟩
   rw [aY]
   ·exact(hf b hb).1
   ·rcases Z8.mp hb with z|z
    ·rw [z];exact ZG hes
    ·rw [ZA.mp z];exact ZG hes2
  have I1:Inv X pins σ (upd H s.heap.objs.size (.tup [.int i,x])) {s with heap:=h2,toks:=s.toks+1}:=zr1 (s:={s with heap:=s.heap.push {cls:= .type "tuple",data:= .seq #[.int i s.toks,u]}}) (t':=s.toks+1) I0 (fun b o h3 h4 h5=>by
   rcases Heap.get?_push_cases h5 with ⟨rfl,rfl⟩|h5
   ·exact ni
   ·exact kk b o h3 h4 h5) (fo e (by simp)) (fo it (by simp))
  refine⟨.ref s.heap.objs.size,_,I1,rfl,⟨_,x,hp,rfl,rfl,fun ys hy=>by rw [I.list_inj hy hq];exact hx⟩,⟨⟨u,?_⟩,?_⟩,fun b hb=> ?_⟩
  ·have:((i+1:Nat):Int)=(i:Int)+1:=by push_cast;rfl
   rw [this];exact he2
  ·exact hit.at fun o q=>(hs2'.2 it (Y6 hne)).trans q
  ·exact(fo b hb).1
 done:=by
  intro X hP hw hK hc i pins s σ H E I hf st hg
  subst hP hw hK
  obtain⟨xs,hq,hx⟩:=hg
  obtain⟨its,rv,p,hz⟩:=I.list hq
  obtain⟨⟨old,st1⟩,st2⟩:=st
  obtain⟨f0,f1,f2,f3,f4,f5⟩:=hf it (by simp)
  have hl:=rv.length
  exact wpAny_pyNext_enum_end (I.ok.hd hc) st1 st2 p.isList (by simp;omega) fun h' eb=>⟨rfl,I.turned (t':=s.toks) (fun b o hb e=>eb b o hb e) f0 f1 f3 f4 f5⟩
 self:=fun _ _ _ _ _ st h=>by
  obtain⟨⟨old,st1⟩,_⟩:=st
  exact wpAny_pyIter_enum st1 h
structure WalkE(K:tz0)(U:tz9)(J:It)(Z:List Addr)(H1:Hp)(ds:List D):Prop where
 go:∀H',oN Z H1 H'->∀(i:Nat) d,ds[i]? =some d->J.go i H'/\∀x H2,J.yld i H' x H2->SameK H' H2/\Rep K U H2 x d []
 stop:∀H',oN Z H1 H'->J.stop ds.length H'
def kQ:Nat->List D->List D
 |_,[]=>[]
 |n,d::ds=> .tup [.int n,d]::kQ (n+1) ds
theorem zc6:∀{ds:List D} {n i:Nat} {d:D},(kQ n ds)[i]? =some d->∃y,ds[i]? =some y/\d= .tup [.int ((n+i:Nat):Int),y]
 |[],_,_,_,h=>by simp [kQ] at h
 |y::ds,n,0,d,h=>by
  rw [kQ] at h
  exact⟨y,rfl,by simpa using h.symm⟩
 |y::ds,n,i+1,d,h=>by
  rw [kQ,Yk] at h
  obtain⟨z,h1,h2⟩:=zc6 h
  exact⟨z,by simpa using h1,by rw [h2,show n+1+i=n+(i+1) by omega]⟩
theorem zc7:∀(ds:List D) (n:Nat),(kQ n ds).length=ds.length
 |[],_=>rfl
 |d::ds,n=>by rw [kQ,Z4,Z4,zc7 ds]
theorem xa4{K:tz0}{U:tz9}{H1:Hp}{a:Addr}{vs:List V}{ds:List D}{Z:List Addr}(h:Rd H1 a (.lst vs))(hz:H1 a=some (.lst vs)->a∈Z)(r:Paired (fun v d=>Rep K U H1 v d []) vs ds):WalkE K U (Ite K a) Z H1 (kQ 0 ds) where
 go:=fun H' k i d e=>by
  obtain⟨y,e0,rfl⟩:=zc6 e
  obtain⟨x,e1,r1⟩:=lJ r e0
  have sq:SqL K H' a vs:=k.sq h hz
  refine⟨⟨vs,x,sq,e1⟩,fun z H2 hy=> ?_⟩
  obtain⟨p,v,hp,rfl,rfl,hv⟩:=hy
  have e2:=hv vs sq
  rw [e1] at e2;cases e2
  have sm:SameK H' (upd H' p (.tup [.int i,x])):= .new hp _
  refine⟨sm,.tup (.inl (.inl bO)) (.cons (f:=[]) (g:=[]) ?_ (.one ((k.rep r1).same sm)))⟩
  rw [Yw];exact .int _
 stop:=fun H' k=>⟨vs,k.sq h hz,by rw [zc7,ZC r];exact Z9 _⟩
def zg9(f:tz2):tz3:=fun ps=>(f ps).bind fun d=>(yb5 d).map (kQ 0)
section
variable{X:Cx}{U:tz9}{φ:F0}{pos:Pos}{body:List Stmt}{f:tz1}
theorem yh3{φ:Fx}(R:RS φ H σ ps F)(hz:∀a∈Z,H a≠none/\∀i,a∉F i)(W:WalkE φ.K φ.U J Z H ds)(hb:∀i∈is,φ.bor i=false/\φ.M i=false)
  (e:lC is f ds ps=some (fl,ps')) (q:tN φ E σ H F fl ps'):xl8 (fun v σ H Q=>yu3 φ.K is.length (sG is) v σ H Q\/yt7 φ.K is.length (sG is) v σ H Q) (tS φ f) E σ J H:=by
 refine⟨fun k m σ1 H1=>k<=ds.length/\m=ds.length-k/\∃ps1 F1,Stp φ σ H F σ1 H1 ps1 F1/\lC is f (ds.drop k) ps1=some (fl,ps'),⟨_,ZI _,rfl,ps,F,.refl R,by rw [Xo];exact e⟩,?_⟩
 rintro k m σ1 H1 ⟨hk,rfl,ps1,F1,s1,e1⟩
 have kp:oN Z H H1:=s1.fr.kept R fun a ha=>(hz a ha).2
 by_cases hlt:k<ds.length
 ·right
  have ed:ds[k]? =some ds[k]:=Zp hlt
  obtain⟨hgo,hy⟩:=W.go H1 kp k _ ed
  rw [ZS hlt,lC] at e1
  obtain⟨ys,e0,e1⟩:=bind_some e1
  obtain⟨hl,e1⟩:=bL e1
  obtain⟨⟨fl2,ps2⟩,e2,e3⟩:=bind_some e1
  refine⟨hgo,fun σ' H'=>∃F',Stp φ σ H F σ' H' ps2 F'/\lC is f (ds.drop (k+1)) ps2=some (fl,ps'),fun σ' H' ⟨F',s,e⟩=>⟨ds.length-(k+1),by omega,hlt,rfl,ps2,F',s,e⟩,fun x H' y=> ?_⟩
  obtain⟨sm,rx⟩:=hy x H' y
  rw [yh2 e0] at rx
  obtain⟨a,vs,rfl,h,hs⟩:=rx.tup_inv
  have ln:=hs.length
  have s0:=Stp.same s1.rs sm
  obtain⟨F2,s2⟩:=Stp.setN s1.rs s0 ⟨fun a ha=>absurd ha (by simp),Zf,fun k a ha hg=>absurd hg (by simp)⟩ hs hb
  have s12:=s1.trans s2
  refine .inr ⟨a,vs,rfl,h,by omega,qQ (by omega) ⟨_,F2,fl2,ps2,s2.rs,e2,?_⟩⟩
  cases fl2 with
  |nx=>exact fun σ' H' F' s=>⟨F',s12.trans s,e3⟩
  |ct=>exact fun σ' H' F' s=>⟨F',s12.trans s,e3⟩
  |bk=>cases e3;exact fun σ' H' F' s=>q σ' H' F' (s12.trans s)
  |ret d=>cases e3;exact fun v σ' H' F' fv s o r=>q v σ' H' F' fv (s12.trans s) (o.after s12) r
 ·left
  have ek:k=ds.length:=by omega
  subst ek
  rw [X8,lC] at e1
  cases e1
  exact⟨W.stop H1 kp,q _ _ F1 s1⟩
theorem xa5(is:List Nat){es:List Expr}{k:Nat}{l:Expr}{fl:tz2}{px p p2:Pos}(hp:PassesOwn (model X.prog X.w) X.A X.env X.xe)(hc:X.calm=true)(hg:Gl X "enumerate")(hm:X.mg "enumerate"=none)(hl:QP X U l fl)(hgs:PGs X es (sG is))(hb:∀i∈is,φ.bor i=false/\φ.M i=false)
  (hbd:QSs X U φ body f) (hn:(assignEach es X.env).length=is.length:=by rfl) (hst:(assignEach es X.env).findIdx? (·.1)=none:=by rfl) (hs1:starEach [l] X.env=(false,eval l X.env)::starEach [] X.env:=by rfl) (hs:∀x,foldedSetIterable (.Call (.Name "enumerate" p) [l] [] p2) X.env x=pure x:=by intro _;rfl):
  QS X U φ (.For (.Tuple es k px) (.Call (.Name "enumerate" p) [l] [] p2) body [] pos) (zg8 is (zg9 fl) f):=by
 have hi:PI X (.Tuple es k px) (.Call (.Name "enumerate" p) [l] [] p2) (fun σ H R=>∃ps xs,WS X.K U H σ ps/\fl ps=some (.lst true xs)/\D.imms xs=true/\∀J H1 Z,SameK H H1->(∀a∈Z,H a=none/\H1 a≠none)->WalkE X.K U J Z H1 (kQ 0 xs)->R J H1):=by
  constructor
  intro pins s σ H R I hh_
  obtain⟨ps,xs,w,e1,him,q⟩:=hh_
  refine Yd (rP I hg hm (u:= .type "enumerate") rfl ?_)
  refine Y9 ?_ hs1 rfl
  rw [hs1]
  refine Calls.spliced_cons (thn (hl pins s σ H (fun v H1=>SameK H H1/\∃fv,(∀a∈fv,H a=none)/\Rep X.K U H1 v (.lst true xs) fv) I ⟨ps,_,w,e1,fun v H1 fv s1 n1 _ r1=>⟨s1,fv,n1,r1⟩⟩) fun u s1 hu=>Calls.spliced_nil ?_)
  obtain⟨v,H1,I1,r1,sm,fv,n1,rp⟩:=hu
  obtain⟨a,ws,g,rfl,ha,hws,rfl⟩:=rp.lstT_inv
  have eg:=hws.imm him
  subst eg
  cases r1
  obtain⟨its,rv,pl,hz⟩:=I1.list (.inl (.inl ha))
  refine call_enumerate_list pl.isList fun h' hE hI hsz hk=>wpAny_pyIter_enum hE ?_
  have I2:Inv X pins σ H1 {s1 with heap:=h'}:=I1.kept (t':=s1.toks) hk
  refine⟨s1.heap.objs.size+1,[s1.heap.objs.size+1,s1.heap.objs.size],_,_,H1,rfl,I2,xa3 a (s1.heap.objs.size+1) s1.heap.objs.size (Nat.succ_ne_self _),⟨⟨_,hE⟩,hI⟩,fun b hb=> ?_,q _ H1 [a] sm (fun b hb=> ?_) (xa4 (.inl ha) (fun _=>by simp) hws.nilp)⟩
  ·have hb2:s1.heap.objs.size<=b:=by
    rcases Z8.mp hb with z|z
    ·rw [z];exact Nat.le_succ _
    ·rw [ZA.mp z];exact Z9 _
   exact I1.fpOk hb2 (I1.hok.fresh hb2)
  ·rw [ZA.mp hb]
   exact⟨n1 a Z0,by rw [ha];simp⟩
 exact(zi6 hp hc hi (yg7 (n:=is.length) hc hgs hn hst) hbd hs).imp fun E σ H hh_=>by
  obtain⟨ps,F,fl',ps',R,e,q⟩:=hh_
  obtain⟨ds,e1,e2⟩:=bind_some e
  obtain⟨d,e4,e3⟩:=bind_some e1
  obtain⟨xs,e5,rfl⟩:=Zj.mp e3
  obtain⟨rfl,him⟩:=zy4 e5
  refine⟨ps,_,R.ws,e4,him,fun J H1 Z s1 hz W=> ?_⟩
  have s:=Stp.same R s1
  exact yh3 s.rs (fun a ha=>⟨(hz a ha).2,fun j hj=>by obtain⟨o,h,_⟩:=R.own hj;rw [(hz a ha).1] at h;cases h⟩) W hb e2 (q.back s)
end
inductive LtS(A:Around)(s:Shared):List Value->List Value->Bool->Prop
 |nn:LtS A s [] [] false
 |nc {y:Value} {ys:List Value}:LtS A s [] (y::ys) true
 |cn {x:Value} {xs:List Value}:LtS A s (x::xs) [] false
 |eq {x y:Value} {xs ys:List Value} {c:Bool}:SeqAt.EqAt A s x y true->LtS A s xs ys c->LtS A s (x::xs) (y::ys) c
 |ne {x y:Value} {xs ys:List Value} {c:Bool}:SeqAt.EqAt A s x y false->(∀(prog:Program) (w:World) (E Q:Value->Shared->Prop),Q (.bool c) s->wpAny (model prog w) A (richCompare .Lt x y) Q E s)->LtS A s (x::xs) (y::ys) c
section
open PySem.SeqAt
open PySem.AutoSeq1 (wpAny_loadPart')
open PySem.MeetsSeq PySem.MeetsSeq2 PySem.MeetsSeq3
theorem zy6(l b:Addr)(items items2:Array Value)(n n2:Nat)(dd dd2:Option Addr)(sl sl2:Array (Option Value))(c:Bool):
  Meets (Builtin.«tuple.__lt__» ⟨[.ref l,.ref b],[]⟩)
   (fun A R s=>s.heap.get? l=some {cls:= .type "tuple",dict:=dd,data:= .seq items n,slots:=sl}/\s.heap.get? b=some {cls:= .type "tuple",dict:=dd2,data:= .seq items2 n2,slots:=sl2}/\
    LtS A.in1 s items.toList items2.toList c/\R (.ok (.ret (.bool c))) s):=
 .of_wp fun prog w A R s h=>by
  obtain⟨hp,g,d,tk,os⟩:=s;obtain⟨hl,hb,hL,h⟩:=h
  have f2:=XO
  wp_walk using Yf hl,Yf hb,wpAny_forIn_list _ (fun rest b s'=>b.1=none/\s'=⟨hp,g,d,tk,os⟩/\∃(vs ws:List Value),rest=vs.zip ws/\
   LtS A.in1 ⟨hp,g,d,tk,os⟩ vs ws c/\vs.length+items2.size=ws.length+items.size/\R (.ok (.ret (.bool c))) ⟨hp,g,d,tk,os⟩) _
  case turn=>
   rintro⟨y,x⟩ rest b s' ⟨hb',rfl,vs,ws,hz,hS,hlen,hR⟩
   cases hS with
   |nn=>rw [X0] at hz;cases hz
   |nc=>rw [X0] at hz;cases hz
   |cn=>rw [XQ] at hz;cases hz
   |eq he hS'=>
    rw [Y7] at hz
    injection hz with hyx hrest
    injection hyx with hy hx
    subst hy hx
    simp only [Z4] at hlen
    refine Zg (he prog w _ _ ?_)
    wp_walk
    exact⟨rfl,rfl,_,_,hrest,hS',by omega,hR⟩
   |ne he hlt=>
    rw [Y7] at hz
    injection hz with hyx hrest
    injection hyx with hy hx
    subst hy hx
    refine Zg (he prog w _ _ ?_)
    have hri:=hlt prog w
    wp_walk using hri
    exact⟨_,rfl,by simpa using hR⟩
  case fin=>
   rintro⟨b1,b2⟩ s' ⟨hb',rfl,vs,ws,hz,hS,hlen,hR⟩
   simp only at hb'
   subst hb'
   have hv:c=decide (items.size<items2.size):=by
    cases hS with
    |nn=>simp only [ZR] at hlen;exact(Zc (by omega)).symm
    |nc=>simp only [ZR,Z4] at hlen;exact(Zl (by omega)).symm
    |cn=>simp only [ZR,Z4] at hlen;exact(Zc (by omega)).symm
    |eq _ _=>rw [Y7] at hz;cases hz
    |ne _ _=>rw [Y7] at hz;cases hz
   rw [hv] at hR
   wp_walk
   exact⟨_,rfl,by simpa [Builtin.Tuple.tupleCompareSizes] using hR⟩
  case h=>
   exact⟨rfl,rfl,items.toList,items2.toList,rfl,hL,by simp;omega,h⟩
end
section
variable{prog:Program}{w:World}{A:Around}{E:Value->Shared->Prop}{s:Shared}
theorem xa6{l b:Addr}{items items2:Array Value}{c:Bool}{Q:Value->Shared->Prop}(hl:IsTup s.heap l items)(hb:IsTup s.heap b items2)(hS:LtS A.in1 s items.toList items2.toList c)
  (hu:A.units<cLine) (h:Q (.bool c) s):wpAny (model prog w) A (compareOp .Lt (.ref l) (.ref b)) Q E s:=by
 obtain⟨⟨cls,dd,data,sl⟩,ho,hc,n,hd⟩:=id hl
 obtain⟨⟨cls2,dd2,data2,sl2⟩,ho2,hc2,n2,hd2⟩:=id hb
 simp only at hc hd hc2 hd2
 subst hc hd hc2 hd2
 exact richCompare_meets_room (op:= .Lt) ⟨_,ho,rfl⟩ ⟨_,ho2,rfl⟩ XE XA (Xw _ _) (zy6 l b items items2 n n2 dd dd2 sl sl2 c)
  ⟨ho,ho2,hS,show Value.bool c≠Value.notImplemented/\Q (.bool c) s from⟨(fun x=>nomatch x),h⟩⟩ hu
end
def zp4:List (List Int)->List (List Int)->Bool
 |[],[]=>false
 |[],_::_=>true
 |_::_,[]=>false
 |x::xs,y::ys=>if x=y then zp4 xs ys else HT.lexLt x y
inductive TI2(s:Shared):List Value->List (List Int)->Prop
 |nil:TI2 s [] []
 |cons {a:Addr} {its:Array Value} {ns:List Int} {vs:List Value} {nss:List (List Int)}:IsTup s.heap a its->IntsAre its.toList ns->TI2 s vs nss->TI2 s (.ref a::vs) (ns::nss)
theorem xZ{h:Heap}:∀{vs:List Value} {ns:List Int},IntsAre vs ns->∃as,ReadsAll h vs (ns.map .int) as
 |_,_,.nil=>⟨_,.nil⟩
 |_,_,.cons i t hs=>by
  obtain⟨as,r⟩:=xZ (h:=h) hs
  exact⟨_,.cons (.int i t) r⟩
theorem zc8{s:Shared}{a:Addr}{its:Array Value}{ns:List Int}(h:IsTup s.heap a its)(hi:IntsAre its.toList ns):∃as,Reads s.heap (.ref a) (.tuple (ns.map .int)) as:=by
 obtain⟨o,e,c,n,d⟩:=h
 obtain⟨as,r⟩:=xZ (h:=s.heap) hi
 exact⟨_,.tuple e c d r⟩
theorem wP:∀ns ms:List Int,PyData.eqvAll (ns.map .int) (ms.map .int)=decide (ns=ms)
 |[],[]=>by simp [PyData.eqvAll]
 |[],_::_=>by simp [PyData.eqvAll]
 |_::_,[]=>by simp [PyData.eqvAll]
 |n::ns,m::ms=>by
  rw [Za,Za,PyData.eqvAll,wP ns ms,PyData.eqv]
  by_cases h:n=m<;>by_cases h2:ns=ms<;>simp [h,h2]
theorem xh8{A:Around}{s:Shared}(hu:A.units+8<cLine):∀{vs ws:List Value} {nss mss:List (List Int)},TI2 s vs nss->TI2 s ws mss->LtS A s vs ws (zp4 nss mss)
 |_,_,_,_,.nil,.nil=> .nn
 |_,_,_,_,.nil,.cons _ _ _=> .nc
 |_,_,_,_,.cons _ _ _,.nil=> .cn
 | _,_,_,_,.cons (ns:=ns) h1 i1 t1,.cons (ns:=ms) h2 i2 t2=>by
  obtain⟨as,r1⟩:=zc8 h1 i1
  obtain⟨bs,r2⟩:=zc8 h2 i2
  have e:=SeqAt.eqAt_reads _ _ A s _ _ as bs r1 r2 (by simp only [PyData.canLay0,canLayAll_ints]) (by simp only [PyData.canLay0,canLayAll_ints]) (by simp only [PyData.depth,depthAll_ints];omega)
  rw [PyData.eqv,wP] at e
  rw [zp4]
  by_cases z:ns=ms
  ·rw [Zl z] at e
   rw [if_pos z]
   exact .eq e (xh8 hu t1 t2)
  ·rw [Zc z] at e
   rw [if_neg z]
   exact .ne e fun prog w E Q q=>HT.lt_tupInts h1 h2 i1 i2 (by omega) q
def D.intss:List D->Option (List (List Int))
 |[]=>some []
 | .tup xs::ds=>(D.ints xs).bind fun ns=>(D.intss ds).map (ns::·)
 |_=>none
theorem zl4{X:Cx}{U:tz9}{pins:tzB}{σ:St}{H:Hp}{s:Shared}(I:Inv X pins σ H s):∀{ds:List D} {vs:List V} {us:List Value} {nss:List (List Int)},Reps X.K U H vs ds []->bN vs us->D.intss ds=some nss->TI2 s us nss
 |[],_,_,_,r,v,e=>by
  cases r;cases v;cases e
  exact .nil
 | d::ds,_,_,nss,r,v,e=>by
  obtain⟨v1,vs1,f,g,rfl,r1,r2,ef⟩:=r.split
  obtain⟨rfl,rfl⟩:=XB.mp ef.symm
  cases v with
  | cons ru rus=>
   cases d with
   |tup xs=>
    obtain⟨ns,e1,e2⟩:=bind_some (show(D.ints xs).bind _=some nss from e)
    obtain⟨mss,e3,rfl⟩:=Zj.mp e2
    obtain⟨a,ws,rfl,h1,s1⟩:=r1.tup_inv
    rw [vT s1 e1] at h1
    cases ru
    obtain⟨its,rv,p,_⟩:=I.tuple h1
    exact .cons p (by simpa using zj3 rv) (zl4 I r2 rus e3)
   |_=>cases e
def zp5:D->D->Option D
 | .tup xs,.tup ys=>(D.intss xs).bind fun ns=>(D.intss ys).map fun ms=> .bl (zp4 ns ms)
 |_,_=>none
theorem xn7{X:Cx}{U:tz9}(hu:X.A.units+64<cLine):OpR X (compareOp .Lt) (POp X.K U zp5):=⟨by
 rintro pins s σ H x y v u Q I rx ry ⟨dx,dy,d,fx,fy,r1,r2,e,q⟩
 unfold zp5 at e
 split at e
 ·obtain⟨ns,e1,e⟩:=bind_some e
  obtain⟨ms,e2,e⟩:=Zj.mp e
  subst e
  obtain⟨a,vs,rfl,h1,s1⟩:=r1.tup_inv
  obtain⟨b,us,rfl,h2,s2⟩:=r2.tup_inv
  cases rx
  cases ry
  obtain⟨its,rv,p1,_⟩:=I.tuple h1
  obtain⟨its2,rv2,p2,_⟩:=I.tuple h2
  refine xa6 p1 p2 (xh8 (by show X.A.units+1+8<cLine;omega) (zl4 I s1 rv e1) (zl4 I s2 rv2 e2)) (by omega) ⟨.bl _,H,I,rfl,q.now (.bl _)⟩
 ·cases e⟩
def xm0(C:Addr)(m:Str)(sp:Sp)(dvs:List V)(E:XK)(ta:TE)(t:TA):TE:=fun σ H Q=>ta σ H fun x H1=>∃a dx fs,x= .ref a/\Rd H1 a (.ins C dx fs)/\fs.lookup m=none/\
 t σ H1 fun vs H2=>sp (x::(vs++dvs)) H2 Q E
section
variable{X:Cx}{U:tz9}{o e:Expr}{es:List Expr}{m qual:Str}{st:Stmt}{ps:List Str}{f:Addr}{fd:FuncData}{k np:Nat}{apos pos p:Pos}{pl:Sem Bool}
theorem yp9{C:Addr}{CX:CXT}{sp:Sp}{E:XK}{ds:List Value}{dvs:List V}{ta:TE}{t:TA}(he:PE X o ta)(c:Cls X.K C)(hm:Meth X.K C m f)(F:FnOk X.prog X.w X.K X.mg X.base CX k f fd ps sp)(hr:Room k X.A)(hb:kP X.K fd ps ds)(hd:bN dvs ds)(hx:nV CX X E)(ha:PA X (e::es) t)
  (hst:StE e es X:=by rfl) (hpl:BkE pos es X:=by rfl)
  (ht:eval (.Call (.Attribute o m apos) (e::es) [] pos) X.env=(do
   let ov<-eval o X.env
   standAt apos.atName
   let (f,first)<-holding [ov] (getMethod ov m pl)
   callWith pos f first (backTo pos (starEach (e::es) X.env)) (backToKw pos (keywordEach [] X.env))):=by rfl):
  PE X (.Call (.Attribute o m apos) (e::es) [] pos) (xm0 C m sp dvs E ta t):=⟨by
 intro pins s σ H Q I h
 refine XD (pl:=pl) (thn (he pins s σ H _ I h) fun u s1 ⟨x,H1,I1,rx,a,dx,fs,ex,ea,l,q⟩=> ?_) ht
 subst ex
 obtain rfl:u=Value.ref a:=rx
 refine zy2 I1 ea c hm l ?_
 refine Yy (first:=[.ref a]) (h₀:=X.base) I.ok.mod.kin hm.kp (thn (ha pos pins s1 σ H1 _ I1 q) fun us s2 ⟨vs,H2,I2,r,q2⟩=>⟨I2.kIn,?_⟩) hst hpl
 exact xM (us:= .ref a::us) (vs:= .ref a::vs) F hr hb hd hx I2 (.cons rfl r) q2⟩
def zh0(C m:Str):D->Option D
 | .obj false C' ns vs=>if (C'=C/\cQ ns m=none) then some (.obj false C' ns vs) else none
 |_=>none
def sJ(C m:Str)(fo:tz2):tz2:=fun ps=>(fo ps).bind (zh0 C m)
theorem zy7(h:zh0 C m x=some d):∃ns vs,x=d/\d= .obj false C ns vs/\cQ ns m=none:=by
 unfold zh0 at h
 split at h
 ·obtain⟨⟨hC,hn⟩,e3⟩:=bL h
  subst hC;cases e3
  exact⟨_,_,rfl,rfl,hn⟩
 ·cases h
theorem yq0{C:Str}{h:tz6}{fo:tz2}{g:tz3}(M:Mn X.K U C m qual st ps f fd)(G:FnOk X.prog X.w X.K X.mg X.base CX0 k f fd ps (SpP np X.K U h))(hr:Room k X.A)(ho:QV X U o fo)(hnp:(e::es).length+1=np)(ha:QVA X U (e::es) g)(hlen:∀ps ds,g ps=some ds->ds.length=(e::es).length)
  (hst:StE e es X:=by rfl) (hpl:BkE pos es X:=by rfl)
  (ht:eval (.Call (.Attribute o m apos) (e::es) [] pos) X.env=(do
   let ov<-eval o X.env
   standAt apos.atName
   let (f,first)<-holding [ov] (getMethod ov m pl)
   callWith pos f first (backTo pos (starEach (e::es) X.env)) (backToKw pos (keywordEach [] X.env))):=by rfl):
  QP X U (.Call (.Attribute o m apos) (e::es) [] pos) (aL h (aA (sJ C m fo) g)):=(yp9 ho M.c M.h G hr M.b .nil xO ha hst hpl ht).imp fun σ H Q hh_=>by
 obtain⟨ps,d,w,e,q⟩:=hh_
 obtain⟨ds,e1,e2⟩:=bind_some e
 obtain⟨x,k1,k2⟩:=bind_some e1
 obtain⟨ds',k3,k4⟩:=bind_some k2
 cases k4
 obtain⟨y,k0,k1⟩:=bind_some k1
 obtain⟨ns,vs,rfl,rfl,k6⟩:=zy7 k1
 refine⟨ps,_,w,k0,fun v H1 fp s1 r1=> ?_⟩
 have r1':=r1
 obtain⟨_,_,_,_,rfl,hl,hn,hs,_⟩:=r1.obj_inv
 subst hn
 refine⟨_,_,_,rfl,hl,rJ k6,ps,ds',w.same s1,k3,fun us H2 fq s2 r2=> ?_⟩
 show SpP np X.K U h (_::(us++[])) H2 Q E0
 rw [Zh]
 exact⟨by rw [Z4,r2.length,hlen ps ds' k3,hnp],_,_,d,.cons (r1'.same s2) r2,e2,q.after (s1.trans s2)⟩
end
def wC(fa:tz2)(f:tz8):tz8:=fun ps=>(fa ps).bind fun c=>match c with
 | .bl true=>f ps
 | .bl false=>some (.bl false,ps)
 |_=>none
section
variable{X:Cx}{U:tz9}{φ:F0}{a b:Expr}{pos:Pos}
theorem yh4{fa:tz2}{f:tz8}(ha:QP X U a fa)(hb:QE X U φ b f):QE X U φ (.BoolOp .And [a,b] pos) (wC fa f):=
 (yd0 ha (yc9 hb)).imp fun σ H Q hh_=>by
  obtain⟨ps,F,d,ps',R,e,q⟩:=hh_
  unfold wC at e
  obtain⟨k,e1,e2⟩:=bind_some e
  obtain⟨c,rfl,e3⟩:=zf8 (x:=f ps) (y:=some (.bl false,ps)) e2
  refine⟨ps,_,R.ws,e1,fun v H1 fv s1 _ _ r1=>⟨c,r1.is_bl,?_⟩⟩
  cases c with
  |true=>
   rw [if_pos rfl] at e3|-
   exact⟨ps,F,d,ps',R.same s1,e3,fun u H2 F2 fu s2 o2 r2=>q u H2 F2 fu ((Stp.same R s1).trans s2) (OwnV.after (Stp.same R s1) o2) r2⟩
  |false=>
   rw [if_neg Z5] at e3|-
   cases e3
   exact q _ H1 F [] (Stp.same R s1) (OwnV.new R (fun _ h=>absurd h (by simp)) Zf) (.bl false)
end
section
open PySem.SeqAt
open PySem.AutoSeq1 (wpAny_loadPart')
open PySem.MeetsSeq PySem.MeetsSeq2 PySem.MeetsSeq3
end
theorem bB{X:Cx}{U:tz9}{φ:F0}(i:Nat){x:Str}{e:Expr}{pos pos':Pos}{f:tz2}(hN:X.N.Nodup)(he:QP X U e f)(hi:X.N[i]? =some x:=by exact rfl)(hx:Loc X.env.scope x:=by first|exact Or.inl rfl|exact Or.inr rfl)(hb:φ.bor i=false:=by exact rfl)(hm:φ.M i=false:=by exact rfl)
  (hs:swapsWith e (some (.Name x pos')) pos.line X.env=pure false:=by exact rfl) (hf:X.fn x=true\/X.env.scope.names.lookup x=some .local:=by first|exact .inl rfl|exact .inr rfl):QS X U φ (.Assign [.Name x pos'] e pos) (aS i (aJ f)):=zk0 i hN hi hx hb hm (QP.e he) hs hf
theorem rK{φ:F0}(k:Nat)(h:φ.bor k=false:=by exact rfl):∀j∈([k]:List Nat),φ.bor j=false:=fun j hj=>by rw [ZA.mp hj];exact h
theorem nd1(k:Nat):([k]:List Nat).Nodup:=by simp
def D.keys:List D->Option (List Key)
 |[]=>some []
 |d::ds=>d.key.bind fun k=>(D.keys ds).map (k::·)
section
variable{K:tz0}{U:tz9}{H:Hp}
theorem zl5:∀{vs:List V} {ds:List D} {fp:List Addr} {ks:List Key},Reps K U H vs ds fp->D.keys ds=some ks->vs=ks.map kV
 |_,_,_,_,.nil,e=>by cases e;rfl
 |_,_,_,_,.cons h hs,e=>by
  obtain⟨k,e1,e2⟩:=bind_some e
  obtain⟨ks,e3,rfl⟩:=Zj.mp e2
  rw [Za,<-zl5 hs e3,vU h e1]
theorem zc9:∀ks:List Key,Reps K U H (ks.map kV) (ks.map zp2) []
 |[]=> .nil
 |k::ks=> .cons (f:=[]) (g:=[]) (zk6 k) (zc9 ks)
def unK:D->D
 | .kt ks=> .tup (ks.map zp2)
 |d=>d
theorem xh9{v:V}{d:D}{fp:List Addr}(r:Rep K U H v d fp):Rep K U H v (unK d) fp:=by
 cases r with
 |kt h=>exact .tup (.inl (.inl h)) (zc9 _)
 |non=>exact .non
 |bl b=>exact .bl b
 |int b=>exact .int b
 |str b=>exact .str b
 |ty b=>exact .ty b
 |tup h hs=>exact .tup h hs
 |con h hs=>exact .con h hs
 |lst h hs=>exact .lst h hs
 |lstF h hs=>exact .lstF h hs
 |dic h e hs=>exact .dic h e hs
 |dicF h e hs=>exact .dicF h e hs
 |obj h e hs=>exact .obj h e hs
 |objF h e hs=>exact .objF h e hs
 |dit h e hs=>exact .dit h e hs
 |ditF h e hs=>exact .ditF h e hs
end
def fKt(g:tz3):tz2:=fun ps=>(g ps).bind fun ds=>if ds.length<=1000 then(D.keys ds).map .kt else none
def fUn(f:tz2):tz2:=fun ps=>(f ps).map unK
section
variable{X:Cx}{U:tz9}{φ:F0}{es:List Expr}{e:Expr}{g:tz3}{f:tz2}{pos:Pos}
theorem zy8{x1}(h:QPA X U es g):QP X U (.Tuple es x1 pos) (fKt g):=
 (ye2 h).imp fun σ H Q hh_=>by
  obtain⟨ps,d,w,e,q⟩:=hh_
  obtain⟨ds,e1,e2⟩:=bind_some e
  obtain⟨hc,e3⟩:=bL e2
  obtain⟨ks,e4,rfl⟩:=Zj.mp e3
  refine⟨ps,ds,w,e1,fun vs H1 fv s1 n1 nd1 r1=>⟨by rw [r1.length];exact xQ hc,fun p hp=> ?_⟩⟩
  exact q _ _ [] (s1.trans (.new hp _)) (fun _ h=>absurd h (by simp)) Zf (.kt (by rw [<-zl5 r1 e4];exact bO))
theorem QV.un(h:QV X U e f):QV X U e (fUn f):=h.imp fun σ H Q hh_=>by
 obtain⟨ps,d,w,e,q⟩:=hh_
 obtain⟨d0,e1,rfl⟩:=Zj.mp e
 exact⟨ps,d0,w,e1,fun v H' fp s r=>q v H' fp s (xh9 r)⟩
def zh1(j:Nat)(f:tz1):tz1:=fun ps=>((ps[j]?).join).bind fun d=>(za5 d).bind fun d'=>f (ps.set j (some d'))
theorem yh5{φ:Fx}{H:Hp}{σ:St}{ps:PSt}{F:Nat->List Addr}{j:Nat}{l b:Addr}{u1 u2:HO}{v:V}{d d':D}(R:RS φ H σ ps F)(hb:φ.bor j=false)(hj:ps[j]? =some (some d))(hv:σ[j]? =some (some v))(ml:l∈F j)(mb:b∈F j)(nl:∀o,H l=some o->tf o=false)(nb:∀o,H b=some o->tf o=false)
  (r:Rep φ.K φ.U (upd (upd H b u1) l u2) v d' []):Stp φ σ H F σ (upd (upd H b u1) l u2) (ps.set j (some d')) (kU F j []):=by
 have oth:∀a,a≠l->a≠b->upd (upd H b u1) l u2 a=H a:=fun a h1 h2=>by rw [aY h1,aY h2]
 have hlt:j<ps.length:=(Z6.mp hj).1
 have sf:∀i a,a∈kU F j [] i->i≠j/\a∈F i:=fun i a h=>by
  unfold kU at h
  by_cases z:i=j
  ·rw [if_pos z] at h;cases h
  ·rw [if_neg z] at h;exact⟨z,h⟩
 refine⟨⟨fun a o h _ hn=> ?_,fun a h=>fI (fI h)⟩,fun i a h=> .inl ⟨i,(sf i a h).2⟩,⟨fun i d0 h=> ?_,fun i a h=> ?_,fun i k a h1 h2=>R.dis i k a (sf i a h1).2 (sf k a h2).2,fun i=> ?_,fun i a h=>R.nb i a (sf i a h).2,fun k a h=> ?_,by rw [List.length_set];exact R.len⟩,fun _ _=>rfl⟩
 ·rw [oth a (fun z=>hn j (z▸ml)) fun z=>hn j (z▸mb)];exact h
 ·by_cases z:i=j
  ·subst z
   rw [Zv hlt] at h
   cases h
   exact⟨v,[],hv,r,fun _=>by unfold kU;rw [if_pos rfl],fun _ _ h=>absurd h (by simp)⟩
  ·rw [Zq (Y6 z)] at h
   obtain⟨v0,fp,h1,h2,h3,h4⟩:=R.rep i d0 h
   have out:∀a∈fp,a≠l/\a≠b:=fun a ha=>by
    by_cases c:φ.bor i=false
    ·have ha':=h3 c▸ha
     exact⟨fun y=>z (R.dis i j a ha' (y▸ml)),fun y=>z (R.dis i j a ha' (y▸mb))⟩
    ·have hB:=h4 (by simpa using c) a ha
     exact⟨fun y=>R.nb j l ml i (y▸hB),fun y=>R.nb j b mb i (y▸hB)⟩
   refine⟨v0,fp,h1,h2.move (fun a o ha ht=> ?_) fun a ha=>oth a (out a ha).1 (out a ha).2,fun c=> ?_,h4⟩
   ·rw [oth a (fun y=>by rw [nl o (y▸ha)] at ht;cases ht) fun y=>by rw [nb o (y▸ha)] at ht;cases ht];exact ha
   ·unfold kU;rw [if_neg z];exact h3 c
 ·obtain⟨z,ha⟩:=sf i a h
  obtain⟨h1,d0,h2⟩:=R.emp i a ha
  exact⟨h1,d0,by rw [Zq (Y6 z)];exact h2⟩
 ·unfold kU
  split
  ·exact Zf
  ·exact R.nd i
 ·intro z
  exact R.bt k a h (fI (fI z))
theorem xa7{j:Nat}{l:List Stmt}{f:tz1}(hb:φ.bor j=false)(h:QSs X U φ l f):QSs X U φ l (zh1 j f):=⟨by
 intro pins s σ H E I hh_
 obtain⟨ps,F,fl,ps',R,e,q⟩:=hh_
 obtain⟨d,e1,e2⟩:=bind_some e
 obtain⟨d',e3,e4⟩:=bind_some e2
 have hj:=join_some e1
 obtain⟨v,fp,hv,rp,hF,_⟩:=R.rep j d hj
 have hF:=hF hb
 subst hF
 have nd:=R.nd j
 unfold za5 at e3
 split at e3
 ·rename_i C ns x ks ds
  obtain⟨⟨hx,hi⟩,e5⟩:=bL e3
  cases e5
  obtain⟨l,dx,fs,g,rfl,hl,hn,hs,eF⟩:=rp.objT_inv
  obtain⟨v1,us,f1,g1,ev,k1,k2,rfl⟩:=hs.split
  obtain⟨v2,rfl,k3⟩:=k2.one_inv
  obtain⟨b,kvs,g2,rfl,hbb,hk,k4,rfl⟩:=k3.dicT_inv
  have z1:=k1.imm hx
  subst z1
  have z2:=k4.imm hi
  subst z2
  rw [ZV] at eF
  have nbl:b≠l:=fun z=>by rw [eF] at nd;exact(Zo.mp nd).1 (z▸Z0)
  obtain⟨ob,I2⟩:=zl2 I hbb
  have hl2:upd H b (.frz ob (.dK kvs)) l=some (.ins (U C) dx fs):=by rw [aY (Y6 nbl)];exact hl
  have mv:∀c o,H c=some o->tf o=true->upd (upd H b (.frz ob (.dK kvs))) l (.frz (PySem.W.instObj (U C) dx) (.ins (U C) dx fs)) c=some o:=fun c o hc ht=>by
   rw [aY (fun z=>by rw [z,hl] at hc;cases hc;cases ht),aY (fun z=>by rw [z,hbb] at hc;cases hc;cases ht)];exact hc
  refine h pins s σ _ E (I2.freeze hl2) (pU (yh5 (l:=l) (b:=b) R hb hj hv (by rw [eF];exact Z0) (by rw [eF];exact Z1 _ Z0) (fun o ho=>by rw [hl] at ho;cases ho;rfl) (fun o ho=>by rw [hbb] at ho;cases ho;rfl) (.objF bO hn ?_)) e4 q)
  rw [ev]
  exact .cons (f:=[]) (g:=[]) (k1.move mv fun _ h=>absurd h (by simp)) (.one (.dicF (o:=ob) (by rw [aY nbl];exact bO) hk (k4.move mv fun _ h=>absurd h (by simp))))
 ·rename_i C ns x ks ds
  obtain⟨⟨hx,hi⟩,e5⟩:=bL e3
  cases e5
  obtain⟨l,dx,fs,g,rfl,hl,hn,hs,eF⟩:=rp.objT_inv
  obtain⟨v1,us,f1,g1,ev,k1,k2,rfl⟩:=hs.split
  obtain⟨v2,rfl,k3⟩:=k2.one_inv
  obtain⟨b,kvs,g2,rfl,hbb,hk,k4,rfl⟩:=k3.ditT_inv
  have z1:=k1.imm hx
  subst z1
  have z2:=k4.imm hi
  subst z2
  rw [ZV] at eF
  have nbl:b≠l:=fun z=>by rw [eF] at nd;exact(Zo.mp nd).1 (z▸Z0)
  obtain⟨ob,I2⟩:=zl3 I hbb
  have hl2:upd H b (.frz ob (.dT kvs)) l=some (.ins (U C) dx fs):=by rw [aY (Y6 nbl)];exact hl
  have mv:∀c o,H c=some o->tf o=true->upd (upd H b (.frz ob (.dT kvs))) l (.frz (PySem.W.instObj (U C) dx) (.ins (U C) dx fs)) c=some o:=fun c o hc ht=>by
   rw [aY (fun z=>by rw [z,hl] at hc;cases hc;cases ht),aY (fun z=>by rw [z,hbb] at hc;cases hc;cases ht)];exact hc
  refine h pins s σ _ E (I2.freeze hl2) (pU (yh5 (l:=l) (b:=b) R hb hj hv (by rw [eF];exact Z0) (by rw [eF];exact Z1 _ Z0) (fun o ho=>by rw [hl] at ho;cases ho;rfl) (fun o ho=>by rw [hbb] at ho;cases ho;rfl) (.objF bO hn ?_)) e4 q)
  rw [ev]
  exact .cons (f:=[]) (g:=[]) (k1.move mv fun _ h=>absurd h (by simp)) (.one (.ditF (o:=ob) (by rw [aY nbl];exact bO) hk (k4.move mv fun _ h=>absurd h (by simp))))
 ·cases e3⟩
end
section
variable{X:Cx}{U:tz9}
def rB:D->tz6
 | .str z,[.str y,.int i]=>some (.bl (Txt.startswith3 z y i))
 |_,_=>none
theorem zy9:MtR X "str.startswith" (PMt X.K U rB):=⟨by
 rintro pins s σ H x vs v us Q I rx r ⟨dx,ds,fx,fp,d,r1,rs,e,q⟩
 unfold rB at e
 split at e
 ·cases e
  obtain⟨w1,w2,f1,f2,rfl,r2,r3⟩:=rs.two_inv
  cases r1
  cases r2
  cases r3
  cases r with
  | cons h1 h2=>cases h2 with
   | cons h3 h4=>cases h4 with
    |nil=>
     obtain⟨t,rfl⟩:=rx
     obtain⟨t1,rfl⟩:=h1
     obtain⟨t2,rfl⟩:=h3
     exact SC.startswith3 ⟨.bl _,H,I.tok _,rfl,q.now (.bl _)⟩
 ·cases e⟩
end
end L2
namespace L3
open PySem PySem.Spec PyProof.Rows L2
def top(i:Nat):Stmt:=PySem.Challenge.pw_linepress_k24_no_earlier_choices.main.body.getD i (.Pass ⟨0,0,0,0⟩)
end L3
namespace My
open PySem PySem.Spec PyProof.Rows L2 L3
variable{P:Program}{w:World}{K:tz0}{mg:tzA}{base:Heap}{U:tz9}
theorem cZ{N ps:List Str}{sc:Scope}(a:sc.kind= .function:=by rfl)(b:sc.isCoroutine=false:=by rfl)(c:sc.isGenerator=false:=by rfl)(d:N.Nodup:=by decide+kernel)(e:N.take ps.length=ps:=by rfl)(f:∀x∈ps,sc.names.lookup x=some .local\/sc.names.lookup x=some .cell:=by decide+kernel)(g:∀y∈sc.names,y.2≠ .free:=by decide+kernel):FnScope N ps sc:=⟨a,b,c,d,e,f,g⟩
inductive Leaf where
 |word (x:Str)|gap (x:Str)|stop (c:Int)|fin
inductive Tk where
 |leaf (l:Leaf)|opn|cls|hng (n:Int)|bck|eit|orr|don
inductive Pc where
 |leaf (l:Leaf)|group (r:List Pc)|hang (n:Int) (r:List Pc)|either (rs:List (List Pc))
mutual
def bS:Pc->List Tk
 | .leaf l=>[.leaf l]
 | .group r=> .opn::(toksR r++[.cls])
 | .hang n r=> .hng n::(toksR r++[.bck])
 | .either rs=> .eit::(toksRows rs++[.don])
def toksR:List Pc->List Tk
 |[]=>[]
 |p::r=>bS p++toksR r
def toksRows:List (List Pc)->List Tk
 |[]=>[]
 |r::rs=>toksR r++toksMore rs
def toksMore:List (List Pc)->List Tk
 |[]=>[]
 |r::rs=> .orr::(toksR r++toksMore rs)
end
theorem mG:∀r s:List Pc,toksR (r++s)=toksR r++toksR s
 |[],s=>rfl
 |p::r,s=>by
  show bS p++toksR (r++s)=(bS p++toksR r)++toksR s
  rw [mG r s,Ze]
theorem yh6(p:Pc):toksR [p]=bS p:=by
 show bS p++[]=bS p
 rw [Zh]
mutual
def dD:Pc->Nat
 | .leaf _=>0
 | .group r=>depR r+1
 | .hang _ r=>depR r+1
 | .either rs=>depRs rs+1
def depR:List Pc->Nat
 |[]=>0
 |p::r=>max (dD p) (depR r)
def depRs:List (List Pc)->Nat
 |[]=>0
 |r::rs=>max (depR r) (depRs rs)
end
theorem uM:∀(r:List Pc) (p:Pc),depR (r++[p])=max (depR r) (dD p)
 |[],p=>by
  exact Nat.max_comm (dD p) 0
 |q::r,p=>by
  show max (dD q) (depR (r++[p]))=max (max (dD q) (depR r)) (dD p)
  rw [uM r p,Nat.max_assoc]
theorem sR:∀(rs:List (List Pc)) (r:List Pc),depRs (rs++[r])=max (depRs rs) (depR r)
 |[],r=>by
  exact Nat.max_comm (depR r) 0
 |q::rs,r=>by
  show max (depR q) (depRs (rs++[r]))=max (max (depR q) (depRs rs)) (depR r)
  rw [sR rs r,Nat.max_assoc]
def wD(c:Nat):Bool:=decide (33<=c)&&decide (c<=126)
def zp6(z:Str):Prop:=1<=z.length/\z.length<=12/\z.cps.toList.all wD=true
def eR:Leaf->Prop
 | .word x=>zp6 x
 | .gap x=>x=""\/x=" "
 | .stop c=>0<=c/\c<=40
 | .fin=>True
end My
namespace My
open PySem PySem.Spec PyProof.Rows L2 L3
variable{P:Program}{w:World}{K:tz0}{mg:tzA}{base:Heap}{U:tz9}
def nX(ns:List Int)(k:Int):Int:=ns.getD (k % (ns.length:Int)).toNat 0
def yX(ns:List Int)(k:Int):Int:=k/(if (ns.length:Int)>1 then(ns.length:Int) else 1)
def xm1(ns:List Int)(k salt:Int):Int:=PySem.Builtin.bitAnd (nX ns k) 2147483647+1009*k*k+7919*salt*salt+12
def wE(ns:List Int)(k salt:Int):Int:=xm1 ns k salt*48271 % 2147483647
def yw2(ns:List Int)(k salt:Int):Int:=wE ns k salt*wE ns k salt % 2147483629
def tR(ns:List Int)(k salt:Int):Int:=PySem.Builtin.bitAnd (nX ns k/2^(31*(salt+128*yX ns k)).toNat+yw2 ns k salt) 2147483647
theorem zr2(ns:List Int)(k salt:Int):0<=tR ns k salt/\tR ns k salt<2147483648:=by
 have e:tR ns k salt=(nX ns k/2^(31*(salt+128*yX ns k)).toNat+yw2 ns k salt) % 2147483648:=PySem.W.kbt_mask _ 31
 rw [e]
 exact⟨Zu _ (by decide),Zr _ (by decide)⟩
def zp7(K:tz0):Sp:=fun vs H Q _=>∃(a:Addr) (ns:List Int) (k:Int),vs=[.ref a,.int k]/\SqL K H a (ns.map V.int)/\Q (.int (nX ns k)) H
def zv8(K:tz0):Sp:=fun vs H Q _=>∃(a:Addr) (ns:List Int) (k salt:Int),vs=[.ref a,.int k,.int salt]/\SqL K H a (ns.map V.int)/\ns.length<=63/\(0<=k/\k<1000000)/\(0<=salt/\salt<1000000)/\Q (.int (tR ns k salt)) H
abbrev kA:Stmt:=top 24
abbrev qI:List Str:=["_law_script","_law_k"]
theorem uN:FnScope ["_law_script","_law_k"] qI (bA kA):=cZ
theorem zl6{n:Nat}{f:Addr}{fd:FuncData}(D:Dn K mg "_law_cell_at" kA ["_law_script","_law_k"] f fd)(aa:mg "len"=none):
  FnOk P w K mg base CX0 (n+1) f fd ["_law_script","_law_k"] (zp7 K):=by
 refine D.F.ok uN (fun vs H Q E h=> ?_) (fun cdv A outer s H vs Q E hr h=> ?_)
 ·obtain⟨a,ns,k,rfl,_⟩:=h
  rfl
 obtain⟨a,ns,k,rfl,hS,q⟩:=h
 refine⟨_,(lH (yv0 (zs1 zw3 (pQ iP rfl aa ZO (fH (pv 0) lY)) gM (bI _)) (vP (uF gM)) zr5)
  (vP (uF (zf3 zI (pv 0) (fM xK (pv 1) (pQ iP rfl aa ZO (fH (pv 0) lY))) (fun _ _=>rfl))))),?_⟩
 have hl:(ns.map V.int).length=ns.length:=Zd _
 refine⟨_,rfl,a,_,rfl,.inl hS,rfl,_,rfl,?_⟩
 refine xq2 (fun c=> ?_) (fun c=> ?_)
 ·have e:(((ns.map V.int).length:Nat):Int)=0:=by simpa using c
  have e':ns=[]:=by
   rw [hl] at e
   exact Xa (by omega)
  subst e'
  exact q
 ·have e:¬(((ns.map V.int).length:Nat):Int)=0:=by simpa using c
  rw [hl] at e
  have hp:(0:Int)<((ns.map V.int).length:Nat):=by rw [hl];omega
  refine⟨_,rfl,_,rfl,_,rfl,a,_,rfl,.inl hS,_,_,rfl,rfl,hp,a,_,_,_,rfl,rfl,hS,?_,q⟩
  rw [hl]
  have h0:=Zu k e
  have h1:=Zr k (show(0:Int)<ns.length by omega)
  have ek:k % (ns.length:Int)=(((k % (ns.length:Int)).toNat:Nat):Int):=by omega
  rw [ek]
  refine zH ?_
  rw [Zi,Zp (by omega)]
  unfold nX
  rw [List.getD_eq_getElem?_getD,Zp (by omega)]
  rfl
abbrev iC:Stmt:=top 25
abbrev fD:List Str:=["_law_script","_law_k","_law_salt"]
theorem iZ:FnScope ["_law_script","_law_k","_law_salt","_law_cell","_law_lap","_law_near"] fD (bA iC):=cZ
theorem zz0{n:Nat}{f f1:Addr}{fd fd1:FuncData}(D:Dn K mg "_law_mixed" iC ["_law_script","_law_k","_law_salt"] f fd)(b5:Dn K mg "_law_cell_at" kA ["_law_script","_law_k"] f1 fd1)
  (cw:FnOk P w K mg base CX0 n f1 fd1 ["_law_script","_law_k"] (zp7 K)) (aa:mg "len"=none) (l4:mg "max"=none):
  FnOk P w K mg base CX0 (n+1) f fd ["_law_script","_law_k","_law_salt"] (zv8 K):=by
 refine D.F.ok iZ (fun vs H Q E h=> ?_) (fun cdv A outer s H vs Q E hr h=> ?_)
 ·obtain⟨a,ns,k,salt,rfl,_⟩:=h
  rfl
 obtain⟨a,ns,k,salt,rfl,hS,h63,⟨hk0,hk1⟩,⟨hs0,hs1⟩,q⟩:=h
 refine⟨_,(lH (pO (i:=3) iZ.nd rfl (.inl rfl) (zx4 b5 cw hr rfl (fH (pv 0) (fH (pv 1) lY))))
  (lH (pO (i:=4) iZ.nd rfl (.inl rfl) (fM zr7 (pv 1) (pQ (yd8 rfl) rfl l4 boot_max (fH gM (fH (pQ iP rfl aa ZO (fH (pv 0) lY)) lY)))))
  (lH (pO (i:=5) iZ.nd rfl (.inl rfl) (fM rQ (fM rQ (fM rQ (fM yd6 (pv 3) gM) (fM lX (fM lX gM (pv 1)) (pv 1))) (fM lX (fM lX gM (pv 2)) (pv 2))) gM))
  (lH (pO (i:=5) iZ.nd rfl (.inl rfl) (fM xK (fM lX (pv 5) gM) gM))
  (lH (pO (i:=5) iZ.nd rfl (.inl rfl) (fM xK (fM lX (pv 5) (pv 5)) gM))
  (vP (uF (fM yd6 (fM rQ (fM xf3 (pv 3) (fM lX gM (fM rQ (pv 2) (fM lX gM (pv 4))))) (pv 5)) gM)))))))),?_⟩
 have hl:(ns.map V.int).length=ns.length:=Zd _
 have hlap:0<=yX ns k:=by unfold yX;exact Xg hk0 (by split<;>omega)
 have hn1:0<=wE ns k salt/\wE ns k salt<2147483647:=⟨Zu _ (by decide),Zr _ (by decide)⟩
 refine⟨_,rfl,_,rfl,a,ns,k,rfl,hS,?_⟩
 refine⟨_,rfl,_,rfl,a,_,rfl,.inl hS,_,_,rfl,_,_,rfl,rfl,?_,?_⟩
 ·rw [hl];constructor
  ·split<;>omega
  ·split<;>omega
 rw [hl]
 refine⟨_,rfl,_,_,rfl,rfl,_,rfl,_,_,rfl,rfl,.inl ⟨by decide,by decide⟩,_,rfl,_,_,rfl,rfl,.inr ⟨by omega,by omega⟩,_,_,rfl,rfl,_,rfl,_,_,rfl,rfl,.inl ⟨by decide,by decide⟩,_,rfl,_,_,rfl,rfl,.inr ⟨by omega,by omega⟩,_,_,rfl,rfl,_,_,rfl,rfl,?_⟩
 refine⟨_,rfl,_,_,rfl,rfl,.inr ⟨by decide,by decide⟩,_,_,rfl,rfl,(by show(0:Int)<2147483647;decide),?_⟩
 refine⟨_,rfl,_,rfl,_,_,rfl,rfl,.inl ⟨by show-(2^64)<wE ns k salt;omega,by show wE ns k salt<2^64;omega⟩,_,_,rfl,rfl,(by show(0:Int)<2147483629;decide),?_⟩
 refine⟨_,rfl,_,rfl,_,rfl,_,_,rfl,rfl,.inl ⟨by decide,by decide⟩,_,_,rfl,rfl,_,_,rfl,rfl,.inl ⟨by decide,by decide⟩,_,_,rfl,rfl,?_,_,rfl,_,_,rfl,rfl,_,_,rfl,rfl,q⟩
 show 0<=31*(salt+128*yX ns k)
 omega
end My
namespace L3
open PySem PySem.Spec PyProof.Rows L2 My
variable{P:Program}{w:World}{K:tz0}{mg:tzA}{base:Heap}{U:tz9}
def qJ(bd:(tz7)):tz1:=
 (cI (aJ (kX (eL "Place" (cO [.im (fC (.bl true)),.im (fC (.int 0))]) bd))))
abbrev jF:Stmt:=top 3
abbrev gR:List Str:=[]
theorem pY:FnScope [] gR (bA jF):=cZ
theorem wX(bg:Dn K mg "first_place" jF gR f fd)
  (cb:Kn K mg U "Place" "Place.__init__" st_Place_init ps_Place_init dk c6) (bv:FnOk P w K mg base CX0 n dk c6 ps_Place_init (SpE 3 K U (bX [true,false,false]) bd)):
  FnOk P w K mg base CX0 ((n+1)+1) f fd gR (SpP 0 K U (gP 0 0 (qJ bd))):=
 dF bg.F pY fun cdv A outer s H E B hr=>
 (aM (bU (QP.e (xY (lS cb bv hr rfl (bP (QP.v lZ) (bP (QP.v aF) dM)) rfl rfl (dW 2))))))
def rC:tz1:=
 (cI (aJ (f2 dIn (f2 dIx (aB 0) (fC (.int 0))) (fC (.tup [(.str "group"),(.str "hang"),(.str "either")])))))
abbrev jO:Stmt:=top 4
abbrev iD:List Str:=["piece"]
theorem qS:FnScope ["piece"] iD (bA jO):=cZ
theorem yA(bp:Dn K mg "holds_rows" jO iD f fd)
  (jd:mg "HOLDERS"=some (.ref fm)) (je:∀H,Rep K U H (.ref fm) (.tup [(.str "group"),(.str "hang"),(.str "either")]) []):
  FnOk P w K mg base CX0 (n+1) f fd iD (SpP 1 K U (gP 1 0 (rC))):=
 dF bp.F qS fun cdv A outer s H E B hr=>
 (aM (bU (QP.e (mB yo2 (bC (aC 0) (QP.v aF)) (QP.v (yy4 (v:= .ref fm) (d:=(.tup [(.str "group"),(.str "hang"),(.str "either")])) rfl jd rfl je)) (by with_unfolding_all rfl)))))
def oT:tz1:=
 (cI (aJ (fOr (f2 dEq (f2 dIx (aB 0) (fC (.int 0))) (fC (.str "either"))) (vC (f2 dEq (f2 dIx (aB 0) (fC (.int 0))) (fC (.str "group"))) (aR (cX "Place" "broken" (aB 1)))))))
abbrev iM:Stmt:=top 5
abbrev gH:List Str:=["piece","place"]
theorem oR:FnScope ["piece","place"] gH (bA iM):=cZ
theorem wJ(a6:Dn K mg "takes_choice" iM gH f fd)
  (ao:Cls K (U "Place"))
  (au:cY K (U "Place") "broken"):
  FnOk P w K mg base CX0 (n+1) f fd gH (SpP 2 K U (gP 2 0 (oT))):=
 dF a6.F oR fun cdv A outer s H E B hr=>
 (aM (bU (QP.e (yv4 (mB (eY (Room.units hr)) (bC (aC 0) (QP.v aF)) (QP.v bJ) (bI _)) (zj5 (xh1 (mB (eY (Room.units hr)) (bC (aC 0) (QP.v aF)) (QP.v bJ) (bI _)) (zj5 (QV.p (dY (C:="Place") ao au (aC 1))))))))))
def kB(bd:(tz7)):tz1:=
 (aV (aS 2 (aJ (aR (f2 dIx (aB 0) (fC (.int 0))))))
 (aV (fIf (aX (fB (f2 dEq (aB 2) (fC (.str "hang")))))
  (cI (aJ (cE (aA (aT (aA (aR (f2 dIx (aB 0) (fC (.int 2)))) (aA (kX (eL "Place" (cO [.im (cX "Place" "broken" (aB 1)),.im (f2 cA (cX "Place" "margin" (aB 1)) (f2 dIx (aB 0) (fC (.int 1))))]) bd)) aD))) aD))))
  cF)
 (aV (fIf (aX (fB (f2 dEq (aB 2) (fC (.str "either")))))
  (cI (aJ (zg6 [none,some 1] (gV (f2 dIx (aB 0) (fC (.int 1)))) za4 (aT (aA (aR (aB 0)) (aA (aR (aB 1)) aD))))))
  cF)
 (aV (aS 3 (aJ (aT (aA (aR (f2 dIx (aB 0) (fC (.int 1)))) (aA (kX (eL "Place" (cO [.im (fC (.bl false)),.im (cX "Place" "margin" (aB 1))]) bd)) aD)))))
 (aV (fIf (aX (fT (cX "Place" "broken" (aB 1))))
  (cI (aJ (cE (aA (aR (aB 3)) (aA (aT (aA (aR (f2 dIx (aB 0) (fC (.int 1)))) (aA (aR (aB 1)) aD))) aD)))))
  cF)
 (cI (aJ (cE (aA (aR (aB 3)) aD)))))))))
abbrev nY:Stmt:=top 6
abbrev nZ:List Str:=["piece","place"]
theorem qT:FnScope ["piece","place","kind","on_one_line"] nZ (bA nY):=cZ
theorem yh7(ee:Dn K mg "ways" nY nZ f fd)
  (cb:Kn K mg U "Place" "Place.__init__" st_Place_init ps_Place_init dk c6) (bv:FnOk P w K mg base CX0 n dk c6 ps_Place_init (SpE 3 K U (bX [true,false,false]) bd))
  (ao:Cls K (U "Place"))
  (au:cY K (U "Place") "broken")
  (bj:cY K (U "Place") "margin"):
  FnOk P w K mg base CX0 ((n+1)+1) f fd nZ (SpP 2 K U (gP 2 2 (kB bd))):=
 dF ee.F qT fun cdv A outer s H E B hr=>
 (aO (bB 2 qT.nd (QV.p (bC (aC 0) (QP.v aF))))
 (aO (cG (QT.e (bM (eY (Room.units hr)) (aC 2) (QP.v bJ) (bI _)))
  (aM (bU (QP.e (dL (aH (bT (aH (QV.p (bC (aC 0) (QP.v aF))) (aH (xY (lS cb bv hr rfl (bP (dY (C:="Place") ao au (aC 1)) (bP (QP.v (bE eK (dY (C:="Place") ao bj (aC 1)) (bC (aC 0) (QP.v aF)))) dM)) rfl rfl (dW 2))) aU))) aU)))))
  cK)
 (aO (cG (QT.e (bM (eY (Room.units hr)) (aC 2) (QP.v bJ) (bI _)))
  (aM (bU (QP.e (yz1 (sc:=bA nY) (NX:=["piece","place","kind","on_one_line"]) (N:=["row","place"]) (pick:=[none,some 1]) ⟨rfl,by decide+kernel,by decide+kernel,by decide+kernel,by decide+kernel,by decide,rfl⟩ rfl rfl rfl (xh5 (bC (aC 0) (QP.v aF))) (fun _ _ _ _=>(kK (i:=0) (show(["row","place"]:List Str).Nodup by decide) rfl (by first|exact Or.inl rfl|exact Or.inr rfl))) (fun _ _ _ _=>yz0) (fun _ _ _ _=>(bT (aH (QV.p (aC 0)) (aH (QV.p (aC 1)) aU))))))))
  cK)
 (aO (bB 3 qT.nd (bT (aH (QV.p (bC (aC 0) (QP.v aF))) (aH (xY (lS cb bv hr rfl (bP (QP.v lZ) (bP (dY (C:="Place") ao bj (aC 1)) dM)) rfl rfl (dW 2))) aU))))
 (aO (cG (QT.e (gG (dY (C:="Place") ao au (aC 1))))
  (aM (bU (QP.e (dL (aH (QV.p (aC 3)) (aH (bT (aH (QV.p (bC (aC 0) (QP.v aF))) (aH (QV.p (aC 1)) aU))) aU))))))
  cK)
 (aM (bU (QP.e (dL (aH (QV.p (aC 3)) aU))))))))))
def uC:tz1:=
 (cI (aJ (f2 cA (fC (.str "\n")) (f2 gO (fC (.str " ")) (aB 0)))))
abbrev lE:Stmt:=top 7
abbrev jK:List Str:=["blanks"]
theorem tY:FnScope ["blanks"] jK (bA lE):=cZ
theorem ze8(bw:Dn K mg "new_line" lE jK f fd)
     :
  FnOk P w K mg base CX0 (n+1) f fd jK (SpP 1 K U (gP 1 0 (uC))):=
 dF bw.F tY fun cdv A outer s H E B hr=>
 (aM (bU (QP.e (bE eK (QP.v bJ) (QP.v (bE sO (QP.v bJ) (aC 0)))))))
def mS(dm:(tz6)):tz1:=
 (aV (aS 3 (aJ (aR (f2 dIx (aB 0) (fC (.int 0))))))
 (aV (fIf (aX (fB (f2 dEq (aB 3) (fC (.str "word")))))
  (cI (aJ (aR (f2 dIx (aB 0) (fC (.int 1))))))
  cF)
 (aV (fIf (aX (bV (fB (f2 dEq (aB 3) (fC (.str "gap")))) (jC (fT (cX "Place" "broken" (aB 1))))))
  (cI (aJ (aR (f2 dIx (aB 0) (fC (.int 1))))))
  cF)
 (aV (fIf (aX (bV (fB (f2 dEq (aB 3) (fC (.str "stop")))) (fB (f2 dLe (aB 2) (f2 dIx (aB 0) (fC (.int 1)))))))
  (cI (aJ (f2 gO (fC (.str " ")) (f2 jY (f2 dIx (aB 0) (fC (.int 1))) (aB 2)))))
  cF)
 (aV (fIf (aX (jC (fT (cX "Place" "broken" (aB 1)))))
  (cI (aJ (fC .non)))
  cF)
 (aV (fIf (aX (fB (f2 dEq (aB 3) (fC (.str "stop")))))
  (cI (aJ (aL dm (aA (f2 dIx (aB 0) (fC (.int 1))) aD))))
  cF)
 (cI (aJ (aL dm (aA (cX "Place" "margin" (aB 1)) aD))))))))))
abbrev mT:Stmt:=top 8
abbrev kC:List Str:=["piece","place","column"]
theorem pZ:FnScope ["piece","place","column","kind"] kC (bA mT):=cZ
theorem zl7(cc:Dn K mg "writing" mT kC f fd)
  (bw:Dn K mg "new_line" lE jK jf ja) (dq:FnOk P w K mg base CX0 n jf ja jK (SpP 1 K U dm))
  (ao:Cls K (U "Place"))
  (au:cY K (U "Place") "broken")
  (bj:cY K (U "Place") "margin"):
  FnOk P w K mg base CX0 (n+1) f fd kC (SpP 3 K U (gP 3 1 (mS dm))):=
 dF cc.F pZ fun cdv A outer s H E B hr=>
 (aO (bB 3 pZ.nd (QV.p (bC (aC 0) (QP.v aF))))
 (aO (cG (QT.e (bM (eY (Room.units hr)) (aC 3) (QP.v bJ) (bI _)))
  (aM (bU (QP.e (QV.p (bC (aC 0) (QP.v aF))))))
  cK)
 (aO (cG (QT.e (iJ (eG (bM (eY (Room.units hr)) (aC 3) (QP.v bJ) (bI _)) (eO (pT (gG (dY (C:="Place") ao au (aC 1))))))))
  (aM (bU (QP.e (QV.p (bC (aC 0) (QP.v aF))))))
  cK)
 (aO (cG (QT.e (iJ (eG (bM (eY (Room.units hr)) (aC 3) (QP.v bJ) (bI _)) (eO (bM zx9 (aC 2) (bC (aC 0) (QP.v aF)) (bI _))))))
  (aM (bU (QP.e (bE sO (QP.v bJ) (QP.v (bE qO (bC (aC 0) (QP.v aF)) (aC 2)))))))
  cK)
 (aO (cG (QT.e (pT (gG (dY (C:="Place") ao au (aC 1)))))
  (aM (bU (QP.e kZ)))
  cK)
 (aO (cG (QT.e (bM (eY (Room.units hr)) (aC 3) (QP.v bJ) (bI _)))
  (aM (bU (QP.e (dG bw dq hr rfl rfl (aG (bC (aC 0) (QP.v aF)) aW) (aP cD)))))
  cK)
 (aM (bU (QP.e (dG bw dq hr rfl rfl (aG (dY (C:="Place") ao bj (aC 1)) aW) (aP cD)))))))))))
def nG:tz1:=
 (cI (aJ (fMt nK (aB 0) (aA (fC (.str "\n")) aD))))
abbrev kR:Stmt:=top 9
abbrev iR:List Str:=["wrote"]
theorem rW:FnScope ["wrote"] iR (bA kR):=cZ
theorem zS(b0:Dn K mg "ends_line" kR iR f fd)
     :
  FnOk P w K mg base CX0 (n+1) f fd iR (SpP 1 K U (gP 1 0 (nG))):=
 dF b0.F rW fun cdv A outer s H E B hr=>
 (aM (bU (QP.e (zf9 Xi Xj zl0 (aC 0) (aG (QP.v bJ) aW)))))
def fW(gb:(tz6)):tz1:=
 (aV (fIf (aX (fT (aL gb (aA (aB 1) aD))))
  (cI (aJ (f2 jY (aL cM (aA (aB 1) aD)) (fC (.int 1)))))
  cF)
 (cI (aJ (f2 cA (aB 0) (aL cM (aA (aB 1) aD))))))
abbrev iE:Stmt:=top 10
abbrev fX:List Str:=["column","wrote"]
theorem nS:FnScope ["column","wrote"] fX (bA iE):=cZ
theorem uO(ax:Dn K mg "column_behind" iE fX f fd)
  (b0:Dn K mg "ends_line" kR iR jb iq) (gc:FnOk P w K mg base CX0 n jb iq iR (SpP 1 K U gb))
  (aa:mg "len"=none):
  FnOk P w K mg base CX0 (n+1) f fd fX (SpP 2 K U (gP 2 0 (fW gb))):=
 dF ax.F nS fun cdv A outer s H E B hr=>
 (aO (cG (QT.e (gG (QP.v (dG b0 gc hr rfl rfl (aG (aC 1) aW) (aP cD)))))
  (aM (bU (QP.e (bE qO (QP.v (cS gA rfl aa ZO (aG (aC 1) aW))) (QP.v aF)))))
  cK)
 (aM (bU (QP.e (bE eK (aC 0) (QP.v (cS gA rfl aa ZO (aG (aC 1) aW))))))))
def qK(af:(tz7))(ag:(tz7)):tz1:=
 (aV (aS 2 (aJ (eL "Front" (cO [.im (cX "Front" "steps" (aB 0))]) af)))
 (aV (fS 3 (sI (aR (cX "Front" "best" (aB 0))))
  (aV (aS 4 (aJ (aR (f2 jE (cX "Front" "best" (aB 0)) (aB 3)))))
 (cU (dO 2 bR (cO [.im (aB 3),.im (aT (aA (aR (f2 dIx (aB 4) (fC (.int 0)))) (aA (f2 cA (f2 dIx (aB 4) (fC (.int 1))) (aT (aA (aR (aB 1)) aD))) aD)))]) (iB "Front" "add" ag)))))
 (qY 2)))
abbrev jG:Stmt:=top 13
abbrev gS:List Str:=["front","number"]
theorem gN:FnScope ["front","number","chosen","state","way"] gS (bA jG):=cZ
theorem wY(bh:Dn K mg "with_choice" jG gS f fd)
  (a7:Kn K mg U "Front" "Front.__init__" st_Front_init ps_Front_init be a0) (am:FnOk P w K mg base CX0 n be a0 ps_Front_init (SpE 2 K U (bX [true,false]) af))
  (ah:Mn K U "Front" "add" "Front.add" st_Front_add ps_Front_add bn bf) (aq:FnOk P w K mg base CX0 (n+1) bn bf ps_Front_add (SpE 3 K U (bX [true,false,false]) ag))
  (ac:Cls K (U "Front"))
  (aj:cY K (U "Front") "best")
  (a8:cY K (U "Front") "steps"):
  FnOk P w K mg base CX0 ((n+1)+1) f fd gS (SpP 2 K U (gP 2 3 (qK af ag))):=
 dF bh.F gN fun cdv A outer s H E B hr=>
 (aO (bB 2 gN.nd (lS a7 am hr rfl (bP (dY (C:="Front") ac a8 (aC 0)) dM) rfl rfl (dW 1)))
 (aO (mE 3 ZH rfl gN.nd rfl (.inl rfl) rfl rfl (zQ (QV.p (dY (C:="Front") ac aj (aC 0))))
  (aO (bB 4 gN.nd (QV.p (rT (qM hr) (dY (C:="Front") ac aj (aC 0)) (aC 3))))
 (aM (gB (rV ah aq hr rfl (cH 2) (bP (aC 3) (bP (QP.v (bT (aH (QV.p (bC (aC 4) (QP.v aF))) (aH (bE eK (bC (aC 4) (QP.v aF)) (QP.v (bT (aH (QV.p (aC 1)) aU)))) aU)))) dM)) rfl rfl (dW 2))))))
 (aM (pI 2 rfl))))
def oU(af:(tz7))(bx:(tz6))(ag:(tz7)):tz1:=
 (aV (aS 3 (aJ (eL "Front" (cO [.im (cX "Front" "steps" (aB 0))]) af)))
 (aV (fS 4 (sI (aR (cX "Front" "best" (aB 0))))
  (aV (aS 5 (aJ (aR (f2 jE (cX "Front" "best" (aB 0)) (aB 4)))))
 (aV (aS 6 (aJ (aL bx (aA (sJ "AlongText" "state_behind" (cX "Front" "steps" (aB 0))) (aA (aB 4) (aA (f2 dIx (aB 5) (fC (.int 0))) (aA (aB 1) (aA (aB 2) aD))))))))
 (fIf (aX (fB (f2 zp0 (aB 6) (fC .non))))
  (cU (dO 3 bR (cO [.im (f2 dIx (aB 6) (fC (.int 0))),.im (aT (aA (aR (f2 dIx (aB 6) (fC (.int 1)))) (aA (aR (f2 dIx (aB 5) (fC (.int 1)))) aD)))]) (iB "Front" "add" ag)))
  cF))))
 (qY 3)))
abbrev iN:Stmt:=top 14
abbrev gI:List Str:=["front","piece","place"]
theorem fE:FnScope ["front","piece","place","behind","state","way","reached"] gI (bA iN):=cZ
theorem wK(a9:Dn K mg "behind_plain" iN gI f fd)
  (a7:Kn K mg U "Front" "Front.__init__" st_Front_init ps_Front_init be a0) (am:FnOk P w K mg base CX0 n be a0 ps_Front_init (SpE 2 K U (bX [true,false]) af))
  (ak:Mn K U "AlongText" "state_behind" "AlongText.state_behind" st_AlongText_state_behind ps_AlongText_state_behind ck ci) (bz:FnOk P w K mg base CX0 (n+1) ck ci ps_AlongText_state_behind (SpP 5 K U bx))
  (ah:Mn K U "Front" "add" "Front.add" st_Front_add ps_Front_add bn bf) (aq:FnOk P w K mg base CX0 (n+1) bn bf ps_Front_add (SpE 3 K U (bX [true,false,false]) ag))
  (ac:Cls K (U "Front"))
  (aj:cY K (U "Front") "best")
  (a8:cY K (U "Front") "steps"):
  FnOk P w K mg base CX0 ((n+1)+1) f fd gI (SpP 3 K U (gP 3 4 (oU af bx ag))):=
 dF a9.F fE fun cdv A outer s H E B hr=>
 (aO (bB 3 fE.nd (lS a7 am hr rfl (bP (dY (C:="Front") ac a8 (aC 0)) dM) rfl rfl (dW 1)))
 (aO (mE 4 ZH rfl fE.nd rfl (.inl rfl) rfl rfl (zQ (QV.p (dY (C:="Front") ac aj (aC 0))))
  (aO (bB 5 fE.nd (QV.p (rT (qM hr) (dY (C:="Front") ac aj (aC 0)) (aC 4))))
 (aO (bB 6 fE.nd (yq0 ak bz hr (dY (C:="Front") ac a8 (aC 0)) rfl (aG (aC 4) (aG (bC (aC 5) (QP.v aF)) (aG (aC 1) (aG (aC 2) aW)))) (aP (aP (aP (aP cD))))))
 (aM (cG (QT.e (bM yy7 (aC 6) (QP.v kZ) (bI _)))
  (aM (gB (rV ah aq hr rfl (cH 3) (bP (bC (aC 6) (QP.v aF)) (bP (QP.v (bT (aH (QV.p (bC (aC 6) (QP.v aF))) (aH (QV.p (bC (aC 5) (QP.v aF))) aU)))) dM)) rfl rfl (dW 2))))
  cK)))))
 (aM (pI 3 rfl))))
def oA(af:(tz7))(j6:(tz6))(c7:(tz6))(dt:(tz6))(du:(tz7))(ba:(tz6)):tz1:=
 (aV (aS 3 (aJ (eL "Front" (cO [.im (cX "Front" "steps" (aB 0))]) af)))
 (aV (zg8 [4,5] (zg9 (aL j6 (aA (aB 1) (aA (aB 2) aD))))
  (aV (aS 6 (aJ (aR (aB 0))))
 (aV (fIf (aX (fT (aL c7 (aA (aB 1) (aA (aB 2) aD)))))
  (aS 6 (aJ (nM (aL dt (aA (aB 0) (aA (aB 4) aD))))))
  cF)
 (cU (dO 3 bR (cO [.im (aL ba (aA (aB 6) (aA (f2 dIx (aB 5) (fC (.int 0))) (aA (f2 dIx (aB 5) (fC (.int 1))) aD))))]) (iB "Front" "add_all" du))))))
 (qY 3)))
abbrev iF:Stmt:=top 15
abbrev fY:List Str:=["front","piece","place"]
theorem dU:FnScope ["front","piece","place","behind","number","way","chosen"] fY (bA iF):=cZ
theorem uP(ay:Dn K mg "behind_holder" iF fY f fd)
  (a7:Kn K mg U "Front" "Front.__init__" st_Front_init ps_Front_init be a0) (am:FnOk P w K mg base CX0 n be a0 ps_Front_init (SpE 2 K U (bX [true,false]) af))
  (ee:Dn K mg "ways" nY nZ lh kx) (j7:FnOk P w K mg base CX0 (n+1) lh kx nZ (SpP 2 K U j6))
  (a6:Dn K mg "takes_choice" iM gH gq gd) (c8:FnOk P w K mg base CX0 (n+1) gq gd gH (SpP 2 K U c7))
  (bh:Dn K mg "with_choice" jG gS g6 gs) (dw:FnOk P w K mg base CX0 (n+1) g6 gs gS (SpP 2 K U dt))
  (bi:Mn K U "Front" "add_all" "Front.add_all" st_Front_add_all ps_Front_add_all g7 gt) (d6:FnOk P w K mg base CX0 (n+1) g7 gt ps_Front_add_all (SpE 2 K U (bX [true,false]) du))
  (ar:Dn K mg "behind_row" st_p_behind_row ps_p_behind_row cm cj) (b6:FnOk P w K mg base CX0 (n+1) cm cj ps_p_behind_row (SpP 3 K U ba))
  (ac:Cls K (U "Front"))
  (a8:cY K (U "Front") "steps")
  (ie:mg "enumerate"=none):
  FnOk P w K mg base CX0 ((n+1)+1) f fd fY (SpP 3 K U (gP 3 4 (oA af j6 c7 dt du ba))):=
 dF ay.F dU fun cdv A outer s H E B hr=>
 (aO (bB 3 dU.nd (lS a7 am hr rfl (bP (dY (C:="Front") ac a8 (aC 0)) dM) rfl rfl (dW 1)))
 (aO (xa5 [4,5] ZH rfl rfl ie (dG ee j7 hr rfl rfl (aG (aC 1) (aG (aC 2) aW)) (aP (aP cD))) (mZ (kK (i:=4) dU.nd rfl (.inl rfl)) (mZ (kK (i:=5) dU.nd rfl (.inl rfl)) zr6)) (fun j hj=>by simp only [Z8,ZK,YF] at hj;rcases hj with rfl|rfl<;>exact⟨rfl,rfl⟩)
  (aO (bB 6 dU.nd (QV.p (aC 0)))
 (aO (cG (QT.e (gG (QP.v (dG a6 c8 hr rfl rfl (aG (aC 1) (aG (aC 2) aW)) (aP (aP cD))))))
  (aM (bB 6 dU.nd (zR (dG bh dw hr rfl rfl (aG (aC 0) (aG (aC 4) aW)) (aP (aP cD))))))
  cK)
 (aM (gB (rV bi d6 hr rfl (cH 3) (bP (QP.v (dG ar b6 hr rfl rfl (aG (aC 6) (aG (bC (aC 5) (QP.v aF)) (aG (bC (aC 5) (QP.v aF)) aW))) (aP (aP (aP cD))))) dM) rfl rfl (dW 1)))))))
 (aM (pI 3 rfl))))
def mU(eh:(tz6))(cp:(tz6))(c9:(tz6)):tz1:=
 (aV (aS 3 (aJ (aR (aB 0))))
 (aV (fS 4 (gV (aB 1))
  (fIf (aX (fT (aL eh (aA (aB 4) aD))))
  (aS 3 (aJ (nM (aL cp (aA (aB 3) (aA (aB 4) (aA (aB 2) aD)))))))
  (aS 3 (aJ (nM (aL c9 (aA (aB 3) (aA (aB 4) (aA (aB 2) aD)))))))))
 (qY 3)))
abbrev st_p_behind_row:Stmt:=top 16
abbrev ps_p_behind_row:List Str:=["front","row","place"]
theorem gC:FnScope ["front","row","place","behind","piece"] ps_p_behind_row (bA st_p_behind_row):=cZ
theorem yB(ar:Dn K mg "behind_row" st_p_behind_row ps_p_behind_row f fd)
  (bp:Dn K mg "holds_rows" jO iD ir g8) (ej:FnOk P w K mg base CX0 n ir g8 iD (SpP 1 K U eh))
  (ay:Dn K mg "behind_holder" iF fY ge f7) (jw:FnOk P w K mg base CX0 n ge f7 fY (SpP 3 K U cp))
  (a9:Dn K mg "behind_plain" iN gI gu gf) (da:FnOk P w K mg base CX0 n gu gf gI (SpP 3 K U c9)):
  FnOk P w K mg base CX0 (n+1) f fd ps_p_behind_row (SpP 3 K U (gP 3 2 (mU eh cp c9))):=
 dF ar.F gC fun cdv A outer s H E B hr=>
 (aO (bB 3 gC.nd (QV.p (aC 0)))
 (aO (zs9 4 1 ZH rfl gC.nd rfl (.inl rfl) rfl rfl rfl
  (aM (cG (QT.e (gG (QP.v (dG bp ej hr rfl rfl (aG (aC 4) aW) (aP cD)))))
  (aM (bB 3 gC.nd (zR (dG ay jw hr rfl rfl (aG (aC 3) (aG (aC 4) (aG (aC 2) aW))) (aP (aP (aP cD)))))))
  (aM (bB 3 gC.nd (zR (dG a9 da hr rfl rfl (aG (aC 3) (aG (aC 4) (aG (aC 2) aW))) (aP (aP (aP cD))))))))))
 (aM (pI 3 rfl))))
def oB(ba:(tz6))(d7:(tz6)):tz1:=
 (cI (aJ (aL ba (aA (aB 0) (aA (aB 1) (aA (aL d7 aD) aD))))))
abbrev iG:Stmt:=top 17
abbrev fZ:List Str:=["front","pieces"]
theorem nT:FnScope ["front","pieces"] fZ (bA iG):=cZ
theorem uQ(az:Dn K mg "behind_pieces" iG fZ f fd)
  (ar:Dn K mg "behind_row" st_p_behind_row ps_p_behind_row cm cj) (b6:FnOk P w K mg base CX0 n cm cj ps_p_behind_row (SpP 3 K U ba))
  (bg:Dn K mg "first_place" jF gR g9 gv) (d8:FnOk P w K mg base CX0 n g9 gv gR (SpP 0 K U d7)):
  FnOk P w K mg base CX0 (n+1) f fd fZ (SpP 2 K U (gP 2 0 (oB ba d7))):=
 dF az.F nT fun cdv A outer s H E B hr=>
 (aM (bU (QP.e (dG ar b6 hr rfl rfl (aG (aC 0) (aG (aC 1) (aG (QP.v (xh6 bg d8 hr rfl)) aW))) (aP (aP (aP cD)))))))
def uD:tz1:=
 (cI (aJ (fMt yU (aB 0) (aA (fC (.str "\n")) aD))))
abbrev lF:Stmt:=top 19
abbrev jL:List Str:=["text"]
theorem tZ:FnScope ["text"] jL (bA lF):=cZ
theorem ze9(b7:Dn K mg "lines_of" lF jL f fd)
     :
  FnOk P w K mg base CX0 (n+1) f fd jL (SpP 1 K U (gP 1 0 (uD))):=
 dF b7.F tZ fun cdv A outer s H E B hr=>
 (aM (bU (QP.e (zf9 PySem.F.slot_str_split PySem.F.type_str_split yy8 (aC 0) (aG (QP.v bJ) aW)))))
def rD(af:(tz7))(db:(tz7))(ag:(tz7))(cq:(tz6))(gw:(tz6)):tz1:=
 (aV (aS 2 (aJ (eL "Front" (cO [.im (kX (eL "AlongText" (cO [.im (aB 1)]) db))]) af)))
 (aV (cU (dO 2 bR (cO [.im (fKt (aA (fC (.int 0)) (aA (fC (.int 0)) aD))),.im (aT (aA (aT aD) (aA (aT aD) aD)))]) (iB "Front" "add" ag)))
 (zh1 2 (aV (aS 3 (aJ (aR (cX "Front" "best" (aL cq (aA (aB 2) (aA (aB 0) aD)))))))
 (aV (aS 4 (aJ (fKt (aA (aL cM (aA (aB 1) aD)) (aA (aL cM (aA (f2 dIx (aL gw (aA (aB 1) aD)) (eN (fC (.int 1)))) aD)) aD)))))
 (aV (fIf (aX (fB (f2 gZ (aB 4) (aB 3))))
  (cI (aJ (fC .non)))
  cF)
 (cI (aJ (aR (f2 dIx (f2 jE (aB 3) (aB 4)) (fC (.int 1))))))))))))
abbrev jP:Stmt:=top 22
abbrev iH:List Str:=["row","text"]
theorem hV:FnScope ["row","text","front","best","last_state"] iH (bA jP):=cZ
theorem yC(bq:Dn K mg "choices_of" jP iH f fd)
  (a7:Kn K mg U "Front" "Front.__init__" st_Front_init ps_Front_init be a0) (am:FnOk P w K mg base CX0 n be a0 ps_Front_init (SpE 2 K U (bX [true,false]) af))
  (ce:Kn K mg U "AlongText" "AlongText.__init__" st_AlongText_init ps_AlongText_init gx gh) (dc:FnOk P w K mg base CX0 n gx gh ps_AlongText_init (SpE 2 K U (bX [true,false]) db))
  (ah:Mn K U "Front" "add" "Front.add" st_Front_add ps_Front_add bn bf) (aq:FnOk P w K mg base CX0 (n+1) bn bf ps_Front_add (SpE 3 K U (bX [true,false,false]) ag))
  (az:Dn K mg "behind_pieces" iG fZ gi f8) (cr:FnOk P w K mg base CX0 (n+1) gi f8 fZ (SpP 2 K U cq))
  (b7:Dn K mg "lines_of" lF jL jg jc) (gy:FnOk P w K mg base CX0 (n+1) jg jc jL (SpP 1 K U gw))
  (ac:Cls K (U "Front"))
  (aj:cY K (U "Front") "best")
  (aa:mg "len"=none):
  FnOk P w K mg base CX0 ((n+1)+1) f fd iH (SpP 2 K U (gP 2 3 (rD af db ag cq gw))):=
 dF bq.F hV fun cdv A outer s H E B hr=>
 (aO (bB 2 hV.nd (lS a7 am hr rfl (bP (QP.v (xY (lS ce dc hr rfl (bP (aC 1) dM) rfl rfl (dW 1)))) dM) rfl rfl (dW 1)))
 (aO (gB (rV ah aq hr rfl (cH 2) (bP (QP.v (zy8 (aH aF (aH aF aU)))) (bP (QP.v (bT (aH (bT aU) (aH (bT aU) aU)))) dM)) rfl rfl (dW 2)))
 (xa7 (j:=2) rfl (aO (bB 3 hV.nd (QV.p (dY (C:="Front") ac aj (QP.v (dG az cr hr rfl rfl (aG (aC 2) (aG (aC 0) aW)) (aP (aP cD)))))))
 (aO (bB 4 hV.nd (zy8 (aH (cS gA rfl aa ZO (aG (aC 1) aW)) (aH (cS gA rfl aa ZO (aG (QP.v (qP (dG b7 gy hr rfl rfl (aG (aC 1) aW) (aP cD)) (QP.v (mD (QP.v aF))))) aW)) aU))))
 (aO (cG (QT.e (zc5 (qM hr) (aC 4) (aC 3)))
  (aM (bU (QP.e kZ)))
  cK)
 (aM (bU (QP.e (QV.p (bC (rT (qM hr) (aC 3) (aC 4)) (QP.v aF))))))))))))
def vG:tz1:=
 (aV (aS 1 (aJ (fC (.str "abcdefghijklmnopqrstuvwxyzABCDEFGHIJKLMNOPQRSTUVWXYZ0123456789"))))
 (aV (aS 1 (aJ (f2 cA (aB 1) (fC (.str "!\"#$&'()*+,-./:;<=>?\x40[\\]^_`{|}~")))))
 (aV (aS 2 (aJ (f2 dIx (cE (fKs [.int 1,.int 2,.int 3,.int 4,.int 5,.int 6,.int 7,.int 8,.int 10,.int 11,.int 9,.int 12])) (f2 cP (aB 0) (fC (.int 12))))))
 (aV (aS 3 (aJ (fC (.str ""))))
 (aV (fS 4 (iA (aA (aB 2) aD))
  (aS 3 (aJ (f2 cA (aB 3) (f2 dIx (aB 1) (f2 cP (f2 cA (f2 eA (aB 0) (fC (.int 12))) (f2 gO (aB 4) (f2 cP (f2 eA (aB 0) (fC (.int 9000))) (fC (.int 93))))) (fC (.int 93))))))))
 (qY 3))))))
abbrev rE:Stmt:=top 26
abbrev oC:List Str:=["_law_number"]
theorem iU:FnScope ["_law_number","_law_signs","_law_size","_law_word_here","_law_j"] oC (bA rE):=cZ
theorem yh8(en:Dn K mg "_law_word" rE oC f fd)
  (av:mg "range"=none):
  FnOk P w K mg base CX0 (n+1) f fd oC (SpP 1 K U (gP 1 4 (vG))):=
 dF en.F iU fun cdv A outer s H E B hr=>
 (aO (bB 1 iU.nd bJ)
 (aO (bB 1 iU.nd (bE eK (aC 1) (QP.v bJ)))
 (aO (bB 2 iU.nd (qP (dL (kN (.int (.int (.int (.int (.int (.int (.int (.int (.int (.int (.int (.int .nil)))))))))))))) (QP.v (bE eB (aC 0) (QP.v aF)))))
 (aO (bB 3 iU.nd bJ)
 (aO (mE 4 ZH rfl iU.nd rfl (.inl rfl) rfl rfl (nQ rfl av (aG (aC 2) aW))
  (aM (bB 3 iU.nd (bE eK (aC 3) (bC (aC 1) (QP.v (bE eB (QP.v (bE eK (QP.v (bE kL (aC 0) (QP.v aF))) (QP.v (bE sO (aC 4) (QP.v (bE eB (QP.v (bE kL (aC 0) (QP.v aF))) (QP.v aF))))))) (QP.v aF))))))))
 (aM (pI 3 rfl)))))))
def vH(j8:(tz6)):tz1:=
 (aV (aS 1 (aJ (f2 eA (aB 0) (fC (.int 16)))))
 (aV (fIf (aX (fB (f2 dLt (f2 cP (aB 0) (fC (.int 16))) (fC (.int 8)))))
  (cI (aJ (aT (aA (fC (.str "word")) (aA (aL j8 (aA (aB 1) aD)) aD)))))
  cF)
 (aV (fIf (aX (fB (f2 dLt (f2 cP (aB 0) (fC (.int 16))) (fC (.int 13)))))
  (cI (aJ (aT (aA (fC (.str "gap")) (aA (f2 dIx (cE (fKs [.str " ",.str " ",.str " ",.str ""])) (f2 cP (aB 1) (fC (.int 4)))) aD)))))
  cF)
 (aV (fIf (aX (fB (f2 dEq (f2 cP (aB 0) (fC (.int 16))) (fC (.int 13)))))
  (cI (aJ (aT (aA (fC (.str "end")) aD))))
  cF)
 (cI (aJ (aT (aA (fC (.str "stop")) (aA (f2 dIx (cE (aA (f2 cP (f2 eA (aB 1) (fC (.int 2))) (fC (.int 10))) (aA (f2 cP (f2 eA (aB 1) (fC (.int 2))) (fC (.int 41))) aD))) (f2 cP (aB 1) (fC (.int 2)))) aD)))))))))
abbrev oE:Stmt:=top 27
abbrev kD:List Str:=["_law_number"]
theorem uR:FnScope ["_law_number","_law_some_here"] kD (bA oE):=cZ
theorem yh9(b9:Dn K mg "_law_leaf" oE kD f fd)
  (en:Dn K mg "_law_word" rE oC lj ky) (j9:FnOk P w K mg base CX0 n lj ky oC (SpP 1 K U j8)):
  FnOk P w K mg base CX0 (n+1) f fd kD (SpP 1 K U (gP 1 1 (vH j8))):=
 dF b9.F uR fun cdv A outer s H E B hr=>
 (aO (bB 1 uR.nd (bE kL (aC 0) (QP.v aF)))
 (aO (cG (QT.e (bM (kS (Room.units0 hr)) (QP.v (bE eB (aC 0) (QP.v aF))) (QP.v aF) (bI _)))
  (aM (bU (QP.e (bT (aH bJ (aH (dG en j9 hr rfl rfl (aG (aC 1) aW) (aP cD)) aU))))))
  cK)
 (aO (cG (QT.e (bM (kS (Room.units0 hr)) (QP.v (bE eB (aC 0) (QP.v aF))) (QP.v aF) (bI _)))
  (aM (bU (QP.e (bT (aH bJ (aH (qP (dL (kN (.str (.str (.str (.str .nil)))))) (QP.v (bE eB (aC 1) (QP.v aF)))) aU))))))
  cK)
 (aO (cG (QT.e (bM (eY (Room.units hr)) (QP.v (bE eB (aC 0) (QP.v aF))) (QP.v aF) (bI _)))
  (aM (bU (QP.e (bT (aH bJ aU)))))
  cK)
 (aM (bU (QP.e (bT (aH bJ (aH (qP (dL (aH (bE eB (QP.v (bE kL (aC 1) (QP.v aF))) (QP.v aF)) (aH (bE eB (QP.v (bE kL (aC 1) (QP.v aF))) (QP.v aF)) aU))) (QP.v (bE eB (aC 1) (QP.v aF)))) aU))))))))))
def oF:tz1:=
 (aV (vE [1,2,3,4] (dO 0 bR aD rM))
 (aV (aS 3 (aJ (f2 cA (aB 3) (cE (aA (aL fR (aA (aB 4) aD)) aD)))))
 (aV (fIf (aX (bV (fB (f2 dEq (aB 1) (fC (.str "either")))) (fB (f2 dLt (aL cM (aA (aB 3) aD)) (fC (.int 2))))))
  (aS 3 (aJ (f2 cA (aB 3) (cE (aA (aT (aA (aT (aA (fC (.str "word")) (aA (fC (.str "or")) aD))) aD)) aD)))))
  cF)
 (aV (aS 5 (aJ (aT (aA (fC (.str "group")) (aA (aR (f2 dIx (aB 3) (fC (.int 0)))) aD)))))
 (aV (fIf (aX (fB (f2 dEq (aB 1) (fC (.str "hang")))))
  (aS 5 (aJ (aT (aA (fC (.str "hang")) (aA (aR (aB 2)) (aA (aR (f2 dIx (aB 3) (fC (.int 0)))) aD))))))
  cF)
 (aV (fIf (aX (fB (f2 dEq (aB 1) (fC (.str "either")))))
  (aS 5 (aJ (aT (aA (fC (.str "either")) (aA (aL fR (aA (aB 3) aD)) aD)))))
  cF)
 (cU (dO 0 (fU 0 (fU 0 bR (eN (fC (.int 1)))) (fC (.int 3))) (aA (aR (aB 5)) aD) dN))))))))
abbrev rF:Stmt:=top 28
abbrev oG:List Str:=["_law_frames"]
theorem fP:FnScope ["_law_frames","_law_kind","_law_n","_law_full","_law_parts","_law_piece"] oG (bA rF):=cZ
theorem yi0(de:Dn K mg "_law_shut" rF oG f fd)
  (aw:mg "tuple"=none)
  (aa:mg "len"=none):
  FnOk P w K mg base CX0 (n+1) f fd oG (SpE 1 K U (bX [true]) (gE 1 5 (bX [true]) (oF))):=
 oW de.F fP (fun i hi=>iY hi) fun cdv A outer s H E hr=>
 (aO (yg8 (is:=[1,2,3,4]) rfl (mZ (kK (i:=1) fP.nd rfl (.inl rfl)) (mZ (kK (i:=2) fP.nd rfl (.inl rfl)) (mZ (kK (i:=3) fP.nd rfl (.inl rfl)) (mZ (kK (i:=4) fP.nd rfl (.inl rfl)) zr6)))) (xh7 (j:=0) rfl (cH 0)) (fun j hj=>by simp only [Z8,ZK,YF] at hj;rcases hj with rfl|rfl|rfl|rfl<;>exact⟨rfl,rfl⟩))
 (aO (bB 3 fP.nd (bE eK (aC 3) (QP.v (dL (aH (lQ pH rfl aw YS (aG (aC 4) aW)) aU)))))
 (aO (cG (QT.e (iJ (eG (bM (eY (Room.units hr)) (aC 1) (QP.v bJ) (bI _)) (eO (bM (kS (Room.units0 hr)) (QP.v (cS gA rfl aa ZO (aG (aC 3) aW))) (QP.v aF) (bI _))))))
  (aM (bB 3 fP.nd (bE eK (aC 3) (QP.v (dL (aH (bT (aH (bT (aH bJ (aH bJ aU))) aU)) aU))))))
  cK)
 (aO (bB 5 fP.nd (bT (aH bJ (aH (QV.p (bC (aC 3) (QP.v aF))) aU))))
 (aO (cG (QT.e (bM (eY (Room.units hr)) (aC 1) (QP.v bJ) (bI _)))
  (aM (bB 5 fP.nd (bT (aH bJ (aH (QV.p (aC 2)) (aH (QV.p (bC (aC 3) (QP.v aF))) aU))))))
  cK)
 (aO (cG (QT.e (bM (eY (Room.units hr)) (aC 1) (QP.v bJ) (bI _)))
  (aM (bB 5 fP.nd (bT (aH bJ (aH (lQ pH rfl aw YS (aG (aC 3) aW)) aU)))))
  cK)
 (aM (gB (lR (j:=0) rfl (jT (jT (cH 0) (QP.v (mD (QP.v aF)))) (QP.v aF)) (aH (QV.p (aC 5)) aU))))))))))
def zp8(ae:(tz6))(iz:(tz7))(df:(tz6)):tz1:=
 (aV (aS 4 (aJ (cE (aA (cE (aA (fC (.str "top")) (aA (fC (.int 0)) (aA (cE aD) (aA (cE aD) aD))))) aD))))
 (aV (fS 5 (yW (aA (aB 1) (aA (f2 cA (aB 1) (aB 2)) aD)))
  (aV (aS 6 (aJ (aL ae (aA (aB 0) (aA (aB 5) (aA (fC (.int 31)) aD))))))
 (aV (aS 7 (aJ (f2 cP (aB 6) (fC (.int 13)))))
 (aV (aS 8 (aJ (aR (f2 dIx (f2 dIx (aB 4) (eN (fC (.int 1)))) (fC (.int 0))))))
 (fIf (aX (bV (fB (f2 dLt (aB 7) (fC (.int 4)))) (fB (f2 dLe (aL cM (aA (aB 4) aD)) (aB 3)))))
  (aV (aS 9 (aJ (f2 dIx (cE (fKs [.str "group",.str "group",.str "hang",.str "either"])) (aB 7))))
 (cU (dO 4 bR (aA (cE (aA (aR (aB 9)) (aA (f2 dIx (cE (aA (fC (.int 1)) (aA (fC (.int 2)) (aA (fC (.int 4)) (aA (f2 cP (f2 eA (aB 6) (fC (.int 13))) (fC (.int 13))) aD))))) (f2 cP (f2 eA (aB 6) (fC (.int 169))) (fC (.int 4)))) (aA (cE aD) (aA (cE aD) aD))))) aD) dN)))
  (fIf (aX (bV (fB (f2 dEq (aB 7) (fC (.int 4)))) (fB (f2 dGt (aL cM (aA (aB 4) aD)) (fC (.int 1))))))
  (cU (fIO [.io 4] iz))
  (fIf (aX (bV (fB (f2 dLt (aB 7) (fC (.int 7)))) (bV (fB (f2 dEq (aB 8) (fC (.str "either")))) (fB (f2 dLt (aL cM (aA (f2 dIx (f2 dIx (aB 4) (eN (fC (.int 1)))) (fC (.int 2))) aD)) (fC (.int 3)))))))
  (aV (cU (dO 4 (fU 4 (fU 4 bR (eN (fC (.int 1)))) (fC (.int 2))) (aA (aL fR (aA (f2 dIx (f2 dIx (aB 4) (eN (fC (.int 1)))) (fC (.int 3))) aD)) aD) dN))
 (fV 4 (fU 4 bR (eN (fC (.int 1)))) (fC (.int 3)) (cE aD)))
  (cU (dO 4 (fU 4 (fU 4 bR (eN (fC (.int 1)))) (fC (.int 3))) (aA (aL df (aA (aL ae (aA (aB 0) (aA (aB 5) (aA (fC (.int 32)) aD)))) aD)) aD) dN)))))))))
 (aV (jZ (aX (fB (f2 dGt (aL cM (aA (aB 4) aD)) (fC (.int 1)))))
  (cU (fIO [.io 4] iz)) 400)
 (cI (aJ (aL fR (aA (f2 dIx (f2 dIx (aB 4) (fC (.int 0))) (fC (.int 3))) aD)))))))
abbrev tT:Stmt:=top 29
abbrev qL:List Str:=["_law_script","_law_at","_law_many","_law_nest"]
theorem jV:FnScope ["_law_script","_law_at","_law_many","_law_nest","_law_frames","_law_k","_law_number","_law_way","_law_kind","_law_new"] qL (bA tT):=cZ
theorem yq1(eo:Dn K mg "_law_row" tT qL f fd)
  (ai:Dn K mg "_law_mixed" iC fD bo bc) (al:FnOk P w K mg base CX0 n bo bc fD (SpP 3 K U ae))
  (de:Dn K mg "_law_shut" rF oG ll kz) (i4:FnOk P w K mg base CX0 n ll kz oG (SpE 1 K U (bX [true]) iz))
  (b9:Dn K mg "_law_leaf" oE kD i5 ia) (et:FnOk P w K mg base CX0 n i5 ia kD (SpP 1 K U df))
  (av:mg "range"=none)
  (aw:mg "tuple"=none)
  (aa:mg "len"=none):
  FnOk P w K mg base CX0 (n+1) f fd qL (SpP 4 K U (gP 4 6 (zp8 ae iz df))):=
 dF eo.F jV fun cdv A outer s H E B hr=>
 (aO (bB 4 jV.nd (dL (aH (dL (aH bJ (aH aF (aH (dL aU) (aH (dL aU) aU))))) aU)))
 (aO (mE 5 ZH rfl jV.nd rfl (.inl rfl) rfl rfl (yg2 rfl av (aG (aC 1) (aG (QP.v (bE eK (aC 1) (aC 2))) aW)))
  (aO (bB 6 jV.nd (dG ai al hr rfl rfl (aG (aC 0) (aG (aC 5) (aG (QP.v aF) aW))) (aP (aP (aP cD)))))
 (aO (bB 7 jV.nd (bE eB (aC 6) (QP.v aF)))
 (aO (bB 8 jV.nd (QV.p (bC (bC (aC 4) (QP.v (mD (QP.v aF)))) (QP.v aF))))
 (aM (cG (QT.e (iJ (eG (bM (kS (Room.units0 hr)) (aC 7) (QP.v aF) (bI _)) (eO (bM zx9 (QP.v (cS gA rfl aa ZO (aG (aC 4) aW))) (aC 3) (bI _))))))
  (aO (bB 9 jV.nd (qP (dL (kN (.str (.str (.str (.str .nil)))))) (aC 7)))
 (aM (gB (lR (j:=4) rfl (cH 4) (aH (dL (aH (QV.p (aC 9)) (aH (qP (dL (aH aF (aH aF (aH aF (aH (bE eB (QP.v (bE kL (aC 6) (QP.v aF))) (QP.v aF)) aU))))) (QP.v (bE eB (QP.v (bE kL (aC 6) (QP.v aF))) (QP.v aF)))) (aH (dL aU) (aH (dL aU) aU))))) aU)))))
  (aM (cG (QT.e (iJ (eG (bM (eY (Room.units hr)) (aC 7) (QP.v aF) (bI _)) (eO (bM yo1 (QP.v (cS gA rfl aa ZO (aG (aC 4) aW))) (QP.v aF) (bI _))))))
  (aM (gB (nI de i4 hr rfl (lA 4 dM) rfl (fN rfl) (nd1 4) (rK 4))))
  (aM (cG (QT.e (iJ (eG (bM (kS (Room.units0 hr)) (aC 7) (QP.v aF) (bI _)) (eG (bM (eY (Room.units hr)) (aC 8) (QP.v bJ) (bI _)) (eO (bM (kS (Room.units0 hr)) (QP.v (cS gA rfl aa ZO (aG (bC (bC (aC 4) (QP.v (mD (QP.v aF)))) (QP.v aF)) aW))) (QP.v aF) (bI _)))))))
  (aO (gB (lR (j:=4) rfl (jT (jT (cH 4) (QP.v (mD (QP.v aF)))) (QP.v aF)) (aH (lQ pH rfl aw YS (aG (bC (bC (aC 4) (QP.v (mD (QP.v aF)))) (QP.v aF)) aW)) aU)))
 (aM (pX (j:=4) rfl (dL aU) (jT (cH 4) (QP.v (mD (QP.v aF)))) (QP.v aF))))
  (aM (gB (lR (j:=4) rfl (jT (jT (cH 4) (QP.v (mD (QP.v aF)))) (QP.v aF)) (aH (dG b9 et hr rfl rfl (aG (QP.v (dG ai al hr rfl rfl (aG (aC 0) (aG (aC 5) (aG (QP.v aF) aW))) (aP (aP (aP cD))))) aW) (aP cD)) aU))))))))))))))
 (aO (yo3 400 ZH (QT.e (bM yo1 (QP.v (cS gA rfl aa ZO (aG (aC 4) aW))) (QP.v aF) (bI _)))
  (aM (gB (nI de i4 hr rfl (lA 4 dM) rfl (fN rfl) (nd1 4) (rK 4)))))
 (aM (bU (QP.e (lQ pH rfl aw YS (aG (bC (bC (aC 4) (QP.v aF)) (QP.v aF)) aW))))))))
def wR(ig:(tz6))(ae:(tz6)):tz1:=
 (aV (aS 3 (aJ (aL cM (aA (f2 dIx (aB 1) (fC (.int 1))) aD))))
 (aV (fIf (aX (bV (fB (f2 dIs (f2 dIx (aB 1) (fC (.int 2))) (fC .non))) (fB (f2 dEq (f2 dIx (aB 1) (fC (.int 3))) (fC (.int 0))))))
  (aS 4 (aJ (f2 jY (aB 2) (fC (.int 1)))))
  (fIf (aX (bV (fB (f2 dIs (f2 dIx (aB 1) (fC (.int 2))) (fC .non))) (fB (f2 dEq (f2 dIx (aB 1) (fC (.int 3))) (fC (.int 1))))))
  (aV (aS 5 (aJ (f2 dIx (cE (fKs [.int 1,.int 12,.int 144,.int 1728,.int 20736,.int 248832,.int 2985984,.int 35831808])) (f2 cP (aB 3) (fC (.int 8))))))
 (aS 4 (aJ (f2 cP (f2 eA (aL ig (aA (aB 0) (aA (f2 cA (fC (.int 40)) (f2 eA (aB 3) (fC (.int 8)))) aD))) (aB 5)) (aB 2)))))
  (fIf (aX (fB (f2 dIs (f2 dIx (aB 1) (fC (.int 2))) (fC .non))))
  (aS 4 (aJ (f2 cP (aL ae (aA (aB 0) (aA (f2 cA (aB 3) (fC (.int 7))) (aA (f2 dIx (aB 1) (fC (.int 3))) aD)))) (aB 2))))
  (fIf (aX (bV (fB (f2 dLt (aB 3) (aL cM (aA (f2 dIx (aB 1) (fC (.int 2))) aD)))) (fB (f3 dLe dLt (fC (.int 0)) (f2 dIx (f2 dIx (aB 1) (fC (.int 2))) (aB 3)) (aB 2)))))
  (aS 4 (aJ (aR (f2 dIx (f2 dIx (aB 1) (fC (.int 2))) (aB 3)))))
  (cI (aJ (eN (fC (.int 1)))))))))
 (aV (cU (dO 1 (fU 1 bR (fC (.int 1))) (aA (aR (aB 4)) aD) dN))
 (qY 4))))
abbrev nN:Stmt:=top 30
abbrev lD:List Str:=["_law_script","_law_state","_law_many"]
theorem gL:FnScope ["_law_script","_law_state","_law_many","_law_at","_law_number","_law_share"] lD (bA nN):=cZ
theorem zr3(ca:Dn K mg "_law_choose" nN lD f fd)
  (b5:Dn K mg "_law_cell_at" kA qI j0 jh) (cw:FnOk P w K mg base CX0 n j0 jh qI (SpP 2 K U ig))
  (ai:Dn K mg "_law_mixed" iC fD bo bc) (al:FnOk P w K mg base CX0 n bo bc fD (SpP 3 K U ae))
  (aa:mg "len"=none):
  FnOk P w K mg base CX0 (n+1) f fd lD (SpE 3 K U (bX [false,true,false]) (gE 3 3 (bX [false,true,false]) (wR ig ae))):=
 oW ca.F gL (fun i hi=>iY hi) fun cdv A outer s H E hr=>
 (aO (bB 3 gL.nd (cS gA rfl aa ZO (aG (bC (aC 1) (QP.v aF)) aW)))
 (aO (cG (QT.e (iJ (eG (bM zy0 (bC (aC 1) (QP.v aF)) (QP.v kZ) (bI _)) (eO (bM (eY (Room.units hr)) (bC (aC 1) (QP.v aF)) (QP.v aF) (bI _))))))
  (aM (bB 4 gL.nd (bE qO (aC 2) (QP.v aF))))
  (aM (cG (QT.e (iJ (eG (bM zy0 (bC (aC 1) (QP.v aF)) (QP.v kZ) (bI _)) (eO (bM (eY (Room.units hr)) (bC (aC 1) (QP.v aF)) (QP.v aF) (bI _))))))
  (aO (bB 5 gL.nd (qP (dL (kN (.int (.int (.int (.int (.int (.int (.int (.int .nil)))))))))) (QP.v (bE eB (aC 3) (QP.v aF)))))
 (aM (bB 4 gL.nd (bE eB (QP.v (bE kL (QP.v (dG b5 cw hr rfl rfl (aG (aC 0) (aG (QP.v (bE eK (QP.v aF) (QP.v (bE kL (aC 3) (QP.v aF))))) aW)) (aP (aP cD)))) (aC 5))) (aC 2)))))
  (aM (cG (QT.e (bM zy0 (bC (aC 1) (QP.v aF)) (QP.v kZ) (bI _)))
  (aM (bB 4 gL.nd (bE eB (QP.v (dG ai al hr rfl rfl (aG (aC 0) (aG (QP.v (bE eK (aC 3) (QP.v aF))) (aG (bC (aC 1) (QP.v aF)) aW))) (aP (aP (aP cD))))) (aC 2))))
  (aM (cG (QT.e (iJ (eG (bM (kS (Room.units0 hr)) (aC 3) (QP.v (cS gA rfl aa ZO (aG (bC (aC 1) (QP.v aF)) aW))) (bI _)) (eO (zk5 zx9 (kS (Room.units0 hr)) (QP.v aF) (bC (bC (aC 1) (QP.v aF)) (aC 3)) (aC 2))))))
  (aM (bB 4 gL.nd (QV.p (bC (bC (aC 1) (QP.v aF)) (aC 3)))))
  (aM (bU (QP.e (mD (QP.v aF))))))))))))
 (aO (gB (lR (j:=1) rfl (jT (cH 1) (QP.v aF)) (aH (QV.p (aC 4)) aU)))
 (aM (pI 4 rfl)))))
def yY(cf:(tz7))(gk:(tz7)):tz1:=
 (aV (fIf (aX (fB (f2 dEq (f2 dIx (aB 1) (fC (.int 0))) (fC (.str "hang")))))
  (cI (fIO [.im (aB 0),.im (f2 dIx (aB 1) (fC (.int 2))),.im (aB 2),.im (f2 cA (aB 3) (f2 dIx (aB 1) (fC (.int 1)))),.io 4] cf))
  cF)
 (aV (fIf (aX (fB (f2 dEq (f2 dIx (aB 1) (fC (.int 0))) (fC (.str "group")))))
  (aV (aS 5 (aJ (fC (.int 0))))
 (aV (fIf (aX (jC (fT (aB 2))))
  (aS 5 (fIO [.im (aB 0),.io 4,.im (fC (.int 2))] gk))
  cF)
 (cI (wC (f2 dGe (aB 5) (fC (.int 0))) (fIO [.im (aB 0),.im (f2 dIx (aB 1) (fC (.int 1))),.im (f2 dEq (aB 5) (fC (.int 0))),.im (aB 3),.io 4] cf)))))
  cF)
 (aV (aS 5 (fIO [.im (aB 0),.io 4,.im (aL cM (aA (f2 dIx (aB 1) (fC (.int 1))) aD))] gk))
 (cI (wC (f2 dGe (aB 5) (fC (.int 0))) (fIO [.im (aB 0),.im (f2 dIx (f2 dIx (aB 1) (fC (.int 1))) (aB 5)),.im (aB 2),.im (aB 3),.io 4] cf))))))
abbrev pD:Stmt:=top 31
abbrev mV:List Str:=["_law_script","_law_piece","_law_flat","_law_hang","_law_state"]
theorem mH:FnScope ["_law_script","_law_piece","_law_flat","_law_hang","_law_state","_law_at"] mV (bA pD):=cZ
theorem zz1(dg:Dn K mg "_law_inner" pD mV f fd)
  (b4:Dn K mg "_law_set" st_l_set ps_l_set jt i6) (dh:FnOk P w K mg base CX0 n jt i6 ps_l_set (SpE 5 K U (bX [false,false,false,false,true]) cf))
  (ca:Dn K mg "_law_choose" nN lD kg j3) (gl:FnOk P w K mg base CX0 n kg j3 lD (SpE 3 K U (bX [false,true,false]) gk))
  (aa:mg "len"=none):
  FnOk P w K mg base CX0 (n+1) f fd mV (SpE 5 K U (bX [false,false,false,false,true]) (gE 5 1 (bX [false,false,false,false,true]) (yY cf gk))):=
 oW dg.F mH (fun i hi=>iY hi) fun cdv A outer s H E hr=>
 (aO (cG (QT.e (bM (eY (Room.units hr)) (bC (aC 1) (QP.v aF)) (QP.v bJ) (bI _)))
  (aM (bU (nI b4 dh hr rfl (bP (aC 0) (bP (bC (aC 1) (QP.v aF)) (bP (aC 2) (bP (QP.v (bE eK (aC 3) (bC (aC 1) (QP.v aF)))) (lA 4 dM))))) rfl (fN rfl) (nd1 4) (rK 4))))
  cK)
 (aO (cG (QT.e (bM (eY (Room.units hr)) (bC (aC 1) (QP.v aF)) (QP.v bJ) (bI _)))
  (aO (bB 5 mH.nd aF)
 (aO (cG (QT.e (pT (gG (aC 2))))
  (aM (zk0 5 mH.nd rfl (.inl rfl) rfl rfl (nI ca gl hr rfl (bP (aC 0) (lA 4 (bP (QP.v aF) dM))) rfl (fN rfl) (nd1 4) (rK 4))))
  cK)
 (aM (bU (yh4 (mB xh2 (aC 5) (QP.v aF) (bI _)) (nI b4 dh hr rfl (bP (aC 0) (bP (bC (aC 1) (QP.v aF)) (bP (QP.v (mB (eY (Room.units hr)) (aC 5) (QP.v aF) (bI _))) (bP (aC 3) (lA 4 dM))))) rfl (fN rfl) (nd1 4) (rK 4)))))))
  cK)
 (aO (zk0 5 mH.nd rfl (.inl rfl) rfl rfl (nI ca gl hr rfl (bP (aC 0) (lA 4 (bP (QP.v (cS gA rfl aa ZO (aG (bC (aC 1) (QP.v aF)) aW))) dM))) rfl (fN rfl) (nd1 4) (rK 4)))
 (aM (bU (yh4 (mB xh2 (aC 5) (QP.v aF) (bI _)) (nI b4 dh hr rfl (bP (aC 0) (bP (bC (bC (aC 1) (QP.v aF)) (aC 5)) (bP (aC 2) (bP (aC 3) (lA 4 dM))))) rfl (fN rfl) (nd1 4) (rK 4))))))))
def zp9(ji:(tz7)):tz1:=
 (aV (fS 5 (gV (aB 1))
  (aV (aS 6 (aJ (f2 jY (f2 jY (aL cM (aA (f2 dIx (aB 4) (fC (.int 0))) aD)) (fC (.int 1))) (fMt vF (f2 dIx (aB 4) (fC (.int 0))) (aA (fC (.str "\n")) aD)))))
 (fIf (aX (nE (fB (f2 dEq (f2 dIx (aB 5) (fC (.int 0))) (fC (.str "word")))) (bV (fB (f2 dEq (f2 dIx (aB 5) (fC (.int 0))) (fC (.str "gap")))) (fT (aB 2)))))
  (fV 4 bR (fC (.int 0)) (f2 cA (f2 dIx (aB 4) (fC (.int 0))) (f2 dIx (aB 5) (fC (.int 1)))))
  (fIf (aX (bV (fB (f2 dEq (f2 dIx (aB 5) (fC (.int 0))) (fC (.str "stop")))) (fB (f2 dLe (aB 6) (f2 dIx (aB 5) (fC (.int 1)))))))
  (fV 4 bR (fC (.int 0)) (f2 cA (f2 dIx (aB 4) (fC (.int 0))) (f2 gO (fC (.str " ")) (f2 jY (f2 dIx (aB 5) (fC (.int 1))) (aB 6)))))
  (fIf (aX (bV (fB (f2 dEq (f2 dIx (aB 5) (fC (.int 0))) (fC (.str "stop")))) (jC (fT (aB 2)))))
  (fV 4 bR (fC (.int 0)) (f2 cA (f2 cA (f2 dIx (aB 4) (fC (.int 0))) (fC (.str "\n"))) (f2 gO (fC (.str " ")) (f2 dIx (aB 5) (fC (.int 1))))))
  (fIf (aX (fB (f2 dIn (f2 dIx (aB 5) (fC (.int 0))) (cE (fKs [.str "gap",.str "end",.str "stop"])))))
  (aV (fIf (aX (fT (aB 2)))
  (cI (aJ (fC (.bl false))))
  cF)
 (fV 4 bR (fC (.int 0)) (f2 cA (f2 cA (f2 dIx (aB 4) (fC (.int 0))) (fC (.str "\n"))) (f2 gO (fC (.str " ")) (aB 3)))))
  (fIf (wB (fTE (fIO [.im (aB 0),.im (aB 5),.im (aB 2),.im (aB 3),.io 4] ji)))
  (cI (aJ (fC (.bl false))))
  cF)))))))
 (cI (aJ (fC (.bl true)))))
abbrev st_l_set:Stmt:=top 32
abbrev ps_l_set:List Str:=["_law_script","_law_row_here","_law_flat","_law_hang","_law_state"]
theorem sS:FnScope ["_law_script","_law_row_here","_law_flat","_law_hang","_law_state","_law_piece","_law_column"] ps_l_set (bA st_l_set):=cZ
theorem yq2(b4:Dn K mg "_law_set" st_l_set ps_l_set f fd)
  (dg:Dn K mg "_law_inner" pD mV k7 kh) (mf:FnOk P w K mg base CX0 n k7 kh mV (SpE 5 K U (bX [false,false,false,false,true]) ji))
  (aa:mg "len"=none):
  FnOk P w K mg base CX0 (n+1) f fd ps_l_set (SpE 5 K U (bX [false,false,false,false,true]) (gE 5 2 (bX [false,false,false,false,true]) (zp9 ji))):=
 oW b4.F sS (fun i hi=>iY hi) fun cdv A outer s H E hr=>
 (aO (zs9 5 1 ZH rfl sS.nd rfl (.inl rfl) rfl rfl rfl
  (aO (bB 6 sS.nd (bE qO (QP.v (bE qO (QP.v (cS gA rfl aa ZO (aG (bC (aC 4) (QP.v aF)) aW))) (QP.v aF))) (QP.v (zf9 PySem.F.slot_str_rfind PySem.F.type_str_rfind yz7 (bC (aC 4) (QP.v aF)) (aG (QP.v bJ) aW)))))
 (aM (cG (QT.e (iJ (zf7 (bM (eY (Room.units hr)) (bC (aC 5) (QP.v aF)) (QP.v bJ) (bI _)) (xR (iJ (eG (bM (eY (Room.units hr)) (bC (aC 5) (QP.v aF)) (QP.v bJ) (bI _)) (eO (gG (aC 2)))))))))
  (aM (pX (j:=4) rfl (bE eK (bC (aC 4) (QP.v aF)) (bC (aC 5) (QP.v aF))) (cH 4) (QP.v aF)))
  (aM (cG (QT.e (iJ (eG (bM (eY (Room.units hr)) (bC (aC 5) (QP.v aF)) (QP.v bJ) (bI _)) (eO (bM zx9 (aC 6) (bC (aC 5) (QP.v aF)) (bI _))))))
  (aM (pX (j:=4) rfl (bE eK (bC (aC 4) (QP.v aF)) (QP.v (bE sO (QP.v bJ) (QP.v (bE qO (bC (aC 5) (QP.v aF)) (aC 6)))))) (cH 4) (QP.v aF)))
  (aM (cG (QT.e (iJ (eG (bM (eY (Room.units hr)) (bC (aC 5) (QP.v aF)) (QP.v bJ) (bI _)) (eO (pT (gG (aC 2)))))))
  (aM (pX (j:=4) rfl (bE eK (QP.v (bE eK (bC (aC 4) (QP.v aF)) (QP.v bJ))) (QP.v (bE sO (QP.v bJ) (bC (aC 5) (QP.v aF))))) (cH 4) (QP.v aF)))
  (aM (cG (QT.e (bM yo2 (bC (aC 5) (QP.v aF)) (QP.v (dL (kN (.str (.str (.str .nil)))))) (by with_unfolding_all rfl)))
  (aO (cG (QT.e (gG (aC 2)))
  (aM (bU (QP.e lZ)))
  cK)
 (aM (pX (j:=4) rfl (bE eK (QP.v (bE eK (bC (aC 4) (QP.v aF)) (QP.v bJ))) (QP.v (bE sO (QP.v bJ) (aC 3)))) (cH 4) (QP.v aF))))
  (aM (cG (zt3 (zt4 (nI dg mf hr rfl (bP (aC 0) (bP (aC 5) (bP (aC 2) (bP (aC 3) (lA 4 dM))))) rfl (fN rfl) (nd1 4) (rK 4))))
  (aM (bU (QP.e lZ)))
  cK))))))))))))
 (aM (bU (QP.e lZ))))
def yZ(cf:(tz7)):tz1:=
 (aV (aS 3 (aJ (cE (aA (fC (.str "")) (aA (cE aD) (aA (fC .non) (aA (aR (aB 2)) aD)))))))
 (aV (fIf (wB (fTE (fIO [.im (aB 0),.im (aB 1),.im (fC (.bl false)),.im (fC (.int 0)),.io 3] cf)))
  (aV (aS 3 (aJ (cE (aA (fC (.str "")) (aA (cE aD) (aA (fC .non) (aA (fC (.int 0)) aD)))))))
 (cU (fIO [.im (aB 0),.im (aB 1),.im (fC (.bl false)),.im (fC (.int 0)),.io 3] cf)))
  cF)
 (cI (aJ (aT (aA (aR (f2 dIx (aB 3) (fC (.int 0)))) (aA (aL fR (aA (f2 dIx (aB 3) (fC (.int 1))) aD)) aD)))))))
abbrev pE:Stmt:=top 33
abbrev mW:List Str:=["_law_script","_law_row_here","_law_salt"]
theorem oX:FnScope ["_law_script","_law_row_here","_law_salt","_law_state"] mW (bA pE):=cZ
theorem zz2(di:Dn K mg "_law_drawn" pE mW f fd)
  (b4:Dn K mg "_law_set" st_l_set ps_l_set jt i6) (dh:FnOk P w K mg base CX0 n jt i6 ps_l_set (SpE 5 K U (bX [false,false,false,false,true]) cf))
  (aw:mg "tuple"=none):
  FnOk P w K mg base CX0 (n+1) f fd mW (SpP 3 K U (gP 3 1 (yZ cf))):=
 dF di.F oX fun cdv A outer s H E B hr=>
 (aO (bB 3 oX.nd (dL (aH bJ (aH (dL aU) (aH kZ (aH (QV.p (aC 2)) aU))))))
 (aO (cG (zt3 (zt4 (nI b4 dh hr rfl (bP (aC 0) (bP (aC 1) (bP (QP.v lZ) (bP (QP.v aF) (lA 3 dM))))) rfl (fN rfl) (nd1 3) (rK 3))))
  (aO (bB 3 oX.nd (dL (aH bJ (aH (dL aU) (aH kZ (aH aF aU))))))
 (aM (gB (nI b4 dh hr rfl (bP (aC 0) (bP (aC 1) (bP (QP.v lZ) (bP (QP.v aF) (lA 3 dM))))) rfl (fN rfl) (nd1 3) (rK 3)))))
  cK)
 (aM (bU (QP.e (bT (aH (QV.p (bC (aC 3) (QP.v aF))) (aH (lQ pH rfl aw YS (aG (bC (aC 3) (QP.v aF)) aW)) aU))))))))
def zA(ae:(tz6)):tz1:=
 (aV (aS 2 (aJ (cE aD)))
 (aV (fS 3 (iA (aA (aL cM (aA (aB 1) aD)) aD))
  (aV (aS 4 (aJ (aL ae (aA (aB 0) (aA (aB 3) (aA (fC (.int 61)) aD))))))
 (aV (aS 5 (aJ (aR (f2 dIx (aB 1) (aB 3)))))
 (aV (aS 6 (aJ (fOr (f2 dIn (f2 dIx (aB 5) (fC (.int 0))) (cE (fKs [.str "word",.str "gap",.str "end",.str "stop"]))) (f2 dLt (aL cM (aA (aB 1) aD)) (fC (.int 4))))))
 (aV (fIf (aX (bV (fB (f2 dEq (f2 cP (aB 4) (fC (.int 8))) (fC (.int 1)))) (fB (f2 dLt (aB 3) (fC (.int 12))))))
  (aS 5 (aJ (aT (aA (fC (.str "group")) (aA (aT (aA (aR (aB 5)) aD)) aD)))))
  (fIf (aX (bV (fB (f2 dEq (f2 cP (aB 4) (fC (.int 8))) (fC (.int 0)))) (bV (fB (f2 dLt (aB 3) (fC (.int 12)))) (fT (aB 6)))))
  (aS 5 (aJ (aT (aA (fC (.str "either")) (aA (aT (aA (aT (aA (aR (aB 5)) aD)) (aA (aT (aA (aR (aB 5)) aD)) aD))) aD)))))
  (fIf (aX (bV (fB (f2 dEq (f2 cP (aB 4) (fC (.int 8))) (fC (.int 2)))) (bV (fB (f2 dLt (aB 3) (fC (.int 12)))) (fT (aB 6)))))
  (aS 5 (aJ (aT (aA (fC (.str "either")) (aA (aT (aA (aT (aA (aT (aA (fC (.str "word")) (aA (fC (.str "or")) aD))) aD)) (aA (aT (aA (aR (aB 5)) aD)) (aA (aT (aA (aT (aA (fC (.str "group")) (aA (aT (aA (aR (aB 5)) aD)) aD))) aD)) aD)))) aD)))))
  (fIf (aX (bV (fB (f2 dEq (f2 cP (aB 4) (fC (.int 8))) (fC (.int 3)))) (bV (fB (f2 dLt (aB 3) (fC (.int 12)))) (fT (aB 6)))))
  (aS 5 (aJ (aT (aA (fC (.str "either")) (aA (aT (aA (aT (aA (aR (aB 5)) (aA (aT (aA (fC (.str "stop")) (aA (f2 cP (f2 eA (aB 4) (fC (.int 8))) (fC (.int 6))) aD))) aD))) (aA (aT (aA (aR (aB 5)) aD)) aD))) aD)))))
  cF))))
 (cU (dO 2 bR (aA (aR (aB 5)) aD) dN)))))))
 (cI (aJ (aL fR (aA (aB 2) aD))))))
abbrev pF:Stmt:=top 35
abbrev mX:List Str:=["_law_script","_law_row_here"]
theorem eZ:FnScope ["_law_script","_law_row_here","_law_made","_law_k","_law_number","_law_piece","_law_plain"] mX (bA pF):=cZ
theorem zz3(dj:Dn K mg "_law_twins" pF mX f fd)
  (ai:Dn K mg "_law_mixed" iC fD bo bc) (al:FnOk P w K mg base CX0 n bo bc fD (SpP 3 K U ae))
  (av:mg "range"=none)
  (aw:mg "tuple"=none)
  (aa:mg "len"=none):
  FnOk P w K mg base CX0 (n+1) f fd mX (SpP 2 K U (gP 2 5 (zA ae))):=
 dF dj.F eZ fun cdv A outer s H E B hr=>
 (aO (bB 2 eZ.nd (dL aU))
 (aO (mE 3 ZH rfl eZ.nd rfl (.inl rfl) rfl rfl (nQ rfl av (aG (QP.v (cS gA rfl aa ZO (aG (aC 1) aW))) aW))
  (aO (bB 4 eZ.nd (dG ai al hr rfl rfl (aG (aC 0) (aG (aC 3) (aG (QP.v aF) aW))) (aP (aP (aP cD)))))
 (aO (bB 5 eZ.nd (QV.p (bC (aC 1) (aC 3))))
 (aO (bB 6 eZ.nd (yv4 (mB yo2 (bC (aC 5) (QP.v aF)) (QP.v (dL (kN (.str (.str (.str (.str .nil))))))) (by with_unfolding_all rfl)) (zj5 (mB (kS (Room.units0 hr)) (QP.v (cS gA rfl aa ZO (aG (aC 1) aW))) (QP.v aF) (bI _)))))
 (aO (cG (QT.e (iJ (eG (bM (eY (Room.units hr)) (QP.v (bE eB (aC 4) (QP.v aF))) (QP.v aF) (bI _)) (eO (bM (kS (Room.units0 hr)) (aC 3) (QP.v aF) (bI _))))))
  (aM (bB 5 eZ.nd (bT (aH bJ (aH (bT (aH (QV.p (aC 5)) aU)) aU)))))
  (aM (cG (QT.e (iJ (eG (bM (eY (Room.units hr)) (QP.v (bE eB (aC 4) (QP.v aF))) (QP.v aF) (bI _)) (eG (bM (kS (Room.units0 hr)) (aC 3) (QP.v aF) (bI _)) (eO (gG (aC 6)))))))
  (aM (bB 5 eZ.nd (bT (aH bJ (aH (bT (aH (bT (aH (QV.p (aC 5)) aU)) (aH (bT (aH (QV.p (aC 5)) aU)) aU))) aU)))))
  (aM (cG (QT.e (iJ (eG (bM (eY (Room.units hr)) (QP.v (bE eB (aC 4) (QP.v aF))) (QP.v aF) (bI _)) (eG (bM (kS (Room.units0 hr)) (aC 3) (QP.v aF) (bI _)) (eO (gG (aC 6)))))))
  (aM (bB 5 eZ.nd (bT (aH bJ (aH (bT (aH (bT (aH (bT (aH bJ (aH bJ aU))) aU)) (aH (bT (aH (QV.p (aC 5)) aU)) (aH (bT (aH (bT (aH bJ (aH (bT (aH (QV.p (aC 5)) aU)) aU))) aU)) aU)))) aU)))))
  (aM (cG (QT.e (iJ (eG (bM (eY (Room.units hr)) (QP.v (bE eB (aC 4) (QP.v aF))) (QP.v aF) (bI _)) (eG (bM (kS (Room.units0 hr)) (aC 3) (QP.v aF) (bI _)) (eO (gG (aC 6)))))))
  (aM (bB 5 eZ.nd (bT (aH bJ (aH (bT (aH (bT (aH (QV.p (aC 5)) (aH (bT (aH bJ (aH (bE eB (QP.v (bE kL (aC 4) (QP.v aF))) (QP.v aF)) aU))) aU))) (aH (bT (aH (QV.p (aC 5)) aU)) aU))) aU)))))
  cK)))))))
 (aM (gB (lR (j:=2) rfl (cH 2) (aH (QV.p (aC 5)) aU)))))))))
 (aM (bU (QP.e (lQ pH rfl aw YS (aG (aC 2) aW)))))))
def vI(ae:(tz6))(df:(tz6)):tz1:=
 (aV (aS 2 (aJ (fC (.int 3))))
 (aV (fS 3 (iA (aA (f2 cA (fC (.int 3)) (f2 cP (f2 eA (aL ae (aA (aB 0) (aA (fC (.int 2)) (aA (fC (.int 57)) aD)))) (fC (.int 4))) (fC (.int 7)))) aD))
  (aV (aS 4 (aJ (aL ae (aA (aB 0) (aA (f2 cA (fC (.int 3)) (aB 3)) (aA (fC (.int 58)) aD))))))
 (aV (aS 5 (aJ (aT (aA (fC (.str "hang")) (aA (f2 cP (f2 eA (aB 4) (fC (.int 8))) (fC (.int 4))) (aA (aR (aB 1)) aD))))))
 (aV (fIf (aX (bV (fB (f3 dLt dLt (fC (.int 0)) (f2 cP (aB 4) (fC (.int 8))) (fC (.int 3)))) (fB (f2 dGt (aB 2) (fC (.int 0))))))
  (aV (aS 2 (aJ (f2 jY (aB 2) (fC (.int 1)))))
 (aS 5 (aJ (f2 dIx (cE (aA (aT (aA (fC (.str "group")) (aA (aR (aB 1)) aD))) (aA (aT (aA (fC (.str "either")) (aA (aT (aA (aT (aA (aT (aA (fC (.str "word")) (aA (fC (.str "or")) aD))) aD)) (aA (aR (aB 1)) aD))) aD))) aD))) (f2 jY (f2 cP (aB 4) (fC (.int 8))) (fC (.int 1)))))))
  cF)
 (yV 1 (aJ (aT (aA (aL df (aA (f2 eA (aB 4) (fC (.int 64))) aD)) (aA (aR (aB 5)) aD)))))))))
 (cI (aJ (aR (aB 1))))))
abbrev mY:Stmt:=top 36
abbrev kE:List Str:=["_law_script","_law_row_here"]
theorem fA:FnScope ["_law_script","_law_row_here","_law_left","_law_k","_law_way","_law_piece"] kE (bA mY):=cZ
theorem zl8(cg:Dn K mg "_law_wrapped" mY kE f fd)
  (ai:Dn K mg "_law_mixed" iC fD bo bc) (al:FnOk P w K mg base CX0 n bo bc fD (SpP 3 K U ae))
  (b9:Dn K mg "_law_leaf" oE kD i5 ia) (et:FnOk P w K mg base CX0 n i5 ia kD (SpP 1 K U df))
  (av:mg "range"=none):
  FnOk P w K mg base CX0 (n+1) f fd kE (SpP 2 K U (gP 2 4 (vI ae df))):=
 dF cg.F fA fun cdv A outer s H E B hr=>
 (aO (bB 2 fA.nd aF)
 (aO (mE 3 ZH rfl fA.nd rfl (.inl rfl) rfl rfl (nQ rfl av (aG (QP.v (bE eK (QP.v aF) (QP.v (bE eB (QP.v (bE kL (QP.v (dG ai al hr rfl rfl (aG (aC 0) (aG (QP.v aF) (aG (QP.v aF) aW))) (aP (aP (aP cD))))) (QP.v aF))) (QP.v aF))))) aW))
  (aO (bB 4 fA.nd (dG ai al hr rfl rfl (aG (aC 0) (aG (QP.v (bE eK (QP.v aF) (aC 3))) (aG (QP.v aF) aW))) (aP (aP (aP cD)))))
 (aO (bB 5 fA.nd (bT (aH bJ (aH (bE eB (QP.v (bE kL (aC 4) (QP.v aF))) (QP.v aF)) (aH (QV.p (aC 1)) aU)))))
 (aO (cG (QT.e (iJ (eG (zk5 (kS (Room.units0 hr)) (kS (Room.units0 hr)) (QP.v aF) (QP.v (bE eB (aC 4) (QP.v aF))) (QP.v aF)) (eO (bM yo1 (aC 2) (QP.v aF) (bI _))))))
  (aO (bB 2 fA.nd (bE qO (aC 2) (QP.v aF)))
 (aM (bB 5 fA.nd (qP (dL (aH (bT (aH bJ (aH (QV.p (aC 1)) aU))) (aH (bT (aH bJ (aH (bT (aH (bT (aH (bT (aH bJ (aH bJ aU))) aU)) (aH (QV.p (aC 1)) aU))) aU))) aU))) (QP.v (bE qO (QP.v (bE eB (aC 4) (QP.v aF))) (QP.v aF)))))))
  cK)
 (aM (yy9 1 fA.nd rfl (.inl rfl) rfl (QP.e (bT (aH (dG b9 et hr rfl rfl (aG (QP.v (bE kL (aC 4) (QP.v aF))) aW) (aP cD)) (aH (QV.p (aC 5)) aU))))))))))
 (aM (bU (QP.e (QV.p (aC 1)))))))
def ze5(ae:(tz6))(ii:(tz6))(ju:(tz6))(jj:(tz6)):tz1:=
 (aV (fIf (aX (fB (f2 dEq (f2 cP (aL ae (aA (aB 0) (aA (fC (.int 2)) (aA (fC (.int 57)) aD)))) (fC (.int 4))) (fC (.int 1)))))
  (cI (aJ (aL ii (aA (aB 0) (aA (aL ju (aA (aB 0) (aA (fC (.int 0)) (aA (aL nJ (aA (f2 cA (aL cM (aA (aB 0) aD)) (fC (.int 3))) (aA (fC (.int 12)) aD))) (aA (fC (.int 3)) aD))))) aD)))))
  cF)
 (cI (aJ (aL jj (aA (aB 0) (aA (aL ju (aA (aB 0) (aA (fC (.int 0)) (aA (aL nJ (aA (f2 cA (aL cM (aA (aB 0) aD)) (fC (.int 3))) (aA (fC (.int 24)) aD))) (aA (fC (.int 3)) aD))))) aD))))))
abbrev rG:Stmt:=top 37
abbrev oH:List Str:=["_law_script"]
theorem zd0:FnScope ["_law_script"] oH (bA rG):=cZ
theorem yi1(eu:Dn K mg "_law_some" rG oH f fd)
  (ai:Dn K mg "_law_mixed" iC fD bo bc) (al:FnOk P w K mg base CX0 n bo bc fD (SpP 3 K U ae))
  (cg:Dn K mg "_law_wrapped" mY kE j4 jk) (ij:FnOk P w K mg base CX0 n j4 jk kE (SpP 2 K U ii))
  (eo:Dn K mg "_law_row" tT qL l3 lm) (jv:FnOk P w K mg base CX0 n l3 lm qL (SpP 4 K U ju))
  (dj:Dn K mg "_law_twins" pF mX k8 ki) (jl:FnOk P w K mg base CX0 n k8 ki mX (SpP 2 K U jj))
  (i7:mg "min"=none)
  (aa:mg "len"=none):
  FnOk P w K mg base CX0 (n+1) f fd oH (SpP 1 K U (gP 1 0 (ze5 ae ii ju jj))):=
 dF eu.F zd0 fun cdv A outer s H E B hr=>
 (aO (cG (QT.e (bM (eY (Room.units hr)) (QP.v (bE eB (QP.v (dG ai al hr rfl rfl (aG (aC 0) (aG (QP.v aF) (aG (QP.v aF) aW))) (aP (aP (aP cD))))) (QP.v aF))) (QP.v aF) (bI _)))
  (aM (bU (QP.e (dG cg ij hr rfl rfl (aG (aC 0) (aG (QP.v (dG eo jv hr rfl rfl (aG (aC 0) (aG (QP.v aF) (aG (QP.v (cS (zj9 rfl) rfl i7 boot_min (aG (QP.v (bE eK (QP.v (cS gA rfl aa ZO (aG (aC 0) aW))) (QP.v aF))) (aG (QP.v aF) aW)))) (aG (QP.v aF) aW)))) (aP (aP (aP (aP cD)))))) aW)) (aP (aP cD))))))
  cK)
 (aM (bU (QP.e (dG dj jl hr rfl rfl (aG (aC 0) (aG (QP.v (dG eo jv hr rfl rfl (aG (aC 0) (aG (QP.v aF) (aG (QP.v (cS (zj9 rfl) rfl i7 boot_min (aG (QP.v (bE eK (QP.v (cS gA rfl aa ZO (aG (aC 0) aW))) (QP.v aF))) (aG (QP.v aF) aW)))) (aG (QP.v aF) aW)))) (aP (aP (aP (aP cD)))))) aW)) (aP (aP cD)))))))
def rH:tz1:=
 (aV (fIf (aX (fB (f2 dEq (aB 0) (aB 1))))
  (cI (aJ (fC (.bl true))))
  cF)
 (aV (fS 2 (iA (aA (aL nJ (aA (aL cM (aA (aB 0) aD)) (aA (aL cM (aA (aB 1) aD)) aD))) aD))
  (fIf (aX (fB (f2 dNe (f2 dIx (aB 0) (aB 2)) (f2 dIx (aB 1) (aB 2)))))
  (cI (aJ (f2 dLt (f2 dIx (aB 0) (aB 2)) (f2 dIx (aB 1) (aB 2)))))
  cF))
 (cI (aJ (fC (.bl false))))))
abbrev jQ:Stmt:=top 38
abbrev iI:List Str:=["_law_found","_law_drawn_here"]
theorem mI:FnScope ["_law_found","_law_drawn_here","_law_k"] iI (bA jQ):=cZ
theorem yD(bu:Dn K mg "_law_not_behind" jQ iI f fd)
  (av:mg "range"=none)
  (i7:mg "min"=none)
  (aa:mg "len"=none):
  FnOk P w K mg base CX0 (n+1) f fd iI (SpP 2 K U (gP 2 1 (rH))):=
 dF bu.F mI fun cdv A outer s H E B hr=>
 (aO (cG (QT.e (bM (eY (Room.units hr)) (aC 0) (aC 1) (bI _)))
  (aM (bU (QP.e lZ)))
  cK)
 (aO (mE 2 ZH rfl mI.nd rfl (.inl rfl) rfl rfl (nQ rfl av (aG (QP.v (cS (zj9 rfl) rfl i7 boot_min (aG (QP.v (cS gA rfl aa ZO (aG (aC 0) aW))) (aG (QP.v (cS gA rfl aa ZO (aG (aC 1) aW))) aW)))) aW))
  (aM (cG (QT.e (bM (xq3 (Room.units hr)) (bC (aC 0) (aC 2)) (bC (aC 1) (aC 2)) (bI _)))
  (aM (bU (QP.e (mB (kS (Room.units0 hr)) (bC (aC 0) (aC 2)) (bC (aC 1) (aC 2)) (bI _)))))
  cK)))
 (aM (bU (QP.e lZ)))))
def ym0(ka:(tz6))(jm:(tz6))(ez:(tz6))(ff:(tz6)):tz1:=
 (aV (aS 1 (aJ (aL ka (aA (aB 0) aD))))
 (aV (fS 2 (iA (aA (fC (.int 4)) aD))
  (aV (aS 3 (aJ (aL jm (aA (aB 0) (aA (aB 1) (aA (f2 cA (fC (.int 1)) (f2 gO (fC (.int 50)) (aB 2))) aD))))))
 (aV (aS 4 (aJ (aL ez (aA (aB 1) (aA (f2 dIx (aB 3) (fC (.int 0))) aD)))))
 (fIf (aX (nE (jC (fT (aL za3 (aA (aB 4) (aA (fC (.ty "tuple")) aD))))) (jC (fT (aL ff (aA (aB 4) (aA (f2 dIx (aB 3) (fC (.int 1))) aD)))))))
  (cI (aJ (fC (.bl false))))
  cF))))
 (cI (aJ (fC (.bl true))))))
abbrev zq0:Stmt:=top 39
abbrev zq1:List Str:=["_law_script"]
theorem rX:FnScope ["_law_script","_law_row_here","_law_lap","_law_drawn_here","_law_found"] zq1 (bA zq0):=cZ
theorem xi0(l5:Dn K mg "law" zq0 zq1 f fd)
  (eu:Dn K mg "_law_some" rG oH lp k9) (kb:FnOk P w K mg base CX0 n lp k9 oH (SpP 1 K U ka))
  (di:Dn K mg "_law_drawn" pE mW la kj) (jn:FnOk P w K mg base CX0 n la kj mW (SpP 3 K U jm))
  (bq:Dn K mg "choices_of" jP iH iu ib) (fg:FnOk P w K mg base CX0 n iu ib iH (SpP 2 K U ez))
  (bu:Dn K mg "_law_not_behind" jQ iI iw ic) (fh:FnOk P w K mg base CX0 n iw ic iI (SpP 2 K U ff))
  (av:mg "range"=none)
  (gz:mg "isinstance"=none)
  (aw:mg "tuple"=none):
  FnOk P w K mg base CX0 (n+1) f fd zq1 (SpP 1 K U (gP 1 4 (ym0 ka jm ez ff))):=
 dF l5.F rX fun cdv A outer s H E B hr=>
 (aO (bB 1 rX.nd (dG eu kb hr rfl rfl (aG (aC 0) aW) (aP cD)))
 (aO (mE 2 ZH rfl rX.nd rfl (.inl rfl) rfl rfl (nQ rfl av (aG (QP.v aF) aW))
  (aO (bB 3 rX.nd (dG di jn hr rfl rfl (aG (aC 0) (aG (aC 1) (aG (QP.v (bE eK (QP.v aF) (QP.v (bE sO (QP.v aF) (aC 2))))) aW))) (aP (aP (aP cD)))))
 (aO (bB 4 rX.nd (dG bq fg hr rfl rfl (aG (aC 1) (aG (bC (aC 3) (QP.v aF)) aW)) (aP (aP cD))))
 (aM (cG (QT.e (iJ (zf7 (pT (gG (QP.v (cS xn6 rfl gz boot_isinstance (aG (aC 4) (aG (QP.v (xn5 rfl aw YS)) aW)))))) (xR (pT (gG (QP.v (dG bu fh hr rfl rfl (aG (aC 4) (aG (bC (aC 3) (QP.v aF)) aW)) (aP (aP cD))))))))))
  (aM (bU (QP.e lZ)))
  cK)))))
 (aM (bU (QP.e lZ)))))
def uE:tz1:=
 (aV (lV 0 bR "Place" "broken" (aR (aB 1)))
 (lV 0 bR "Place" "margin" (aR (aB 2))))
abbrev st_Place_init:Stmt:=pM (top 2) 0
abbrev ps_Place_init:List Str:=["self","broken","margin"]
theorem uA:FnScope ["self","broken","margin"] ps_Place_init (bA st_Place_init):=cZ
theorem zf0(cb:Kn K mg U "Place" "Place.__init__" st_Place_init ps_Place_init f fd)
  (ao:Cls K (U "Place"))
  (au:cY K (U "Place") "broken")
  (bj:cY K (U "Place") "margin"):
  FnOk P w K mg base CX0 (n+1) f fd ps_Place_init (SpE 3 K U (bX [true,false,false]) (gE 3 0 (bX [true,false,false]) (uE))):=
 oW cb.F uA (fun i hi=>iY hi) fun cdv A outer s H E hr=>
 (aO (nR (C:="Place") ao au rfl (QV.p (aC 1)) (cH 0))
 (aM (nR (C:="Place") ao bj rfl (QV.p (aC 2)) (cH 0))))
def oP:tz1:=
 (aV (lV 0 bR "Front" "steps" (aR (aB 1)))
 (lV 0 bR "Front" "best" pB))
abbrev st_Front_init:Stmt:=pM (top 12) 0
abbrev ps_Front_init:List Str:=["self","steps"]
theorem uB:FnScope ["self","steps"] ps_Front_init (bA st_Front_init):=cZ
theorem zf1(a7:Kn K mg U "Front" "Front.__init__" st_Front_init ps_Front_init f fd)
  (ac:Cls K (U "Front"))
  (a8:cY K (U "Front") "steps")
  (aj:cY K (U "Front") "best"):
  FnOk P w K mg base CX0 (n+1) f fd ps_Front_init (SpE 2 K U (bX [true,false]) (gE 2 0 (bX [true,false]) (oP))):=
 oW a7.F uB (fun i hi=>iY hi) fun cdv A outer s H E hr=>
 (aO (nR (C:="Front") ac a8 rfl (QV.p (aC 1)) (cH 0))
 (aM (nR (C:="Front") ac aj rfl yp3 (cH 0))))
def kF:tz1:=
 (fIf (aX (nE (fB (f2 gZ (aB 1) (cX "Front" "best" (aB 0)))) (fB (f2 zp5 (aB 2) (f2 jE (cX "Front" "best" (aB 0)) (aB 1))))))
  (pC 0 (yb4 0 bR "Front" "best") (aB 1) (aR (aB 2)))
  cF)
abbrev st_Front_add:Stmt:=pM (top 12) 1
abbrev ps_Front_add:List Str:=["self","state","way"]
theorem uS:FnScope ["self","state","way"] ps_Front_add (bA st_Front_add):=cZ
theorem zl9(ah:Mn K U "Front" "add" "Front.add" st_Front_add ps_Front_add f fd)
  (ac:Cls K (U "Front"))
  (aj:cY K (U "Front") "best"):
  FnOk P w K mg base CX0 (n+1) f fd ps_Front_add (SpE 3 K U (bX [true,false,false]) (gE 3 0 (bX [true,false,false]) (kF))):=
 oW ah.F uS (fun i hi=>iY hi) fun cdv A outer s H E hr=>
 (aM (cG (QT.e (iJ (zf7 (zc5 (qM hr) (aC 1) (dY (C:="Front") ac aj (aC 0))) (xR (bM (xn7 (Room.units hr)) (aC 2) (rT (qM hr) (dY (C:="Front") ac aj (aC 0)) (aC 1)) (bI _))))))
  (aM (yz9 (j:=0) (qM hr) rfl (QV.p (aC 2)) (yg5 (C:="Front") ac aj (cH 0)) (aC 1)))
  cK))
def jH(ag:(tz7)):tz1:=
 (fS 2 (sI (aR (cX "Front" "best" (aB 1))))
  (cU (dO 0 bR (cO [.im (aB 2),.im (f2 jE (cX "Front" "best" (aB 1)) (aB 2))]) (iB "Front" "add" ag))))
abbrev st_Front_add_all:Stmt:=pM (top 12) 2
abbrev ps_Front_add_all:List Str:=["self","other"]
theorem lL:FnScope ["self","other","state"] ps_Front_add_all (bA st_Front_add_all):=cZ
theorem wZ(bi:Mn K U "Front" "add_all" "Front.add_all" st_Front_add_all ps_Front_add_all f fd)
  (ah:Mn K U "Front" "add" "Front.add" st_Front_add ps_Front_add bn bf) (aq:FnOk P w K mg base CX0 n bn bf ps_Front_add (SpE 3 K U (bX [true,false,false]) ag))
  (ac:Cls K (U "Front"))
  (aj:cY K (U "Front") "best"):
  FnOk P w K mg base CX0 (n+1) f fd ps_Front_add_all (SpE 2 K U (bX [true,false]) (gE 2 1 (bX [true,false]) (jH ag))):=
 oW bi.F lL (fun i hi=>iY hi) fun cdv A outer s H E hr=>
 (aM (mE 2 ZH rfl lL.nd rfl (.inl rfl) rfl rfl (zQ (QV.p (dY (C:="Front") ac aj (aC 1))))
  (aM (gB (rV ah aq hr rfl (cH 0) (bP (aC 2) (bP (rT (qM hr) (dY (C:="Front") ac aj (aC 1)) (aC 2)) dM)) rfl rfl (dW 2))))))
def kY:tz1:=
 (lV 0 bR "AlongText" "text" (aR (aB 1)))
abbrev st_AlongText_init:Stmt:=pM (top 21) 0
abbrev ps_AlongText_init:List Str:=["self","text"]
theorem oS:FnScope ["self","text"] ps_AlongText_init (bA st_AlongText_init):=cZ
theorem wL(ce:Kn K mg U "AlongText" "AlongText.__init__" st_AlongText_init ps_AlongText_init f fd)
  (b8:Cls K (U "AlongText"))
  (gn:cY K (U "AlongText") "text"):
  FnOk P w K mg base CX0 (n+1) f fd ps_AlongText_init (SpE 2 K U (bX [true,false]) (gE 2 0 (bX [true,false]) (kY))):=
 oW ce.F oS (fun i hi=>iY hi) fun cdv A outer s H E hr=>
 (aM (nR (C:="AlongText") b8 gn rfl (QV.p (aC 1)) (cH 0)))
def jR(ik:(tz6))(cu:(tz6)):tz1:=
 (aV (aS 5 (aJ (aL ik (aA (aB 3) (aA (aB 4) (aA (f2 dIx (fUn (aB 1)) (fC (.int 1))) aD))))))
 (aV (fIf (aX (nE (fB (f2 dIs (aB 5) (fC .non))) (jC (fT (fMt rB (cX "AlongText" "text" (aB 0)) (aA (aB 5) (aA (f2 dIx (fUn (aB 1)) (fC (.int 0))) aD)))))))
  (cI (aJ (fC .non)))
  cF)
 (cI (aJ (aT (aA (fKt (aA (f2 cA (f2 dIx (fUn (aB 1)) (fC (.int 0))) (aL cM (aA (aB 5) aD))) (aA (aL cu (aA (f2 dIx (fUn (aB 1)) (fC (.int 1))) (aA (aB 5) aD))) aD))) (aA (aR (aB 2)) aD)))))))
abbrev st_AlongText_state_behind:Stmt:=pM (top 21) 1
abbrev ps_AlongText_state_behind:List Str:=["self","state","cost","piece","place"]
theorem gJ:FnScope ["self","state","cost","piece","place","wrote"] ps_AlongText_state_behind (bA st_AlongText_state_behind):=cZ
theorem oY(ak:Mn K U "AlongText" "state_behind" "AlongText.state_behind" st_AlongText_state_behind ps_AlongText_state_behind f fd)
  (cc:Dn K mg "writing" mT kC j5 jo) (il:FnOk P w K mg base CX0 n j5 jo kC (SpP 3 K U ik))
  (ax:Dn K mg "column_behind" iE fX gj f9) (cv:FnOk P w K mg base CX0 n gj f9 fX (SpP 2 K U cu))
  (b8:Cls K (U "AlongText"))
  (gn:cY K (U "AlongText") "text")
  (aa:mg "len"=none):
  FnOk P w K mg base CX0 (n+1) f fd ps_AlongText_state_behind (SpP 5 K U (gP 5 1 (jR ik cu))):=
 dF ak.F gJ fun cdv A outer s H E B hr=>
 (aO (bB 5 gJ.nd (dG cc il hr rfl rfl (aG (aC 3) (aG (aC 4) (aG (bC (QV.un (aC 1)) (QP.v aF)) aW))) (aP (aP (aP cD)))))
 (aO (cG (QT.e (iJ (zf7 (bM zy0 (aC 5) (QP.v kZ) (bI _)) (xR (pT (gG (QP.v (zf9 Xi Xj zy9 (dY (C:="AlongText") b8 gn (aC 0)) (aG (aC 5) (aG (bC (QV.un (aC 1)) (QP.v aF)) aW))))))))))
  (aM (bU (QP.e kZ)))
  cK)
 (aM (bU (QP.e (bT (aH (zy8 (aH (bE eK (bC (QV.un (aC 1)) (QP.v aF)) (QP.v (cS gA rfl aa ZO (aG (aC 5) aW)))) (aH (dG ax cv hr rfl rfl (aG (bC (QV.un (aC 1)) (QP.v aF)) (aG (aC 5) aW)) (aP (aP cD))) aU))) (aH (QV.p (aC 2)) aU))))))))
end L3
namespace My
open PySem PySem.Spec PyProof.Rows L2 L3
abbrev MxH(GM:List D->Option D)(S:D):Prop:=∀j s:Int,0<=j->j<1000->0<=s->s<1000->∃a,GM [S,.int j,.int s]=some (.int a)/\0<=a
def bK:Leaf->D
 | .word x=> .tup [.str "word",.str x]
 | .gap x=> .tup [.str "gap",.str x]
 | .stop c=> .tup [.str "stop",.int c]
 | .fin=> .tup [.str "end"]
mutual
def pcD:Pc->D
 | .leaf l=>bK l
 | .group r=> .tup [.str "group",.tup (pcsD r)]
 | .hang n r=> .tup [.str "hang",.int n,.tup (pcsD r)]
 | .either rs=> .tup [.str "either",.tup (rowsD rs)]
def pcsD:List Pc->List D
 |[]=>[]
 |p::r=>pcD p::pcsD r
def rowsD:List (List Pc)->List D
 |[]=>[]
 |r::rs=> .tup (pcsD r)::rowsD rs
end
theorem zm0(l:Leaf):(bK l).imm=true:=by cases l<;>rfl
mutual
theorem jJ:∀p:Pc,(pcD p).imm=true
 | .leaf l=>zm0 l
 | .group r=>by show(D.imm (.str "group")&&(D.imm (.tup (pcsD r))&&D.imms []))=true;rw [show D.imm (.tup (pcsD r))=D.imms (pcsD r) from rfl,pcs_imm r];rfl
 | .hang n r=>by show(D.imm (.str "hang")&&(D.imm (.int n)&&(D.imm (.tup (pcsD r))&&D.imms [])))=true;rw [show D.imm (.tup (pcsD r))=D.imms (pcsD r) from rfl,pcs_imm r];rfl
 | .either rs=>by show(D.imm (.str "either")&&(D.imm (.tup (rowsD rs))&&D.imms []))=true;rw [show D.imm (.tup (rowsD rs))=D.imms (rowsD rs) from rfl,rows_imm rs];rfl
theorem pcs_imm:∀r:List Pc,D.imms (pcsD r)=true
 |[]=>rfl
 |p::r=>by show(D.imm (pcD p)&&D.imms (pcsD r))=true;rw [jJ p,pcs_imm r];rfl
theorem rows_imm:∀rs:List (List Pc),D.imms (rowsD rs)=true
 |[]=>rfl
 |r::rs=>by show(D.imm (.tup (pcsD r))&&D.imms (rowsD rs))=true;rw [show D.imm (.tup (pcsD r))=D.imms (pcsD r) from rfl,pcs_imm r,rows_imm rs];rfl
end
theorem qA:∀a b:List Pc,pcsD (a++b)=pcsD a++pcsD b
 |[],b=>rfl
 |p::a,b=>by show pcD p::pcsD (a++b)=pcD p::(pcsD a++pcsD b);rw [qA a b]
theorem uT:∀a b:List (List Pc),rowsD (a++b)=rowsD a++rowsD b
 |[],b=>rfl
 |p::a,b=>by show D.tup (pcsD p)::rowsD (a++b)=D.tup (pcsD p)::(rowsD a++rowsD b);rw [uT a b]
theorem lM:∀a:List Pc,(pcsD a).length=a.length
 |[]=>rfl
 |p::a=>by show(pcsD a).length+1=a.length+1;rw [lM a]
theorem iV:∀a:List (List Pc),(rowsD a).length=a.length
 |[]=>rfl
 |p::a=>by show(rowsD a).length+1=a.length+1;rw [iV a]
theorem zt5{α β:Type}(f:α->β)(hf:∀a b,f a=f b->a=b):∀{l m:List α},l.map f=m.map f->l=m
 |[],[],_=>rfl
 |[],_::_,h=>by simp at h
 |_::_,[],h=>by simp at h
 |a::l,b::m,h=>by
  simp only [Za,List.cons.injEq] at h
  rw [hf a b h.1,zt5 f hf h.2]
theorem gD(a b:String):(Str.ofString a=Str.ofString b)=(a=b):=by
 refine propext ⟨fun h=> ?_,fun h=>by rw [h]⟩
 rw [Str.ofString_eq_toList,Str.ofString_eq_toList] at h
 have h1:(a.toList.map Char.toNat).toArray=(b.toList.map Char.toNat).toArray:=(Str.mk.inj h)
 have h2:a.toList.map Char.toNat=b.toList.map Char.toNat:=by simpa using ZP Array.toList h1
 have h3:a.toList=b.toList:=zt5 _ (fun x y e=>by
  have:Char.ofNat x.toNat=Char.ofNat y.toNat:=by rw [e]
  simpa using this) h2
 exact String.toList_inj.mp h3
theorem lN{α:Type}(a:α)(l:List α):atI (a::l) 0=some a:=by simp [atI,ixN]
theorem fJ{α:Type}(a b:α)(l:List α):atI (a::b::l) 1=some b:=by
 have h:ixN (a::b::l).length 1=some 1:=by unfold ixN;rw [if_pos (by decide),if_pos (by simp only [Z4];omega)];rfl
 simp only [atI,h];rfl
theorem zz4{α:Type}(a b c:α)(l:List α):atI (a::b::c::l) 2=some c:=by
 have h:ixN (a::b::c::l).length 2=some 2:=by unfold ixN;rw [if_pos (by decide),if_pos (by simp only [Z4];omega)];rfl
 simp only [atI,h];rfl
theorem sz{n:Nat}(h:n<=1000):n<=sizeLine:=xQ h
theorem sz1{n:Nat}(h:n<=1000):n<sizeLine:=uH h
theorem zr4{rs:List (List Pc)}{r:List Pc}(h:r∈rs):(toksR r).length<=(toksMore rs).length:=by
 induction rs with
 |nil=>simp at h
 |cons q rs ih=>
  show _<=(Tk.orr::(toksR q++toksMore rs)).length
  rw [Z4,Z2]
  rcases Z8.mp h with e|e
  ·subst e;omega
  ·have:=ih e;omega
theorem wQ{rs:List (List Pc)}{r:List Pc}(h:r∈rs):(toksR r).length<=(toksRows rs).length:=by
 cases rs with
 |nil=>simp at h
 |cons q rs=>
  show _<=(toksR q++toksMore rs).length
  rw [Z2]
  rcases Z8.mp h with e|e
  ·subst e;omega
  ·have:=zr4 e;omega
theorem sT(n:Nat):ixN (n+1) (-1)=some n:=by
 unfold ixN
 rw [if_neg (by decide),if_pos (by omega)]
 congr 1
 omega
theorem xA{α:Type}(l:List α)(a b:α):(l++[a]).set l.length b=l++[b]:=by
 induction l with
 |nil=>rfl
 |cons x l ih=>show x::(l++[a]).set l.length b=_;rw [ih];rfl
theorem xi1(n:Nat):ixN (n+1) 0=some 0:=by unfold ixN;rw [if_pos (by decide),if_pos (by omega)];rfl
theorem eP(i j:Int):cP (.int i) (.int j)=if 0<j then some (.int (i % j)) else none:=by simp [cP,dII]
theorem iQ(i j:Int):eA (.int i) (.int j)=if 0<j/\j<1073741824 then some (.int (i/j)) else none:=by simp [eA,dII]
local macro_rules|`(tactic|simp! [$a,*] $[$l]?)=>`(tactic|simp [aD,aB,fC,aA,aL,f2,aR,fT,lN,cI,za2,D.imm,aJ,dIx,aX,aV,fIf,D.imms,cA,fJ,cF,aS,fB,dB,cU,cM,cO,gD,bR,jD,aT,fF,dO,cE,zz4,nE,gP,dGe,dLt,fR,dGt,dN,tO,bX,dNe,dLe,eqB,gE,dEq,qY,fIO,jY,gW,fU,cX,bV,eL,cQ,dIs,jC,sH,yb4,yT,zp3,lV,eP,iQ,fKs,yu4,eN,sT,xA,qH,fV,L2.zj0,xi1,$a,*] $[$l]?)
theorem bW(x y:Str):(x++y).cps.toList=x.cps.toList++y.cps.toList:=by
 show(x.cps++y.cps).toList=_
 simp
theorem gX(x y:Str):(x++y).length=x.length+y.length:=by
 show(x.cps++y.cps).size=x.cps.size+y.cps.size
 simp
def sg:Str:=("abcdefghijklmnopqrstuvwxyzABCDEFGHIJKLMNOPQRSTUVWXYZ0123456789":Str)++("!\"#$&'()*+,-./:;<=>?\x40[\\]^_`{|}~":Str)
theorem yi2:sg.cps.toList.length=93:=by decide+kernel
theorem xa8:sg.cps.toList.all wD=true:=by decide+kernel
theorem xa9:sg.length<=sizeLine:=by
 have e:sg.length=sg.cps.toList.length:=by simp [Str.length]
 rw [e,yi2];exact sz (by decide)
theorem pJ{α:Type}(xs:List α)(i:Int)(h0:0<=i)(h1:i<xs.length):∃v∈xs,atI xs i=some v:=by
 have hn:i.toNat<xs.length:=by omega
 obtain⟨v,hv⟩:∃v,xs[i.toNat]? =some v:=⟨_,Zp hn⟩
 refine⟨v,ZT hv,?_⟩
 have e:i=((i.toNat:Nat):Int):=by omega
 rw [e]
 exact zH hv
theorem xn8(i:Int)(h0:0<=i)(h1:i<93):∃c,atI sg.cps.toList i=some c/\wD c=true:=by
 obtain⟨c,hc,e⟩:=pJ sg.cps.toList i h0 (by rw [yi2];omega)
 exact⟨c,e,List.all_eq_true.mp xa8 c hc⟩
theorem yi3(n:Nat):eS 0 n=((List.range n).map fun(k:Nat)=>(k:Int)).map .int:=by
 unfold eS
 rw [Yp]
 refine List.map_congr_left fun k _=> ?_
 show D.int (0+(k:Int))=D.int (k:Int)
 rw [Int.zero_add]
theorem xb0(m:Int):∃s:Int,atI [D.int 1,.int 2,.int 3,.int 4,.int 5,.int 6,.int 7,.int 8,.int 10,.int 11,.int 9,.int 12] (m % 12)=some (.int s)/\1<=s/\s<=12:=by
 have h0:=Zu m (show(12:Int)≠0 by decide)
 have h1:=Zr m (show(0:Int)<12 by decide)
 obtain⟨d,hd,e⟩:=pJ [D.int 1,.int 2,.int 3,.int 4,.int 5,.int 6,.int 7,.int 8,.int 10,.int 11,.int 9,.int 12] (m % 12) h0 (by simpa using h1)
 simp only [Z8,ZK,YF] at hd
 rcases hd with rfl|rfl|rfl|rfl|rfl|rfl|rfl|rfl|rfl|rfl|rfl|rfl<;>exact⟨_,e,by decide,by decide⟩
theorem xi2(k:Int):∃x:Str,atI [D.str (Str.ofString " "),.str (Str.ofString " "),.str (Str.ofString " "),.str (Str.ofString "")] (k % 4)=some (.str x)/\(x=""\/x=" "):=by
 have h0:=Zu k (show(4:Int)≠0 by decide)
 have h1:=Zr k (show(0:Int)<4 by decide)
 obtain⟨d,hd,e⟩:=pJ [D.str (Str.ofString " "),.str (Str.ofString " "),.str (Str.ofString " "),.str (Str.ofString "")] (k % 4) h0 (by simpa using h1)
 simp only [Z8,ZK,YF] at hd
 rcases hd with rfl|rfl|rfl|rfl
 ·exact⟨_,e,.inr rfl⟩
 ·exact⟨_,e,.inr rfl⟩
 ·exact⟨_,e,.inr rfl⟩
 ·exact⟨_,e,.inl rfl⟩
theorem xb1(a b k:Int)(ha:0<=a/\a<=40)(hb:0<=b/\b<=40):∃c:Int,atI [D.int a,.int b] (k % 2)=some (.int c)/\0<=c/\c<=40:=by
 have h0:=Zu k (show(2:Int)≠0 by decide)
 have h1:=Zr k (show(0:Int)<2 by decide)
 obtain⟨d,hd,e⟩:=pJ [D.int a,.int b] (k % 2) h0 (by simpa using h1)
 simp only [Z8,ZK,YF] at hd
 rcases hd with rfl|rfl
 ·exact⟨_,e,ha⟩
 ·exact⟨_,e,hb⟩
theorem xi3{α:Type}(a b c d:α):atI [a,b,c,d] 3=some d:=rfl
theorem xb2{i j:Int}(h1: -1000000<=i)(h2:i<=1000000)(h3: -1000000<=j)(h4:j<=1000000):zg5 [.int i,.int j]=some (eS i (j-i).toNat):=by
 rw [zg5]
 exact if_pos ⟨by omega,by omega,by omega,by omega⟩
theorem xb3{j:Int}(h3: -1000000<=j)(h4:j<=1000000):pA [.int j]=some (eS 0 j.toNat):=by
 rw [pA]
 exact if_pos ⟨by omega,by omega⟩
theorem xi4(a:Int)(n:Nat):eS a n=((List.range n).map fun(k:Nat)=>a+(k:Int)).map .int:=by
 unfold eS
 rw [Yp];rfl
theorem aK{f g:tz1}{p p':PSt}(h:f p=some (.nx,p')):aV f g p=g p':=by unfold aV;rw [h];rfl
theorem dQ{f g:tz1}{p p':PSt}{R:Fl}(h:f p=some (.nx,p'))(e:∃q,g p'=some (R,q)):∃q,aV f g p=some (R,q):=e.elim fun q e=>⟨q,(aK h).trans e⟩
theorem dP{f g:tz1}{p p':PSt}{d:D}(h:f p=some (.ret d,p')):aV f g p=some (.ret d,p'):=by unfold aV;rw [h];rfl
theorem zz5{c:PSt->Option (Bool×PSt)}{f g:tz1}{p p':PSt}(h:c p=some (true,p')):fIf c f g p=f p':=by unfold fIf;rw [h];rfl
theorem dI{c:PSt->Option (Bool×PSt)}{f g:tz1}{p p':PSt}(h:c p=some (false,p')):fIf c f g p=g p':=by unfold fIf;rw [h];rfl
theorem bF{i:Nat}{f:tz2}{p:PSt}{d:D}(h:f p=some d):aS i (aJ f) p=some (.nx,p.set i (some d)):=by unfold aS aJ;rw [h];rfl
theorem bY{f:tz2}{p:PSt}{d:D}(h:f p=some d):cI (aJ f) p=some (.ret d,p):=by unfold cI aJ;rw [h];rfl
theorem jW{np n:Nat}{f:tz1}{ds:List D}{d:D}{p:PSt}(hl:ds.length=np)(h:f (ds.map some++List.replicate n none)=some (.ret d,p)):gP np n f ds=some d:=by
 unfold gP;rw [if_pos hl,h];rfl
theorem aN{g:D->D->Option D}{fa fb:tz2}{p:PSt}{x y d:D}(h1:fa p=some x)(h2:fb p=some y)(h3:g x y=some d):f2 g fa fb p=some d:=by unfold f2;rw [h1,h2];exact h3
theorem aZ{h:tz6}{g:tz3}{p:PSt}{ds:List D}{d:D}(h1:g p=some ds)(h2:h ds=some d):aL h g p=some d:=by unfold aL;rw [h1];exact h2
theorem yi4{o o':Bool}{ys zs:List D}(h1:D.imms ys=true)(h2:D.imms zs=true)(h:ys.length+zs.length<=1000):cA (.lst o ys) (.lst o' zs)=some (.lst true (ys++zs)):=by
 rw [cA]
 exact if_pos (by rw [h1,h2];simpa using sz h)
theorem aE{f:tz2}{g:tz3}{p:PSt}{d:D}{ds:List D}(h1:f p=some d)(h2:g p=some ds):aA f g p=some (d::ds):=by unfold aA;rw [h1,h2];rfl
theorem fK{g:tz3}{p:PSt}{ds:List D}(h:g p=some ds)(hl:ds.length<=1000):cE g p=some (.lst true ds):=by unfold cE;rw [h];exact if_pos hl
theorem xb4(a:Int)(b c:Nat)(hc:0<c):∃n:Nat,(b:Int)+a % (c:Int)=(n:Int)/\n<b+c:=by
 have h1:=Zu a (show(c:Int)≠0 by omega)
 have h2:=Zr a (show(0:Int)<c by omega)
 exact⟨(b+a % c).toNat,by omega,by omega⟩
theorem yE(k:Nat)(n:Nat):eS (k:Int) (n+1)= .int k::eS ((k+1:Nat):Int) n:=by
 unfold eS
 rw [List.range_succ_eq_map,Za,Yp]
 congr 1
 ·simp
  intro j _
  omega
theorem yq3{n:Nat}(h:n<=1000):pA [.int (n:Int)]=some (eS ((0:Nat):Int) n):=xb3 (j:=(n:Int)) (by omega) (by omega)
theorem cW{g:tz3}{p:PSt}{ds:List D}(h:g p=some ds)(hi:D.imms ds=true)(hl:ds.length<=1000):aT g p=some (.tup ds):=by
 unfold aT
 rw [h]
 exact if_pos (by rw [hi];simpa using hl)
theorem kO{i:Nat}{p:PSt}{d:D}(h:p[i]? =some (some d)):aB i p=some d:=by unfold aB;rw [h];rfl
theorem bZ{f:tz4}{p:PSt}{b:Bool}(h:f p=some b):aX f p=some (b,p):=by unfold aX;rw [h];rfl
theorem dJ{f:tz2}{p:PSt}{b:Bool}(h:f p=some (.bl b)):fB f p=some b:=by unfold fB;rw [h];rfl
theorem jA{f:tz2}{p:PSt}{b:Bool}(h:f p=some (.bl b)):fT f p=some b:=by unfold fT;rw [h];rfl
theorem dZ{f g:tz4}{p:PSt}(h:f p=some false):bV f g p=some false:=by unfold bV;rw [h];rfl
theorem eI{f g:tz4}{p:PSt}{b:Bool}(h:f p=some true)(h2:g p=some b):bV f g p=some b:=by unfold bV;rw [h];exact h2
theorem yv5{f g:tz4}{p:PSt}(h:f p=some true):nE f g p=some true:=by unfold nE;rw [h];rfl
theorem mJ{f g:tz4}{p:PSt}{b:Bool}(h:f p=some false)(h2:g p=some b):nE f g p=some b:=by unfold nE;rw [h];exact h2
theorem gY{f:tz4}{p:PSt}{b:Bool}(h:f p=some b):jC f p=some (!b):=by unfold jC;rw [h];rfl
theorem bH{c:tz4}{F:tz1}{p:PSt}(h:c p=some false):fIf (aX c) F cF p=some (.nx,p):=(dI (bZ h)).trans rfl
theorem bG{c:tz4}{F G:tz1}{p:PSt}(h:c p=some true):fIf (aX c) F G p=F p:=zz5 (bZ h)
def kdT(i:Nat)(w:String):tz4:=fB (f2 dEq (f2 dIx (aB i) (fC (.int 0))) (fC (.str w)))
theorem fG{i:Nat}{p:PSt}{k w:String}{ds:List D}{b:Bool}(hp:p[i]? =some (some (.tup (.str k::ds))))(h:decide (k=w)=b):kdT i w p=some b:=by
 refine dJ (aN (aN (kO hp) rfl (lN _ _)) rfl ?_)
 show some (D.bl (decide ((k:Str)=(w:Str))))=_
 rw [<-h]
 congr 2
 exact Ys.mpr (by rw [gD])
theorem qB{f:tz8}{p p':PSt}{d:D}(h:f p=some (d,p')):cU f p=some (.nx,p'):=by unfold cU;rw [h];rfl
theorem uU{as:List L2.Arg}{g:tz7}{p:PSt}{ds ds':List D}{d:D}(h1:cO as p=some ds)(h2:g ds=some (d,ds'))(h3:ds'.length=as.length):fIO as g p=some (d,gW p as ds'):=by unfold fIO;rw [h1,Z7,h2,Z7,if_pos h3]
theorem cB{f:tz2}{p:PSt}{d:D}(h:f p=some d)(hi:d.imm=true):aR f p=some d:=by unfold aR;rw [h];exact if_pos hi
theorem iK{p:PSt}:cO [] p=some []:=rfl
theorem dS{f:tz2}{as:List L2.Arg}{p:PSt}{d:D}{ds:List D}(h:f p=some d)(hi:d.imm=true)(h2:cO as p=some ds):cO (.im f::as) p=some (d::ds):=by
 show(aR f p).bind _=_
 rw [cB h hi,Z7,h2];rfl
theorem rY{j:Nat}{as:List L2.Arg}{p:PSt}{d:D}{ds:List D}(h:p[j]? =some (some d))(h2:cO as p=some ds):cO (.io j::as) p=some (d::ds):=by
 show((p[j]?).join).bind _=_
 rw [h,YH,Z7,h2];rfl
theorem rZ{x y:Str}(h:x.cps.toList=y.cps.toList):x=y:=by
 cases x;cases y
 congr
 exact X9.mp h
section
variable{c:Nat}
theorem sV(x y:Str)(r:List Str):(Str.join ⟨#[c]⟩ (x::y::r)).cps.toList=x.cps.toList++c::(Str.join ⟨#[c]⟩ (y::r)).cps.toList:=by
 show((x++⟨#[c]⟩)++Str.join ⟨#[c]⟩ (y::r)).cps.toList=_
 rw [bW,bW]
 show(x.cps.toList++[c])++_=_
 simp
end
structure Gm where
 kd:Nat
 n:Int
 full:List (List Pc)
 parts:List Pc
def kdS:Nat->String
 |0=>"top"
 |1=>"group"
 |2=>"hang"
 |_=>"either"
def gmD(f:Gm):D:= .lst true [.str (kdS f.kd),.int f.n,.lst true (rowsD f.full),.lst true (pcsD f.parts)]
def bQ:List Gm->List D
 |[]=>[]
 |f::fs=>bQ fs++[gmD f]
theorem nB:∀fs,(bQ fs).length=fs.length
 |[]=>rfl
 |f::fs=>by rw [bQ,Z2,nB fs];rfl
def eD:List Pc:=[.leaf (.word "or")]
def nO(f:Gm):List (List Pc):=if f.full=[] then [f.parts,eD] else f.full++[f.parts]
def fO(f:Gm):Pc:=match f.kd with
 |1=> .group f.parts
 |2=> .hang f.n f.parts
 |_=> .either (nO f)
def jM(g:Gm)(p:Pc):Gm:={g with parts:=g.parts++[p]}
mutual
def okP:Pc->Prop
 | .leaf l=>eR l
 | .group r=>okR r
 | .hang n r=>(0<=n/\n<=12)/\okR r
 | .either rs=>(2<=rs.length/\rs.length<=4)/\okRs rs
def okR:List Pc->Prop
 |[]=>True
 |p::r=>okP p/\okR r
def okRs:List (List Pc)->Prop
 |[]=>True
 |r::rs=>okR r/\okRs rs
end
theorem vW:∀a b:List Pc,okR (a++b)↔okR a/\okR b
 |[],b=>by simp [okR]
 |p::a,b=>by rw [ZN,okR,okR,vW a b,and_assoc]
theorem xB:∀a b:List (List Pc),okRs (a++b)↔okRs a/\okRs b
 |[],b=>by simp [okRs]
 |p::a,b=>by rw [ZN,okRs,okRs,xB a b,and_assoc]
theorem zt6(p:Pc):okR [p]↔okP p:=by simp [okR]
theorem zm1(r:List Pc):okRs [r]↔okR r:=by simp [okRs]
theorem qC:∀a b:List (List Pc),toksMore (a++b)=toksMore a++toksMore b
 |[],b=>rfl
 |r::a,b=>by
  show Tk.orr::(toksR r++toksMore (a++b))=(Tk.orr::(toksR r++toksMore a))++toksMore b
  rw [qC a b];simp
def wF(f:Gm):Nat:=(toksMore f.full).length+(toksR f.parts).length+4
def wG:List Gm->Nat
 |[]=>0
 |f::fs=>wF f+wG fs
def xm2(f:Gm):Prop:=okRs f.full/\okR f.parts/\f.full.length<=3/\(f.kd≠3->f.full=[])/\0<=f.n/\f.n<=12
def zq2:List Gm->Prop
 |[]=>False
 |[f]=>f.kd=0
 |f::g::fs=>(1<=f.kd/\f.kd<=3)/\zq2 (g::fs)
def yw3(m:Nat):List Gm->Prop
 |[]=>True
 |f::fs=>depR f.parts+fs.length<=m/\depRs f.full+fs.length<=m/\yw3 m fs
structure GInv(nest k:Nat)(fs:List Gm):Prop where
 len:fs.length<=nest+1
 wt:wG fs<=4*k+4
 each:∀f∈fs,xm2 f
 kinds:zq2 fs
 deep:yw3 nest fs
theorem zz6{f:Gm}(h:f.kd≠3->f.full=[])(hk:1<=f.kd/\f.kd<=3):(bS (fO f)).length<=wF f:=by
 have e:f.kd=1\/f.kd=2\/f.kd=3:=by omega
 unfold wF fO
 rcases e with e|e|e
 ·rw [e];show(Tk.opn::(toksR f.parts++[.cls])).length<=_;rw [Z4,Z2];simp;omega
 ·rw [e];show(Tk.hng f.n::(toksR f.parts++[.bck])).length<=_;rw [Z4,Z2];simp;omega
 ·rw [e]
  show(Tk.eit::(toksRows (nO f)++[.don])).length<=_
  rw [Z4,Z2]
  unfold nO
  cases hf:f.full with
  |nil=>
   rw [if_pos rfl]
   show(toksR f.parts++(Tk.orr::(toksR eD++[]))).length+1+1<=_
   simp [eD,toksR,bS,toksMore]
  |cons r rs=>
   rw [if_neg (by simp)]
   show(toksR r++toksMore (rs++[f.parts])).length+1+1<=(Tk.orr::(toksR r++toksMore rs)).length+_+4
   rw [qC]
   simp [toksMore];omega
theorem yq4{f:Gm}(h:xm2 f)(hk:1<=f.kd/\f.kd<=3):okP (fO f):=by
 obtain⟨h1,h2,h3,h4,h5,h6⟩:=h
 have e:f.kd=1\/f.kd=2\/f.kd=3:=by omega
 unfold fO
 rcases e with e|e|e
 ·rw [e];exact h2
 ·rw [e];exact⟨⟨h5,h6⟩,h2⟩
 ·rw [e]
  show(2<=(nO f).length/\(nO f).length<=4)/\okRs (nO f)
  unfold nO
  by_cases c:f.full=[]
  ·rw [if_pos c]
   refine⟨⟨by simp,by simp⟩,h2,?_,trivial⟩
   exact⟨⟨by decide+kernel,by decide+kernel,by decide+kernel⟩,trivial⟩
  ·rw [if_neg c]
   have hp:1<=f.full.length:=by cases hf:f.full with|nil=>exact absurd hf c|cons a l=>simp
   refine⟨⟨by rw [Z2];simp;omega,by rw [Z2];simp;omega⟩,?_⟩
   rw [xB,zm1];exact⟨h1,h2⟩
theorem yi5{f:Gm}{m k:Nat}(h1:depR f.parts+(k+1)<=m)(h2:depRs f.full+(k+1)<=m):dD (fO f)+k<=m:=by
 unfold fO
 split
 ·show depR f.parts+1+k<=m;omega
 ·show depR f.parts+1+k<=m;omega
 ·show depRs (nO f)+1+k<=m
  unfold nO
  split
  ·show max (depR f.parts) (max (depR eD) 0)+1+k<=m
   have:depR eD=0:=rfl
   omega
  ·rw [sR];omega
theorem GInv.leaf{nest k:Nat}{f:Gm}{fs:List Gm}{l:Leaf}(h:GInv nest k (f::fs))(hl:eR l):GInv nest (k+1) (jM f (.leaf l)::fs):=by
 obtain⟨h1,h2,h3,h4,h5⟩:=h
 have hf:=h3 f Z0
 refine⟨h1,?_,?_,?_,?_⟩
 ·have h2':wF f+wG fs<=4*k+4:=h2
  show(toksMore f.full).length+(toksR (f.parts++[.leaf l])).length+4+wG fs<=_
  rw [mG,Z2]
  unfold wF at h2'
  show _+(_+1)+4+_<=_
  omega
 ·intro x hx
  rcases Z8.mp hx with rfl|hx
  ·obtain⟨a1,a2,a3,a4,a5⟩:=hf
   exact⟨a1,(vW _ _).mpr ⟨a2,(zt6 _).mpr hl⟩,a3,a4,a5⟩
  ·exact h3 x (Z1 _ hx)
 ·cases fs with
  |nil=>exact h4
  |cons g fs=>exact⟨h4.1,h4.2⟩
 ·refine⟨?_,h5.2.1,h5.2.2⟩
  show depR (f.parts++[.leaf l])+fs.length<=nest
  rw [uM]
  have:=h5.1
  show max _ 0+_<=_
  omega
theorem GInv.opener{nest k:Nat}{fs:List Gm}{kd:Nat}{n:Int}(h:GInv nest k fs)(hk:1<=kd/\kd<=3)(hn:0<=n/\n<=12)(hl:fs.length<=nest):GInv nest (k+1) (⟨kd,n,[],[]⟩::fs):=by
 obtain⟨h1,h2,h3,h4,h5⟩:=h
 refine⟨by simp;omega,?_,?_,?_,?_⟩
 ·show 0+0+4+wG fs<=_;omega
 ·intro x hx
  rcases Z8.mp hx with rfl|hx
  ·exact⟨trivial,trivial,ZI _,fun _=>rfl,hn⟩
  ·exact h3 x hx
 ·cases fs with
  |nil=>exact h4.elim
  |cons g fs=>exact⟨hk,h4⟩
 ·exact⟨by show 0+_<=_;omega,by show 0+_<=_;omega,h5⟩
theorem GInv.orr{nest k:Nat}{f:Gm}{fs:List Gm}(h:GInv nest k (f::fs))(hf3:f.full.length<3)(hk:f.kd=3):GInv nest (k+1) ({f with full:=f.full++[f.parts],parts:=[]}::fs):=by
 obtain⟨h1,h2,h3,h4,h5⟩:=h
 have hf:=h3 f Z0
 refine⟨h1,?_,?_,?_,?_⟩
 ·have h2':wF f+wG fs<=4*k+4:=h2
  show(toksMore (f.full++[f.parts])).length+0+4+wG fs<=_
  rw [qC,Z2]
  unfold wF at h2'
  simp [toksMore];omega
 ·intro x hx
  rcases Z8.mp hx with rfl|hx
  ·obtain⟨a1,a2,a3,a4,a5⟩:=hf
   exact⟨(xB _ _).mpr ⟨a1,(zm1 _).mpr a2⟩,trivial,by show(f.full++[f.parts]).length<=3;rw [Z2];simp;omega,fun z=>absurd hk z,a5⟩
  ·exact h3 x (Z1 _ hx)
 ·cases fs with
  |nil=>exact h4
  |cons g fs=>exact⟨h4.1,h4.2⟩
 ·refine⟨?_,?_,h5.2.2⟩
  ·show 0+_<=_
   have:=h5.1;omega
  ·show depRs (f.full++[f.parts])+fs.length<=nest
   rw [sR]
   have a1:=h5.1;have a2:=h5.2.1
   omega
theorem GInv.shut{nest k:Nat}{f g:Gm}{fs:List Gm}(h:GInv nest k (f::g::fs)):GInv nest k (jM g (fO f)::fs):=by
 obtain⟨h1,h2,h3,h4,h5⟩:=h
 have hf:=h3 f Z0
 have hg:=h3 g (Z1 _ Z0)
 have hk:=h4.1
 refine⟨by simp at h1|-;omega,?_,?_,?_,?_⟩
 ·have h2':wF f+(wF g+wG fs)<=4*k+4:=h2
  have t:=zz6 hf.2.2.2.1 hk
  show(toksMore g.full).length+(toksR (g.parts++[fO f])).length+4+wG fs<=_
  rw [mG,Z2,yh6]
  unfold wF at h2' t
  omega
 ·intro x hx
  rcases Z8.mp hx with rfl|hx
  ·obtain⟨a1,a2,a3,a4,a5⟩:=hg
   exact⟨a1,(vW _ _).mpr ⟨a2,(zt6 _).mpr (yq4 hf hk)⟩,a3,a4,a5⟩
  ·exact h3 x (Z1 _ (Z1 _ hx))
 ·cases fs with
  |nil=>exact h4.2
  |cons g' fs=>exact⟨h4.2.1,h4.2.2⟩
 ·obtain⟨d1,d2,d3,d4,d5⟩:=h5
  refine⟨?_,d4,d5⟩
  show depR (g.parts++[fO f])+fs.length<=nest
  rw [uM]
  have:=yi5 (f:=f) (m:=nest) (k:=fs.length) d1 d2
  omega
theorem GInv.more{nest k k':Nat}{fs:List Gm}(h:GInv nest k fs)(hk:k<=k'):GInv nest k' fs:=⟨h.len,by have:=h.wt;omega,h.each,h.kinds,h.deep⟩
theorem yi6:∀{fs:List Gm} {f:Gm},f∈fs->wF f<=wG fs
 |[],_,h=>by simp at h
 |g::fs,f,h=>by
  show wF f<=wF g+wG fs
  rcases Z8.mp h with rfl|h
  ·omega
  ·have:=yi6 h;omega
theorem zz7(p:Pc):1<=(bS p).length:=by cases p<;>simp [bS]
theorem yF:∀r:List Pc,r.length<=(toksR r).length
 |[]=>Z9 _
 |p::r=>by
  show r.length+1<=(bS p++toksR r).length
  rw [Z2]
  have:=yF r;have:=zz7 p;omega
theorem GInv.parts{nest k:Nat}{fs:List Gm}{f:Gm}(h:GInv nest k fs)(hf:f∈fs):f.parts.length<=4*k+4:=by
 have h1:=yi6 hf;have h2:=h.wt;have h3:=yF f.parts
 unfold wF at h1;omega
theorem yG:("\n":Str)=⟨#[10]⟩:=by decide+kernel
theorem yv6:(" ":Str)=⟨#[32]⟩:=by decide+kernel
theorem sW{x y:Str}(h:x.cps.toList=y.cps.toList):x=y:=by
 cases x;cases y
 simp only at h
 rw [X9.mp h]
theorem eM(x:Str):x.length=x.cps.toList.length:=by simp [Str.length]
theorem zd1:∀(n:Nat) (a b:Array Nat),((List.replicate n a).foldl (·++·) b).toList=b.toList++(List.replicate n a.toList).flatten
 |0,a,b=>by simp
 |n+1,a,b=>by
  rw [Y3,List.foldl_cons,zd1 n a (b++a),Y3,Ym]
  simp
theorem zm2(n:Int):(Txt.mul " " n).cps.toList=List.replicate n.toNat 32:=by
 rw [yv6]
 unfold Txt.mul
 by_cases h:n<1
 ·rw [if_pos h,show n.toNat=0 by omega];rfl
 ·rw [if_neg h]
  by_cases h1:n=1
  ·subst h1;rfl
  ·rw [if_neg]
   ·show((List.replicate n.toNat #[32]).foldl (·++·) #[]).toList=_
    rw [zd1]
    simp
   ·simp [h1,Str.length]
theorem sA(n:Int):(Txt.mul " " n).length=n.toNat:=by rw [eM,zm2,YM]
theorem yi7(n:Int):(10:Nat)∉(Txt.mul " " n).cps.toList:=by rw [zm2];simp
def col(t:Str):Nat:=(t.cps.toList.reverse.takeWhile (· !=10)).length
theorem yi8{l:List Nat}(h:(10:Nat)∉l):∀a∈l,(a !=10)=true:=fun a ha=>by
 simp only [bne_iff_ne,ne_eq]
 intro e;subst e;exact h ha
theorem zT{t w:Str}(h:(10:Nat)∉w.cps.toList):col (t++w)=col t+w.length:=by
 unfold col
 rw [bW,YW,Xh (yi8 (by simpa using h)),Z2,YX,eM]
 omega
theorem zm3{t w:Str}(h:(10:Nat)∉w.cps.toList):col (t++((⟨#[10]⟩:Str)++w))=w.length:=by
 unfold col
 rw [bW,bW,YW,YW,Ze,Xh (yi8 (by simpa using h)),Z2,YX,eM]
 simp
theorem xi5(t:Str):col t<=t.length:=by
 unfold col
 rw [eM,<-YX (as:=t.cps.toList)]
 exact(List.takeWhile_sublist _).length_le
theorem zg0{t:Str}{i:Nat}:StrLaws.At t ⟨#[10]⟩ t.length i↔t.cps.toList[i]? =some 10:=by
 unfold StrLaws.At Builtin.Str.subAt
 show i+1<=t.length/\(t.cps.extract i (i+1)== #[10])=true↔_
 rw [Yr,<-X9]
 have e:(t.cps.extract i (i+1)).toList=(t.cps.toList.drop i).take 1:=by simp [YO,List.extract]
 rw [e,eM]
 constructor
 ·intro ⟨h1,h2⟩
  rw [Zp (by omega)]
  rw [ZS (by omega)] at h2
  simpa using h2
 ·intro h
  obtain⟨hi,h2⟩:=Z6.mp h
  refine⟨by omega,?_⟩
  rw [ZS hi,h2]
  rfl
theorem yi9(t:Str):(t.length:Int)-1-Txt.rfind t ⟨#[10]⟩=(col t:Int):=by
 rcases rfind_whole t ⟨#[10]⟩ with ⟨e,h⟩|⟨i,e,h1,h2⟩
 ·have hn:(10:Nat)∉t.cps.toList:=fun hm=>by
   obtain⟨i,hi⟩:=YQ hm
   exact h i (zg0.mpr hi)
  have:=zT (t:=⟨#[]⟩) hn
  have e0:(⟨#[]⟩:Str)++t=t:=sW (by rw [bW];rfl)
  rw [e0,show col ⟨#[]⟩=0 from rfl] at this
  rw [e,this];omega
 ·rw [zg0] at h1
  obtain⟨hi,h3⟩:=Z6.mp h1
  have hs:t.cps.toList=t.cps.toList.take i++10::t.cps.toList.drop (i+1):=by
   rw [<-h3,<-ZS hi,List.take_append_drop]
  have hn:(10:Nat)∉t.cps.toList.drop (i+1):=fun hm=>by
   obtain⟨j,hj⟩:=YQ hm
   rw [List.getElem?_drop] at hj
   exact h2 (i+1+j) (by omega) (zg0.mpr hj)
  have e1:t=(⟨(t.cps.toList.take i).toArray⟩:Str)++((⟨#[10]⟩:Str)++(⟨(t.cps.toList.drop (i+1)).toArray⟩:Str)):=sW (by
   rw [bW,bW]
   exact hs)
  have e2:=zm3 (t:=⟨(t.cps.toList.take i).toArray⟩) (w:=⟨(t.cps.toList.drop (i+1)).toArray⟩) hn
  rw [<-e1] at e2
  rw [e,e2,eM,eM]
  show((t.cps.toList.length:Nat):Int)-1-(i:Int)=(((t.cps.toList.drop (i+1)).length:Nat):Int)
  rw [List.length_drop]
  omega
def nlw(m:Int):Str:=(⟨#[10]⟩:Str)++Txt.mul " " m
def wr(b:Bool)(m:Int)(k:Nat):Leaf->Option Str
 | .word x=>some x
 | .gap x=>if b then some (nlw m) else some x
 | .stop c=>if (k:Int)<=c then some (Txt.mul " " (c-k)) else if b then some (nlw c) else none
 | .fin=>if b then some (nlw m) else none
def Wr(w:Str):Prop:=(10:Nat)∉w.cps.toList\/∃m:Int,w=nlw m
theorem xb5{x:Str}(h:zp6 x):(10:Nat)∉x.cps.toList:=fun hm=>by
 have:=List.all_eq_true.mp h.2.2 _ hm
 simp [wD] at this
theorem xi6{x:Str}(h:x=""\/x=" "):(10:Nat)∉x.cps.toList:=by
 rcases h with rfl|rfl
 ·simp [show("":Str)=⟨#[]⟩ from by decide+kernel]
 ·simp [yv6]
theorem zz8{b:Bool}{m:Int}{k:Nat}{l:Leaf}{w:Str}(hl:eR l)(h0:0<=m)(h1:m<=200)(h:wr b m k l=some w):Wr w/\w.length<=201:=by
 have nl:∀c:Int,0<=c->c<=200->Wr (nlw c)/\(nlw c).length<=201:=fun c c0 c1=>⟨.inr ⟨c,rfl⟩,by unfold nlw;rw [gX,sA];show 1+_<=_;omega⟩
 cases l with
 |word x=>cases h;exact⟨.inl (xb5 hl),by have:=hl.2.1;omega⟩
 | gap x=>
  cases b with
  |true=>cases h;exact nl m h0 h1
  |false=>
   have e:x=w:=by simpa [wr] using h
   subst e
   have hl':x=""\/x=" ":=hl
   refine⟨.inl (xi6 hl'),?_⟩
   rcases hl' with e|e<;>subst e
   ·show(0:Nat)<=201;decide
   ·show(1:Nat)<=201;decide
 | stop c=>
  have hc:0<=c/\c<=40:=hl
  change (if (k:Int)<=c then some (Txt.mul " " (c-k)) else if b=true then some (nlw c) else none)=some w at h
  by_cases hk:(k:Int)<=c
  ·rw [if_pos hk] at h;cases h
   exact⟨.inl (yi7 _),by rw [sA];omega⟩
  ·rw [if_neg hk] at h
   cases b with
   |true=>cases h;exact nl c hc.1 (by omega)
   |false=>cases h
 |fin=>
  cases b with
  |true=>cases h;exact nl m h0 h1
  |false=>cases h
mutual
def cJ:Bool->Int->Pc->List Int->Str->Option (List Int×Str)
 |b,m,.leaf l,cs,t=>(wr b m (col t) l).map fun w=>(cs,t++w)
 | b,m,.group r,cs,t=>if b=true then(match cs with
   |[]=>none
   |c::cs=>if c=0 then setR false m r cs t else if c=1 then setR true m r cs t else none) else setR false m r cs t
 |b,m,.hang n r,cs,t=>setR b (m+n) r cs t
 | b,m,.either rs,cs,t=>match cs with
   |[]=>none
   |c::cs=>if 0<=c then setAt b m rs c.toNat cs t else none
def setR:Bool->Int->List Pc->List Int->Str->Option (List Int×Str)
 |_,_,[],cs,t=>some (cs,t)
 |b,m,p::r,cs,t=>(cJ b m p cs t).bind fun s=>setR b m r s.1 s.2
def setAt:Bool->Int->List (List Pc)->Nat->List Int->Str->Option (List Int×Str)
 |_,_,[],_,_,_=>none
 |b,m,r::_,0,cs,t=>setR b m r cs t
 |b,m,_::rs,i+1,cs,t=>setAt b m rs i cs t
end
theorem qU:∀{rs:List (List Pc)} {i:Nat} {b:Bool} {m:Int} {cs:List Int} {t:Str} {r:List Pc},rs[i]? =some r->setAt b m rs i cs t=setR b m r cs t
 |[],i,_,_,_,_,_,h=>by simp at h
 |q::rs,0,_,_,_,_,_,h=>by simp at h;subst h;rw [setAt]
 |q::rs,i+1,_,_,_,_,_,h=>by rw [setAt];exact qU (by simpa using h)
theorem yH:∀{rs:List (List Pc)} {i:Nat} {b:Bool} {m:Int} {cs:List Int} {t:Str},rs[i]? =none->setAt b m rs i cs t=none
 |[],i,_,_,_,_,h=>by rw [setAt]
 |q::rs,0,_,_,_,_,h=>by simp at h
 |q::rs,i+1,_,_,_,_,h=>by rw [setAt];exact yH (by simpa using h)
mutual
theorem qV:∀{p:Pc} {b:Bool} {m:Int} {cs cs':List Int} {t t':Str} (x:List Int),cJ b m p cs t=some (cs',t')->cJ b m p (cs++x) t=some (cs'++x,t')
 | .leaf l,b,m,cs,cs',t,t',x,h=>by
  rw [cJ] at h|-
  cases e:wr b m (col t) l with
  |none=>rw [e] at h;cases h
  |some w=>rw [e] at h;cases h;rfl
 | .group r,b,m,cs,cs',t,t',x,h=>by
  rw [cJ.eq_def] at h|-
  simp only at h|-
  cases b with
  |false=>simp only [Y8,X4] at h|-;exact setR_more x h
  | true=>
   cases cs with
   |nil=>simp at h
   | cons c cs=>
    simp only [Yc,ZN] at h|-
    by_cases c0:c=0
    ·simp only [c0,Yc] at h|-;exact setR_more x h
    ·by_cases c1:c=1
     ·simp only [c1,Yc] at h|-;exact setR_more x h
     ·simp [c0,c1] at h
 | .hang n r,b,m,cs,cs',t,t',x,h=>by rw [cJ] at h|-;exact setR_more x h
 | .either rs,b,m,cs,cs',t,t',x,h=>by
  rw [cJ.eq_def] at h|-
  cases cs with
  |nil=>cases h
  |cons c cs=>
   simp only [ZN] at h|-
   by_cases c0:0<=c
   ·simp only [c0,Yc] at h|-;exact setAt_more x h
   ·simp [c0] at h
theorem setR_more:∀{r:List Pc} {b:Bool} {m:Int} {cs cs':List Int} {t t':Str} (x:List Int),setR b m r cs t=some (cs',t')->setR b m r (cs++x) t=some (cs'++x,t')
 |[],b,m,cs,cs',t,t',x,h=>by rw [setR] at h|-;cases h;rfl
 | p::r,b,m,cs,cs',t,t',x,h=>by
  rw [setR] at h|-
  cases e:cJ b m p cs t with
  |none=>rw [e] at h;cases h
  |some s=>
   obtain⟨c1,t1⟩:=s
   rw [e] at h
   rw [qV x e]
   exact setR_more x h
theorem setAt_more:∀{rs:List (List Pc)} {i:Nat} {b:Bool} {m:Int} {cs cs':List Int} {t t':Str} (x:List Int),setAt b m rs i cs t=some (cs',t')->setAt b m rs i (cs++x) t=some (cs'++x,t')
 |[],i,b,m,cs,cs',t,t',x,h=>by rw [setAt] at h;cases h
 |r::rs,0,b,m,cs,cs',t,t',x,h=>by rw [setAt] at h|-;exact setR_more x h
 |r::rs,i+1,b,m,cs,cs',t,t',x,h=>by rw [setAt] at h|-;exact setAt_more x h
end
abbrev nsP:List Str:=["broken","margin"]
def aQ(b:Bool)(m:Int):D:= .obj false "Place" nsP [.bl b,.int m]
abbrev gK:tz7:=gE 3 0 (bX [true,false,false]) uE
theorem zz9(b:Bool)(m:Int):gK [.obj true "Place" [] [],.bl b,.int m]=some (.non,[.obj true "Place" nsP [.bl b,.int m],.bl b,.int m]):=by
 kernel_rfl
abbrev ym1:tz6:=gP 0 0 (qJ gK)
abbrev vJ:tz6:=gP 1 0 rC
def oI:Pc->Bool
 | .leaf _=>false
 |_=>true
theorem yq5(p:Pc):vJ [pcD p]=some (.bl (oI p)):=by
 cases p with
 |leaf l=>cases l<;>kernel_rfl
 |_=>kernel_rfl
abbrev vK:tz6:=gP 2 0 oT
def cR(b:Bool):Pc->Bool
 | .either _=>true
 | .group _=>b
 |_=>false
theorem yq6(p:Pc)(b:Bool)(m:Int)(hp:oI p=true):vK [pcD p,aQ b m]=some (.bl (cR b p)):=by
 cases p with
 |leaf l=>cases hp
 |group r=>cases b<;>kernel_rfl
 |_=>kernel_rfl
def cL(b:Bool)(m:Int):Pc->List (List Pc×Bool×Int)
 | .leaf _=>[]
 | .group r=>if b=true then [(r,false,m),(r,true,m)] else [(r,false,m)]
 | .hang n r=>[(r,b,m+n)]
 | .either rs=>rs.map fun r=>(r,b,m)
def eJ(x:List Pc×Bool×Int):D:= .tup [.tup (pcsD x.1),aQ x.2.1 x.2.2]
abbrev zh2:tz6:=gP 2 2 (kB gK)
theorem yj0(b:Bool)(m:Int):(aQ b m).imm=true:=rfl
theorem zU(x:List Pc×Bool×Int):(eJ x).imm=true:=by
 show(D.imm (.tup (pcsD x.1))&&(D.imm (aQ x.2.1 x.2.2)&&D.imms []))=true
 rw [show D.imm (.tup (pcsD x.1))=D.imms (pcsD x.1) from rfl,pcs_imm];rfl
theorem zd2(b:Bool)(m:Int):∀(rs:List (List Pc)) (x:Option D),mP [x,some (aQ b m)] za4 (aT (aA (aR (aB 0)) (aA (aR (aB 1)) aD))) (rowsD rs)=some ((rs.map fun r=>(r,b,m)).map eJ)
 |[],_=>rfl
 | r::rs,x=>by
  have ih:=zd2 b m rs x
  have hi:=yj0 b m
  have hp:=pcs_imm r
  show mP _ _ _ (.tup (pcsD r)::rowsD rs)=_
  rw [mP]
  show(za4 [some (.tup (pcsD r)),some (aQ b m)]).bind _=_
  rw [Za,Za]
  have e:aT (aA (aR (aB 0)) (aA (aR (aB 1)) aD)) [some (.tup (pcsD r)),some (aQ b m)]=some (eJ (r,b,m)):=by
   unfold eJ
   generalize aQ b m=q at hi|-
   simp! [dIn,inB,oZ,D.flat,D.flats,inV,eqV,vC,fOr,kX,fMt,gV,hp,hi]
  show((aT (aA (aR (aB 0)) (aA (aR (aB 1)) aD)) [some (.tup (pcsD r)),some (aQ b m)]).bind _)=_
  rw [e,Z7,ih];rfl
def yw4:Pc->Nat
 | .either rs=>rs.length
 |_=>0
theorem kd2{p:PSt}{k w:String}{b:Bool}(hp:p[2]? =some (some (.str k)))(h:decide (k=w)=b):fB (f2 dEq (aB 2) (fC (.str w))) p=some b:=by
 refine dJ (aN (kO hp) rfl ?_)
 show some (D.bl (decide ((k:Str)=(w:Str))))=_
 rw [<-h]
 congr 2
 exact Ys.mpr (by rw [gD])
theorem xC{p:PSt}{f g:tz2}{b:Bool}{m:Int}(h1:f p=some (.bl b))(h2:g p=some (.int m)):kX (eL "Place" (cO [.im f,.im g]) gK) p=some (aQ b m):=by
 have q:=zz9 b m
 have e:eL "Place" (cO [.im f,.im g]) gK p=some (.obj true "Place" nsP [.bl b,.int m]):=by
  unfold eL
  rw [dS h1 rfl (dS h2 rfl iK),Z7,q];rfl
 unfold kX
 rw [e];rfl
theorem yq7:ym1 []=some (aQ true 0):=jW (p:=[]) rfl (bY (xC rfl rfl))
theorem zV{p:PSt}{f g:tz2}{r:List Pc}{b:Bool}{m:Int}(h1:f p=some (.tup (pcsD r)))(h2:g p=some (aQ b m)):aT (aA f (aA g aD)) p=some (eJ (r,b,m)):=by
 unfold aT
 rw [aE h1 (aE h2 rfl)]
 refine(if_pos ?_).trans rfl
 have:=zU (r,b,m)
 rw [show D.imms [.tup (pcsD r),aQ b m]=true from this];rfl
theorem xb6(p:Pc)(b:Bool)(m:Int)(hp:oI p=true)(hl:yw4 p<=1000):zh2 [pcD p,aQ b m]=some (.lst true ((cL b m p).map eJ)):=by
 show gP 2 2 (kB gK) _=_
 cases p with
 |leaf l=>cases hp
 | group r=>
  have s1:aS 2 (aJ (aR (f2 dIx (aB 0) (fC (.int 0))))) [some (pcD (.group r)),some (aQ b m),none,none]=some (.nx,[some (pcD (.group r)),some (aQ b m),some (.str "group"),none]):=bF (cB (aN rfl rfl (lN _ _)) rfl)
  have s4:aS 3 (aJ (aT (aA (aR (f2 dIx (aB 0) (fC (.int 1)))) (aA (kX (eL "Place" (cO [.im (fC (.bl false)),.im (cX "Place" "margin" (aB 1))]) gK)) aD)))) [some (pcD (.group r)),some (aQ b m),some (.str "group"),none]=some (.nx,[some (pcD (.group r)),some (aQ b m),some (.str "group"),some (eJ (r,false,m))]):=bF (zV (cB (aN rfl rfl (fJ _ _ _)) (pcs_imm r)) (xC rfl (by kernel_rfl)))
  have w3:aR (aB 3) [some (pcD (.group r)),some (aQ b m),some (.str "group"),some (eJ (r,false,m))]=some (eJ (r,false,m)):=cB rfl (zU _)
  have br:fT (cX "Place" "broken" (aB 1)) [some (pcD (.group r)),some (aQ b m),some (.str "group"),some (eJ (r,false,m))]=some b:=jA (by kernel_rfl)
  suffices h:∃q,kB gK [some (pcD (.group r)),some (aQ b m),none,none]=some (.ret (.lst true ((cL b m (.group r)).map eJ)),q) from by
   obtain⟨q,hq⟩:=h;exact jW rfl hq
  unfold kB
  rw [aK s1,aK (bH (kd2 rfl (by decide))),aK (bH (kd2 rfl (by decide))),aK s4]
  cases b with
  |true=>exact⟨_,dP ((bG br).trans (bY (fK (aE w3 (aE (zV (cB (aN rfl rfl (fJ _ _ _)) (pcs_imm r)) (cB rfl rfl)) rfl)) (Z3 rfl))))⟩
  |false=>exact⟨_,(aK (bH br)).trans (bY (fK (aE w3 rfl) (Z3 rfl)))⟩
 |hang n r=>
  have s1:aS 2 (aJ (aR (f2 dIx (aB 0) (fC (.int 0))))) [some (pcD (.hang n r)),some (aQ b m),none,none]=some (.nx,[some (pcD (.hang n r)),some (aQ b m),some (.str "hang"),none]):=bF (cB (aN rfl rfl (lN _ _)) rfl)
  refine jW (p:=[some (pcD (.hang n r)),some (aQ b m),some (.str "hang"),none]) rfl ?_
  unfold kB
  exact(aK s1).trans (dP ((bG (kd2 rfl (by decide))).trans (bY (fK (aE (zV (cB (aN rfl rfl (zz4 _ _ _ _)) (pcs_imm r)) (xC (by kernel_rfl) (aN (x:= .int m) (by kernel_rfl) (aN rfl rfl (fJ _ _ _)) rfl))) rfl) (Z3 rfl)))))
 | either rs=>
  generalize gK=G
  have hz:(rowsD rs).length<=sizeLine:=by rw [iV];exact sz hl
  have e:=zd2 b m rs none
  have e2:zg6 [none,some 1] (gV (f2 dIx (aB 0) (fC (.int 1)))) za4 (aT (aA (aR (aB 0)) (aA (aR (aB 1)) aD))) [some (pcD (.either rs)),some (aQ b m),some (.str "either"),none]=some (.lst true ((cL b m (.either rs)).map eJ)):=by
   unfold zg6
   have e3:gV (f2 dIx (aB 0) (fC (.int 1))) [some (pcD (.either rs)),some (aQ b m),some (.str "either"),none]=some (rowsD rs):=by simp! [dIn,inB,oZ,D.flat,D.flats,inV,eqV,vC,fOr,kX,fMt,gV,pcD]
   rw [e3,Z7,if_pos hz]
   have e4:mP (qG [none,some 1] [some (pcD (.either rs)),some (aQ b m),some (.str "either"),none]) za4 (aT (aA (aR (aB 0)) (aA (aR (aB 1)) aD))) (rowsD rs)=some ((rs.map fun r=>(r,b,m)).map eJ):=e
   rw [e4];rfl
  have s1:aS 2 (aJ (aR (f2 dIx (aB 0) (fC (.int 0))))) [some (pcD (.either rs)),some (aQ b m),none,none]=some (.nx,[some (pcD (.either rs)),some (aQ b m),some (.str "either"),none]):=by simp! [dIn,inB,oZ,D.flat,D.flats,inV,eqV,vC,fOr,kX,fMt,gV,pcD]
  have s2:∀F:tz1,fIf (aX (fB (f2 dEq (aB 2) (fC (.str "hang"))))) F cF [some (pcD (.either rs)),some (aQ b m),some (.str "either"),none]=some (.nx,[some (pcD (.either rs)),some (aQ b m),some (.str "either"),none]):=fun F=>by simp! [dIn,inB,oZ,D.flat,D.flats,inV,eqV,vC,fOr,kX,fMt,gV]
  have s3:∀F:tz1,fIf (aX (fB (f2 dEq (aB 2) (fC (.str "either"))))) F cF [some (pcD (.either rs)),some (aQ b m),some (.str "either"),none]=F [some (pcD (.either rs)),some (aQ b m),some (.str "either"),none]:=fun F=>by simp! [dIn,inB,oZ,D.flat,D.flats,inV,eqV,vC,fOr,kX,fMt,gV]
  refine jW rfl ?_ (p:=[some (pcD (.either rs)),some (aQ b m),some (.str "either"),none])
  unfold kB
  exact(aK s1).trans ((aK (s2 _)).trans (dP ((s3 _).trans (bY e2))))
abbrev gNl:tz6:=gP 1 0 uC
theorem zg1(m:Int)(h0: -1000<=m)(h1:m<=1000):gO (.str " ") (.int m)=some (.str (Txt.mul " " m)):=by
 rw [gO,if_pos]
 simp only [ZF,ZM]
 exact⟨⟨by decide+kernel,by omega⟩,by omega⟩
theorem yv7(m:Int)(h0:0<=m)(h1:m<=200):gNl [.int m]=some (.str (nlw m)):=by
 have q:=zg1 m (by omega) (by omega)
 have hl:1+(Txt.mul " " m).length<=sizeLine:=by rw [sA];exact sz (by omega)
 have e:((⟨#[10]⟩:Str)++Txt.mul " " m)=nlw m:=rfl
 have e1:cA (.str "\n") (.str (Txt.mul " " m))=some (.str (nlw m)):=by
  rw [yG,cA,if_pos (by exact hl)];rfl
 exact jW rfl (bY (aN rfl (aN rfl rfl q) e1))
abbrev xH:tz6:=gP 3 1 (mS gNl)
def wrD:Option Str->D
 |some w=> .str w
 |none=> .non
theorem kd3{p:PSt}{k w:String}{b:Bool}(hp:p[3]? =some (some (.str k)))(h:decide (k=w)=b):fB (f2 dEq (aB 3) (fC (.str w))) p=some b:=by
 refine dJ (aN (kO hp) rfl ?_)
 show some (D.bl (decide ((k:Str)=(w:Str))))=_
 rw [<-h]
 congr 2
 exact Ys.mpr (by rw [gD])
theorem ya0(l:Leaf)(b:Bool)(m:Int)(k:Nat)(hl:eR l)(h0:0<=m)(h1:m<=200)(hk:k<=1000000):xH [bK l,aQ b m,.int k]=some (wrD (wr b m k l)):=by
 suffices h:∃q,mS gNl [some (bK l),some (aQ b m),some (.int k),none]=some (.ret (wrD (wr b m k l)),q) from by
  obtain⟨q,hq⟩:=h;exact jW rfl hq
 have br:∀d x,fT (cX "Place" "broken" (aB 1)) [some d,some (aQ b m),some (.int k),x]=some b:=fun d x=>jA (by kernel_rfl)
 have mg:∀d x,aL gNl (aA (cX "Place" "margin" (aB 1)) aD) [some d,some (aQ b m),some (.int k),x]=some (.str (nlw m)):=fun d x=>aZ (ds:=[.int m]) (aE (by kernel_rfl) rfl) (yv7 m h0 h1)
 have s1:∀(w:String) (ds:List D),aS 3 (aJ (aR (f2 dIx (aB 0) (fC (.int 0))))) [some (.tup (.str w::ds)),some (aQ b m),some (.int k),none]=some (.nx,[some (.tup (.str w::ds)),some (aQ b m),some (.int k),some (.str w)]):=fun w ds=>bF (cB (aN rfl rfl (lN _ _)) rfl)
 unfold mS
 cases l with
 |word x=>exact⟨_,(aK (s1 "word" [.str x])).trans (dP ((bG (kd3 rfl (by decide))).trans (bY (cB (aN rfl rfl (fJ _ _ _)) rfl))))⟩
 |gap x=>
  show ∃q,aV _ _ [some (.tup [.str "gap",.str x]),some (aQ b m),some (.int k),none]=_
  rw [aK (s1 "gap" [.str x]),aK (bH (kd3 rfl (by decide)))]
  cases b with
  |false=>exact⟨_,dP ((bG (eI (kd3 rfl (by decide)) (gY (br _ _)))).trans (bY (cB (aN rfl rfl (fJ _ _ _)) rfl)))⟩
  |true=>exact⟨_,(aK (bH (eI (kd3 rfl (by decide)) (gY (br _ _))))).trans ((aK (bH (dZ (kd3 rfl (by decide))))).trans ((aK (bH (gY (br _ _)))).trans ((aK (bH (kd3 rfl (by decide)))).trans (bY (mg _ _)))))⟩
 |fin=>
  show ∃q,aV _ _ [some (.tup [.str "end"]),some (aQ b m),some (.int k),none]=_
  rw [aK (s1 "end" []),aK (bH (kd3 rfl (by decide))),aK (bH (dZ (kd3 rfl (by decide)))),aK (bH (dZ (kd3 rfl (by decide))))]
  cases b with
  |false=>exact⟨_,dP ((bG (gY (br _ _))).trans (bY rfl))⟩
  |true=>exact⟨_,(aK (bH (gY (br _ _)))).trans ((aK (bH (kd3 rfl (by decide)))).trans (bY (mg _ _)))⟩
 | stop c=>
  have hc:0<=c/\c<=40:=hl
  show ∃q,aV _ _ [some (.tup [.str "stop",.int c]),some (aQ b m),some (.int k),none]=_
  have le:fB (f2 dLe (aB 2) (f2 dIx (aB 0) (fC (.int 1)))) [some (.tup [.str "stop",.int c]),some (aQ b m),some (.int k),some (.str "stop")]=some (decide ((k:Int)<=c)):=dJ (aN rfl (aN rfl rfl (fJ _ _ _)) rfl)
  rw [aK (s1 "stop" [.int c]),aK (bH (kd3 rfl (by decide))),aK (bH (dZ (kd3 rfl (by decide))))]
  by_cases hkc:(k:Int)<=c
  ·rw [Zl hkc] at le
   rw [show wr b m k (.stop c)=some (Txt.mul " " (c-k)) from if_pos hkc]
   exact⟨_,dP ((bG (eI (kd3 rfl (by decide)) le)).trans (bY (aN rfl (aN (aN rfl rfl (fJ _ _ _)) rfl rfl) (zg1 (c-k) (by omega) (by omega)))))⟩
  ·rw [Zc hkc] at le
   rw [aK (bH (eI (kd3 rfl (by decide)) le))]
   cases b with
   |false=>
    rw [show wr false m k (.stop c)=none from(if_neg hkc).trans rfl]
    exact⟨_,dP ((bG (gY (br _ _))).trans (bY rfl))⟩
   |true=>
    rw [show wr true m k (.stop c)=some (nlw c) from(if_neg hkc).trans rfl]
    exact⟨_,(aK (bH (gY (br _ _)))).trans (dP ((bG (kd3 rfl (by decide))).trans (bY (aZ (aE (aN rfl rfl (fJ _ _ _)) rfl) (yv7 c hc.1 (by omega))))))⟩
theorem yj1{w:Str}:Txt.startswith w ⟨#[10]⟩=decide (w.cps.toList[0]? =some 10):=by
 rw [Yh,ZM,<-zg0 (t:=w) (i:=0)]
 unfold Txt.startswith StrLaws.At
 simp only [ZF,ZM]
abbrev zh3:tz6:=gP 1 0 nG
theorem xb7(w:Str):zh3 [.str w]=some (.bl (decide (w.cps.toList[0]? =some 10))):=by
 rw [<-yj1,<-yG]
 simp! [fMt,nG,nK,zg4]
abbrev za6:tz6:=gP 2 0 (fW zh3)
theorem xb8(t:Str):(⟨#[]⟩:Str)++t=t:=sW (by rw [bW];simp! [fMt])
theorem xb9(a b c:Str):(a++b)++c=a++(b++c):=sW (by simp only [bW,Ze])
def bD(C:List Int):List D:=C.map .int
theorem zd3(a b:List Int):bD (a++b)=bD a++bD b:=by simp! [fMt,bD]
theorem nU(a:List Int):(bD a).length=a.length:=by simp! [fMt,bD]
theorem yj2:∀C:List Int,D.ints (bD C)=some C
 |[]=>rfl
 |c::C=>by show D.ints (.int c::bD C)=_;rw [D.ints,yj2 C];rfl
theorem lT:∀C,D.imms (bD C)=true
 |[]=>rfl
 |c::C=>by show(D.imm (.int c)&&D.imms (bD C))=true;rw [lT C];rfl
theorem lP{α:Type}{xs:List α}{n:Nat}{v:α}(h:xs[n]? =some v):atI xs (n:Int)=some v:=zH h
def lns(t:Str):List Str:=Txt.split t ⟨#[10]⟩
theorem yj3(t:Str):lns t≠[]:=fun z=>by
 have:=split_pos t ⟨#[10]⟩
 rw [show Txt.split t ⟨#[10]⟩=[] from z] at this
 exact absurd this (by decide)
theorem yq8(t:Str):∀p∈lns t,(10:Nat)∉p.cps.toList:=StrLaws.split_free _ 10
theorem xD(t:Str):Str.join ⟨#[10]⟩ (lns t)=t:=StrLaws.join_split _ _
theorem yq9(t:Str):∃xs y,lns t=xs++[y]:=⟨(lns t).dropLast,(lns t).getLast (yj3 t),(List.dropLast_concat_getLast _).symm⟩
theorem zd4:∀(x:Str) (xs:List Str) (y:Str),Str.join ⟨#[10]⟩ (x::xs++[y])=Str.join ⟨#[10]⟩ (x::xs)++((⟨#[10]⟩:Str)++y)
 |x,[],y=>rZ (by rw [ZN,ZV,sV,bW,bW];rfl)
 |x,x'::xs,y=>rZ (by
  rw [ZN,ZN,sV,bW,sV,<-ZN,zd4 x' xs y,bW]
  simp [bW])
theorem yr0{t y:Str}{xs:List Str}(h:lns t=xs++[y]):col t=y.length:=by
 have hf:=yq8 t
 rw [h] at hf
 have hy:=hf y (by simp)
 cases xs with
 |nil=>
  have e:y=t:=by have:=xD t;rw [h] at this;exact this
  have:=zT (t:=⟨#[]⟩) hy
  rw [xb8] at this
  rw [<-e,this]
  show 0+_=_
  omega
 |cons x xs=>
  have:=xD t
  rw [h,zd4] at this
  rw [<-this,zm3 hy]
theorem uV:∀{rs:List (List Pc)} {i:Nat} {r:List Pc},rs[i]? =some r->depR r<=depRs rs
 |[],i,_,h=>by simp at h
 |q::rs,0,_,h=>by simp at h;subst h;rw [depRs];omega
 |q::rs,i+1,_,h=>by have:=uV (rs:=rs) (i:=i) (by simpa using h);rw [depRs];omega
theorem xE:∀{rs:List (List Pc)} {i:Nat} {r:List Pc},okRs rs->rs[i]? =some r->okR r
 |[],i,_,_,h=>by simp at h
 |q::rs,0,_,o,h=>by simp at h;subst h;rw [okRs] at o;exact o.1
 |q::rs,i+1,_,o,h=>by rw [okRs] at o;exact xE (rs:=rs) (i:=i) o.2 (by simpa using h)
abbrev Way:=Unit×List Int
abbrev Frt:=List (Nat×Way)
def ltW(x y:Way):Bool:=L2.zp4 [[],x.2] [[],y.2]
def iL:Frt->Nat->Option Way
 |[],_=>none
 |p::F,j=>if p.1=j then some p.2 else iL F j
def kG:Frt->Nat->Way->Frt
 |[],_,_=>[]
 |p::F,j,y=>(if p.1=j then(p.1,y) else p)::kG F j y
def gF(F:Frt)(k:Nat)(x:Way):Frt:=match iL F k with
 |none=>F++[(k,x)]
 |some y=>if ltW x y=true then kG F k x else F
def iS(F G:Frt):Frt:=G.foldl (fun F p=>gF F p.1 p.2) F
def zq3(n:Int)(p:Nat×Way):Nat×Way:=(p.1,(p.2.1,p.2.2++[n]))
def jI(F:Frt)(n:Int):Frt:=iS [] (F.map (zq3 n))
def lfB(w:Str):Bool:=decide (w.cps.toList[0]? =some 10)
def hdT(W:Str)(k:Nat):Str:=⟨(W.cps.toList.take k).toArray⟩
def cT(W:Str)(k:Nat):Nat:=col (hdT W k)
def iO(W:Str)(b:Bool)(m:Int)(l:Leaf)(k:Nat)(c:Unit):Option (Nat×Unit):=(wr b m (cT W k) l).bind fun w=>
 if Txt.startswith3 W w (k:Int)=true then some (k+w.length,c) else none
def iT(W:Str)(b:Bool)(m:Int)(l:Leaf)(F G:Frt):Frt:=F.foldl (fun G p=>match iO W b m l p.1 p.2.1 with
 |none=>G
 |some s=>gF G s.1 (s.2,p.2.2)) G
def frW(GR:Bool->Int->List Pc->Frt->Frt)(tk:Bool)(F:Frt):Nat->List (List Pc×Bool×Int)->Frt->Frt
 |_,[],A=>A
 |n,x::xs,A=>frW GR tk F (n+1) xs (iS A (GR x.2.1 x.2.2 x.1 (if tk=true then jI F n else F)))
def frP(W:Str)(GR:Bool->Int->List Pc->Frt->Frt)(b:Bool)(m:Int)(F:Frt):Pc->Frt
 | .leaf l=>iT W b m l F []
 |p=>frW GR (cR b p) F 0 (cL b m p) []
def frN(W:Str):Nat->Bool->Int->List Pc->Frt->Frt
 |0,_,_,_,F=>F
 |n+1,b,m,r,F=>r.foldl (fun F p=>frP W (frN W n) b m F p) F
def oQ(W t:Str)(k:Nat):Prop:=t=hdT W k/\k<=W.length
theorem pK(W:Str)(k:Nat):(hdT W k).cps.toList=W.cps.toList.take k:=rfl
theorem yj4{W:Str}{k:Nat}(h:k<=W.length):(hdT W k).length=k:=by
 rw [eM,pK,YD]
 rw [eM] at h
 omega
theorem oQ.len{W t:Str}{k:Nat}(h:oQ W t k):t.length=k:=by rw [h.1];exact yj4 h.2
theorem sX{W w:Str}{k:Nat}(hk:k<=W.length):Txt.startswith3 W w (k:Int)=true↔k+w.length<=W.length/\hdT W k++w=hdT W (k+w.length):=by
 have e1:PySem.fromIndex W.length (k:Int)=k:=by
  unfold PySem.fromIndex
  rw [if_neg (by omega)]
  omega
 unfold Txt.startswith3
 rw [e1,ZF,ZM]
 refine and_congr_right fun hl=> ?_
 unfold Builtin.Str.subAt
 rw [Yr]
 have lw:w.length=w.cps.toList.length:=eM w
 have lW:W.length=W.cps.toList.length:=eM W
 constructor
 ·intro h
  refine rZ ?_
  rw [bW,pK,pK]
  have h2:=ZP Array.toList h
  rw [YO] at h2
  rw [<-h2,List.extract_eq_drop_take,show k+w.length-k=w.length by omega,List.take_add]
 ·intro h
  have h2:=ZP (fun x:Str=>x.cps.toList) h
  simp only [bW,pK] at h2
  rw [List.take_add] at h2
  have h3:=Yl h2
  apply Array.ext'
  rw [YO,List.extract_eq_drop_take,show k+w.length-k=w.length by omega]
  exact h3.symm
def Hit(W:Str)(R:List Int->Str->Prop)(p:Nat×Way):Prop:=∃t,R p.2.2 t/\oQ W t p.1
structure Good(W:Str)(R:List Int->Str->Prop)(F:Frt):Prop where
 nd:(F.map (·.1)).Nodup
 hit:∀p∈F,Hit W R p
theorem Good.nil{W:Str}{R:List Int->Str->Prop}:Good W R []:=⟨Zf,fun _ h=>nomatch h⟩
theorem Good.mono{W:Str}{R R':List Int->Str->Prop}{F:Frt}(h:Good W R F)(k:∀c t,R c t->R' c t):Good W R' F:=⟨h.nd,fun p hp=>by
 obtain⟨t,h1,h2⟩:=h.hit p hp
 exact⟨t,k _ _ h1,h2⟩⟩
theorem uW:∀{F:Frt} {k:Nat},iL F k=none->k∉F.map (·.1)
 |[],_,_=>by simp
 | p::F,k,h=>by
  rw [iL] at h
  by_cases e:p.1=k
  ·rw [if_pos e] at h;cases h
  ·rw [if_neg e] at h
   simp only [Za,Z8,not_or]
   exact⟨fun z=>e z.symm,uW h⟩
theorem qW:∀(F:Frt) (k:Nat) (y:Way),(kG F k y).map (·.1)=F.map (·.1)
 |[],_,_=>rfl
 |p::F,k,y=>by
  rw [kG,Za,Za,qW F]
  by_cases e:p.1=k
  ·rw [if_pos e]
  ·rw [if_neg e]
theorem zm4:∀{F:Frt} {k:Nat} {y:Way} {p:Nat×Way},p∈kG F k y->p=(k,y)\/p∈F
 |[],_,_,_,h=>by cases h
 | q::F,k,y,p,h=>by
  rw [kG] at h
  rcases Z8.mp h with e|e
  ·by_cases z:q.1=k
   ·rw [if_pos z,z] at e;exact .inl e
   ·rw [if_neg z] at e;exact .inr (by rw [e];exact Z0)
  ·exact(zm4 e).imp id (Z1 _)
theorem zd5{W:Str}{R:List Int->Str->Prop}{F:Frt}{k:Nat}{x:Way}(h:Good W R F)(hx:Hit W R (k,x)):Good W R (gF F k x):=by
 unfold gF
 cases e:iL F k with
 | none=>
  simp only
  refine⟨?_,fun p hp=> ?_⟩
  ·rw [ZU,Zy]
   refine⟨h.nd,by simp,fun a ha b hb z=> ?_⟩
   simp only [Za,X1,ZA] at hb
   subst hb
   subst z
   exact uW e ha
  ·rcases ZB.mp hp with z|z
   ·exact h.hit p z
   ·rw [ZA.mp z];exact hx
 | some y=>
  simp only
  by_cases c:ltW x y=true
  ·rw [if_pos c]
   refine⟨by rw [qW];exact h.nd,fun p hp=> ?_⟩
   rcases zm4 hp with z|z
   ·rw [z];exact hx
   ·exact h.hit p z
  ·rw [if_neg c];exact h
theorem rL{W:Str}{R:List Int->Str->Prop}:∀{G F:Frt},Good W R F->(∀p∈G,Hit W R p)->Good W R (iS F G)
 |[],F,h,_=>h
 |p::G,F,h,hG=>rL (G:=G) (zd5 h (hG p Z0)) fun q hq=>hG q (Z1 _ hq)
def zh4(R:List Int->Str->Prop)(n:Int):List Int->Str->Prop:=fun cs t=>∃c0,R c0 t/\cs=c0++[n]
theorem sY{W:Str}{R:List Int->Str->Prop}{F:Frt}(h:Good W R F)(n:Int):Good W (zh4 R n) (jI F n):=rL .nil fun p hp=>by
 obtain⟨q,hq,rfl⟩:=Yg.mp hp
 obtain⟨t,h1,h2⟩:=h.hit q hq
 exact⟨t,⟨_,h1,rfl⟩,h2⟩
def Aft(R:List Int->Str->Prop)(set:List Int->Str->Option (List Int×Str)):List Int->Str->Prop:=fun cs t=>∃c0 t0 c1,R c0 t0/\cs=c0++c1/\set c1 t0=some ([],t)
theorem xi7(m:Int):lfB (nlw m)=true:=by
 unfold lfB nlw
 rw [bW]
 exact Zl rfl
theorem xn9{w:Str}(h:(10:Nat)∉w.cps.toList):lfB w=false:=by
 unfold lfB
 refine Zc fun e=>h (ZT e)
theorem yr1{W:Str}{b:Bool}{m:Int}{l:Leaf}{k:Nat}{c:Unit}{s:Nat×Unit}{t:Str}(hc:oQ W t k)(h:iO W b m l k c=some s):∃w,wr b m (col t) l=some w/\oQ W (t++w) s.1:=by
 unfold iO at h
 obtain⟨rfl,hk⟩:=hc
 cases e:wr b m (cT W k) l with
 |none=>rw [e] at h;cases h
 | some w=>
  rw [e,Z7] at h
  refine⟨w,e,?_⟩
  by_cases z:Txt.startswith3 W w (k:Int)=true
  ·rw [if_pos z] at h
   cases h
   obtain⟨z1,z2⟩:=(sX hk).mp z
   exact⟨z2,z1⟩
  ·rw [if_neg z] at h;cases h
theorem yI{W:Str}{R:List Int->Str->Prop}{b:Bool}{m:Int}{l:Leaf}(hl:eR l)(h0:0<=m)(h1:m<=200):∀{F G:Frt},(∀p∈F,Hit W R p)->Good W (Aft R (cJ b m (.leaf l))) G->Good W (Aft R (cJ b m (.leaf l))) (iT W b m l F G)
 |[],G,_,hG=>hG
 | p::F,G,hF,hG=>by
  have key:Good W (Aft R (cJ b m (.leaf l))) (match iO W b m l p.1 p.2.1 with|none=>G|some s=>gF G s.1 (s.2,p.2.2)):=by
   cases e:iO W b m l p.1 p.2.1 with
   |none=>exact hG
   |some s=>
    obtain⟨t,r1,r2⟩:=hF p Z0
    obtain⟨w,e1,e2⟩:=yr1 r2 e
    exact zd5 (x:=(s.2,p.2.2)) hG ⟨t++w,⟨_,t,[],r1,by simp,by rw [cJ,e1];rfl⟩,e2⟩
  exact yI (F:=F) hl h0 h1 (fun q hq=>hF q (Z1 _ hq)) key
theorem xc0{b:Bool}{m:Int}{p:Pc}{i:Nat}{x:List Pc×Bool×Int}(hx:(cL b m p)[i]? =some x)(c:List Int)(t:Str):cJ b m p ((if cR b p=true then [(i:Int)] else [])++c) t=setR x.2.1 x.2.2 x.1 c t:=by
 cases p with
 |leaf l=>simp [cL] at hx
 | group r=>
  rw [cJ.eq_def]
  cases b with
  | false=>
   have e:i=0:=by
    cases i with
    |zero=>rfl
    |succ i=>simp [cL] at hx
   subst e
   simp [cL] at hx
   subst hx
   simp [cR]
  |true=>
   match i,hx with
   |0,hx=>simp [cL] at hx;subst hx;simp [cR]
   |1,hx=>simp [cL] at hx;subst hx;simp [cR]
   |i+2,hx=>simp [cL] at hx
 | hang n r=>
  have e:i=0:=by
   cases i with
   |zero=>rfl
   |succ i=>simp [cL] at hx
  subst e
  simp [cL] at hx
  subst hx
  simp [cR,cJ]
 |either rs=>
  have hx':(rs.map fun r=>(r,b,m))[i]? =some x:=hx
  rw [Zi] at hx'
  obtain⟨r,hr,rfl⟩:=Zj.mp hx'
  rw [cJ.eq_def]
  simp only [cR,Yc,ZN,ZV]
  rw [if_pos (by omega)]
  exact qU (by simpa using hr)
def nH(W:Str)(GR:Bool->Int->List Pc->Frt->Frt)(r:List Pc):Prop:=∀(b:Bool) (m:Int) (R:List Int->Str->Prop) (F:Frt),0<=m->m+12*depR r<=200->Good W R F->Good W (Aft R (setR b m r)) (GR b m r F)
theorem zd6{W:Str}{GR:Bool->Int->List Pc->Frt->Frt}{R:List Int->Str->Prop}{b:Bool}{m:Int}{p:Pc}{F:Frt}(hF:Good W R F):∀(xs:List (List Pc×Bool×Int)) (n:Nat) (A:Frt),(∀(i:Nat) x,xs[i]? =some x->(cL b m p)[n+i]? =some x)->(∀x∈xs,0<=x.2.2/\x.2.2+12*depR x.1<=200/\nH W GR x.1)->
  Good W (Aft R (cJ b m p)) A->Good W (Aft R (cJ b m p)) (frW GR (cR b p) F n xs A)
 |[],n,A,_,_,hA=>hA
 | x::xs,n,A,hi,hx,hA=>by
  rw [frW]
  refine zd6 hF xs (n+1) _ (fun i y hy=>by have:=hi (i+1) y (by simpa using hy);rwa [show n+1+i=n+(i+1) by omega]) (fun y hy=>hx y (Z1 _ hy)) (rL hA ?_)
  obtain⟨h0,h1,hG⟩:=hx x Z0
  have hw:=fun c t=>xc0 (hi 0 x rfl) c t
  rw [X3] at hw
  by_cases tk:cR b p=true
  ·rw [if_pos tk]
   simp only [tk,Yc] at hw
   intro q hq
   obtain⟨t,⟨c0,t0,c1,⟨c,r1,rfl⟩,e1,e2⟩,hc⟩:=(hG x.2.1 x.2.2 _ _ h0 h1 (sY hF n)).hit q hq
   exact⟨t,⟨c,t0,n::c1,r1,by rw [e1];simp,by rw [<-e2,<-hw];rfl⟩,hc⟩
  ·rw [if_neg tk]
   simp only [tk,Y8,X4,ZV] at hw
   intro q hq
   obtain⟨t,⟨c0,t0,c1,r1,e1,e2⟩,hc⟩:=(hG x.2.1 x.2.2 _ _ h0 h1 hF).hit q hq
   exact⟨t,⟨c0,t0,c1,r1,e1,by rw [<-e2,<-hw]⟩,hc⟩
theorem xF{b:Bool}{m:Int}{p:Pc}{x:List Pc×Bool×Int}{k:Nat}(ho:okP p)(h0:0<=m)(h1:m+12*dD p<=200)(hk:dD p<=k)(hx:x∈cL b m p):0<=x.2.2/\x.2.2+12*depR x.1<=200/\depR x.1<k/\okR x.1:=by
 cases p with
 |leaf l=>simp [cL] at hx
 | group r=>
  rw [dD] at h1 hk
  have hr:okR r:=ho
  have:x.1=r/\x.2.2=m:=by
   cases b<;>simp [cL] at hx
   ·subst hx;exact⟨rfl,rfl⟩
   ·rcases hx with e|e<;>subst e<;>exact⟨rfl,rfl⟩
  rw [this.1,this.2]
  exact⟨h0,by omega,by omega,hr⟩
 |hang n r=>
  rw [dD] at h1 hk
  have hr:(0<=n/\n<=12)/\okR r:=ho
  simp [cL] at hx
  subst hx
  exact⟨by show 0<=m+n;omega,by show m+n+12*(depR r:Int)<=200;omega,by show depR r<k;omega,hr.2⟩
 |either rs=>
  rw [dD] at h1 hk
  have hr:(2<=rs.length/\rs.length<=4)/\okRs rs:=ho
  obtain⟨r,hm,rfl⟩:=Yg.mp (show x∈rs.map fun r=>(r,b,m) from hx)
  obtain⟨i,hi⟩:=YQ hm
  have:=uV hi
  exact⟨h0,by show m+12*(depR r:Int)<=200;omega,by show depR r<k;omega,xE hr.2 hi⟩
theorem sZ{W:Str}{GR:Bool->Int->List Pc->Frt->Frt}{k:Nat}(hG:∀r,depR r<k->okR r->nH W GR r){R:List Int->Str->Prop}{b:Bool}{m:Int}{p:Pc}{F:Frt}(hk:dD p<=k)(ho:okP p)(h0:0<=m)(h1:m+12*dD p<=200)(hF:Good W R F):Good W (Aft R (cJ b m p)) (frP W GR b m F p):=by
 have hold:Good W (Aft R (cJ b m p)) (frW GR (cR b p) F 0 (cL b m p) []):=zd6 hF _ 0 [] (fun i x h=>by rwa [Yw]) (fun x hx=>by
  obtain⟨a1,a2,a3,a4⟩:=xF ho h0 h1 hk hx
  exact⟨a1,a2,hG x.1 a3 a4⟩) .nil
 cases p with
 |leaf l=>exact yI ho h0 (by rw [dD] at h1;omega) hF.hit .nil
 |group r=>exact hold
 |hang n r=>exact hold
 |either rs=>exact hold
theorem zd7{W:Str}{GR:Bool->Int->List Pc->Frt->Frt}{k:Nat}(hG:∀r,depR r<k->okR r->nH W GR r){b:Bool}{m:Int}(h0:0<=m):∀{r:List Pc} {R:List Int->Str->Prop} {F:Frt},depR r<=k->okR r->m+12*depR r<=200->Good W R F->Good W (Aft R (setR b m r)) (r.foldl (fun F p=>frP W GR b m F p) F)
 |[],R,F,_,_,_,hF=>hF.mono fun c t h=>⟨c,t,[],h,by simp,by rw [setR]⟩
 |p::r,R,F,hk,ho,h1,hF=>by
  rw [depR] at hk h1
  have hp:=sZ hG (b:=b) (show dD p<=k by omega) ho.1 h0 (by omega) hF
  refine(zd7 hG h0 (r:=r) (by omega) ho.2 (by omega) hp).mono fun c t=> ?_
  rintro⟨c0,t0,c2,⟨d0,s0,c1,r1,rfl,e1⟩,rfl,e2⟩
  refine⟨d0,s0,c1++c2,r1,by simp,?_⟩
  rw [setR,qV c2 e1]
  exact e2
theorem tD{W:Str}:∀(n:Nat) (r:List Pc),depR r<n->okR r->nH W (frN W n) r
 |0,_,h,_=>absurd h (Yu _)
 |n+1,r,h,ho=>fun b m R F h0 h1 hF=>by
  rw [frN]
  exact zd7 (fun q h1 h2=>tD n q h1 h2) h0 (by omega) ho h1 hF
theorem ya1(W:Str):oQ W ⟨#[]⟩ 0:=⟨rfl,ZI _⟩
theorem yJ{W:Str}{n:Nat}{r:List Pc}(hd:depR r<n)(ho:okR r)(h1:12*(depR r:Int)<=200):Good W (fun cs t=>setR true 0 r cs ⟨#[]⟩=some ([],t)) (frN W n true 0 r [(0,((),[]))]):=by
 have g0:Good W (fun cs t=>cs=[]/\t=⟨#[]⟩) [(0,((),[]))]:=⟨by simp,fun p hp=>by
  rw [ZA.mp hp];exact⟨_,⟨rfl,rfl⟩,ya1 W⟩⟩
 refine(tD n r hd ho true 0 _ _ (Yt _) (by omega) g0).mono fun c t=> ?_
 rintro⟨c0,t0,c1,⟨rfl,rfl⟩,rfl,e⟩
 exact e
abbrev nsF:List Str:=["steps","best"]
def cN(W:Str):D:= .obj false "AlongText" ["text"] [.str W]
def wyD(x:Way):D:= .tup [.tup [],.tup (bD x.2)]
def dE(W:Str)(k:Nat):List Key:=[.inl (k:Int),.inl (cT W k:Int)]
theorem zm5{W:Str}{j k:Nat}(h:dE W j=dE W k):j=k:=by
 unfold dE at h
 have:=Sum.inl.inj (List.cons.inj h).1
 omega
def dH(W:Str)(F:Frt):List (List Key):=F.map fun p=>dE W p.1
def dX(F:Frt):List D:=F.map fun p=>wyD p.2
def aI(o:Bool)(W:Str)(F:Frt):D:= .obj o "Front" nsF [cN W,.dit o (dH W F) (dX F)]
theorem sB(x:Way):(wyD x).imm=true:=by
 have:=lT x.2
 simp! [gZ,jE,D.key,pC,nL,pB,wyD,this]
theorem qD:∀F:Frt,D.imms (dX F)=true
 |[]=>rfl
 |p::F=>by
  show(D.imm (wyD p.2)&&D.imms (dX F))=true
  rw [sB,qD F];rfl
theorem uX(W:Str)(F:Frt):(aI false W F).imm=true:=by
 have:=qD F
 simp! [gZ,jE,D.key,pC,nL,pB,aI,cN,this]
theorem yr2(W:Str)(F:Frt):(dH W F).length=F.length:=Zd _
theorem mK(W:Str):∀(F:Frt) (k:Nat),gQ (dH W F) (dX F) (dE W k)=(iL F k).map wyD
 |[],_=>rfl
 |p::F,k=>by
  show gQ (dE W p.1::dH W F) (wyD p.2::dX F) _=_
  rw [gQ,iL]
  by_cases e:p.1=k
  ·rw [if_pos e,if_pos (by rw [e])];rfl
  ·rw [if_neg e,if_neg (fun z=>e (zm5 z)),mK W F k]
theorem yK(W:Str):∀(F:Frt) (k:Nat) (x:Way),oO (dH W F) (dX F) (dE W k) (wyD x)=dX (kG F k x)
 |[],_,_=>rfl
 |p::F,k,x=>by
  show oO (dE W p.1::dH W F) (wyD p.2::dX F) _ _=_
  rw [oO,yK W F,kG]
  by_cases e:p.1=k
  ·rw [if_pos e,if_pos (by rw [e])];rfl
  ·rw [if_neg e,if_neg (fun z=>e (zm5 z))];rfl
theorem yj5(W:Str)(F:Frt)(k:Nat)(x:Way):dH W (kG F k x)=dH W F:=by
 unfold dH
 have:=ZP (List.map fun(k:Nat)=>dE W k) (qW F k x)
 rw [Yp,Yp] at this
 exact this
theorem xc1(x y:Way):zp5 (wyD x) (wyD y)=some (.bl (ltW x y)):=by
 unfold wyD zp5 ltW
 simp! [gZ,jE,D.key,pC,nL,pB,D.intss,D.ints,yj2]
abbrev kH:tz7:=gE 2 0 (bX [true,false]) oP
theorem xi8(W:Str):kH [.obj true "Front" [] [],cN W]=some (.non,[aI true W [],cN W]):=by
 have e:aI true W []= .obj true "Front" nsF [cN W,.dit true [] []]:=rfl
 have h:(cN W).imm=true:=rfl
 rw [e]
 generalize cN W=w at h|-
 simp! [gZ,jE,D.key,pC,nL,pB,oP,h]
theorem tF{p:PSt}{f:tz2}{W:Str}(h:f p=some (cN W)):eL "Front" (cO [.im f]) kH p=some (aI true W []):=by
 have hi:(cN W).imm=true:=rfl
 have i:=xi8 W
 generalize kH=G at i|-
 generalize aI true W []=X at i|-
 generalize cN W=w at h hi i|-
 unfold eL
 rw [dS h hi iK,Z7,i]
 rfl
abbrev lG:tz7:=gE 3 0 (bX [true,false,false]) kF
theorem xi9{W:Str}{F:Frt}{k:Nat}{x:Way}(hl:F.length<=9000000):lG [aI true W F,.kt (dE W k),wyD x]=some (.non,[aI true W (gF F k x),.kt (dE W k),wyD x]):=by
 have g:=mK W F k
 have hx:=sB x
 have hv:=qD F
 have hz:(dH W F).length<sizeLine:=by rw [yr2,Ya];omega
 unfold gF
 cases e:iL F k with
 | none=>
  rw [e] at g
  have e1:aI true W (F++[(k,x)])= .obj true "Front" nsF [cN W,.dit true (dH W F++[dE W k]) (dX F++[wyD x])]:=by
   unfold aI dH dX
   rw [ZU,ZU];rfl
  simp only
  rw [e1]
  unfold aI
  generalize dH W F=ks at*
  generalize dX F=vs at*
  generalize wyD x=X at*
  generalize dE W k=kk at*
  generalize cN W=w at*
  simp only [Option.map_none] at g
  simp! [gZ,jE,D.key,pC,nL,pB,kF,g,hx,hv,hz]
 | some y=>
  rw [e] at g
  have l:=xc1 x y
  have pv:=yK W F k x
  have ks:=yj5 W F k x
  simp only [Option.map_some] at g
  by_cases c:ltW x y=true
  ·rw [c] at l
   simp only [c,Yc]
   have e1:aI true W (kG F k x)= .obj true "Front" nsF [cN W,.dit true (dH W F) (dX (kG F k x))]:=by unfold aI;rw [ks]
   rw [e1,<-pv]
   unfold aI
   generalize dH W F=ks at*
   generalize dX F=vs at*
   generalize wyD x=X at*
   generalize wyD y=Y at*
   generalize dE W k=kk at*
   generalize cN W=w at*
   simp! [gZ,jE,D.key,pC,nL,pB,kF,g,hx,hv,hz,l]
  ·rw [YG] at c
   rw [c] at l
   simp only [c,Y8,X4]
   unfold aI
   generalize dH W F=ks at*
   generalize dX F=vs at*
   generalize wyD x=X at*
   generalize wyD y=Y at*
   generalize dE W k=kk at*
   generalize cN W=w at*
   simp! [gZ,jE,D.key,pC,nL,pB,kF,g,hx,hv,hz,l]
theorem yj6{g:tz7}{m:Str}{W:Str}{F:Frt}{ys:List D}{N v:D}(hm:cQ nsF m=none)(h:g (aI true W F::ys)=some (v,N::ys)):iB "Front" m g ys (aI true W F)=some (v,N):=by
 show(if (("Front":Str)="Front"/\cQ nsF m=none) then(g (aI true W F::ys)).bind _ else none)=_
 rw [if_pos ⟨rfl,hm⟩,h]
 show(if ys.length=ys.length then some (v,N) else none)=_
 rw [if_pos rfl]
theorem zm6:∀(F:Frt) (k:Nat) (x:Way),(kG F k x).length=F.length
 |[],_,_=>rfl
 |p::F,k,x=>by rw [kG,Z4,Z4,zm6 F]
theorem tG(F:Frt)(k:Nat)(x:Way):(gF F k x).length<=F.length+1:=by
 unfold gF
 cases iL F k with
 |none=>simp
 |some y=>
  simp only
  split
  ·rw [zm6];omega
  ·omega
theorem yL:∀(G F:Frt),(iS F G).length<=F.length+G.length
 |[],F=>Z9 _
 |p::G,F=>by
  have h1:=yL G (gF F p.1 p.2)
  have h2:=tG F p.1 p.2
  show(iS (gF F p.1 p.2) G).length<=_
  rw [Z4];omega
theorem qE:∀{F:Frt} {p:Nat×Way},(F.map (·.1)).Nodup->p∈F->iL F p.1=some p.2
 |[],_,_,h=>by cases h
 | q::F,p,nd,h=>by
  rw [Za,Zo] at nd
  rw [iL]
  rcases Z8.mp h with e|e
  ·rw [e,if_pos rfl]
  ·rw [if_neg (fun z=>nd.1 (by rw [z];exact Yv e))]
   exact qE nd.2 e
theorem xG{p:PSt}{f:tz2}{o:Bool}{W:Str}{F:Frt}(h:f p=some (aI o W F)):cX "Front" "best" f p=some (.dit o (dH W F) (dX F)):=by
 unfold cX
 rw [h,Z7]
 unfold aI
 generalize cN W=w
 simp [zp3,cQ,gD]
theorem qX{p:PSt}{f:tz2}{o:Bool}{W:Str}{F:Frt}(h:f p=some (aI o W F)):cX "Front" "steps" f p=some (cN W):=by
 unfold cX
 rw [h,Z7]
 unfold aI
 generalize cN W=w
 simp [zp3,cQ,gD]
def zB(W:Str)(F:Frt):List D:=F.map fun q=> .kt (dE W q.1)
theorem yj7(W:Str)(F:Frt):(dH W F).map D.kt=zB W F:=by
 unfold dH zB
 rw [Yp];rfl
theorem zt7(W:Str)(F:Frt):(D.dit false (dH W F) (dX F)).imm=true:=by
 have:=qD F
 simp [D.imm,this]
theorem zW{p:PSt}{f:tz2}{W:Str}{F:Frt}(h:f p=some (aI false W F)):sI (aR (cX "Front" "best" f)) p=some (zB W F):=by
 unfold sI
 rw [cB (xG h) (zt7 W F),Z7,<-yj7];rfl
theorem zm7{p:PSt}{f g:tz2}{W:Str}{F:Frt}{k:Nat}{x:Way}(h:f p=some (aI false W F))(hg:g p=some (.kt (dE W k)))(hx:iL F k=some x):f2 jE (cX "Front" "best" f) g p=some (wyD x):=by
 refine aN (xG h) hg ?_
 show gQ (dH W F) (dX F) (dE W k)=_
 rw [mK,hx];rfl
theorem zt8{j:Nat}{g:tz3}{h:List D->D->Option (D×D)}{p:PSt}{d0 d0' r:D}{ys:List D}(h0:p[j]? =some (some d0))(hg:g p=some ys)(hh:h ys d0=some (r,d0')):dO j bR g h p=some (r,p.set j (some d0')):=by
 unfold dO bR
 rw [h0]
 simp only [YH,Z7,hg,fF,hh]
theorem vX{j:Nat}{p:PSt}{f g:tz2}{W:Str}{F:Frt}{k:Nat}{x:Way}(h0:p[j]? =some (some (aI true W F)))(hf:f p=some (.kt (dE W k)))(hg:g p=some (wyD x))(hl:F.length<=9000000):
  cU (dO j bR (cO [.im f,.im g]) (iB "Front" "add" lG)) p=some (.nx,p.set j (some (aI true W (gF F k x)))):=
 qB (zt8 h0 (dS hf rfl (dS hg (sB x) iK)) (yj6 (by simp [cQ,gD]) (xi9 hl)))
theorem vY{W:Str}{i N:Nat}{f:tz1}(S:Nat->Frt->PSt->Prop)(st:Frt->Nat×Way->Frt):∀{L:Frt} {p:PSt} {n:Nat} {A:Frt},n+L.length<=N->S n A p->(∀n A p q,n<N->q∈L->S n A p->∃p',f (p.set i (some (.kt (dE W q.1))))=some (.nx,p')/\S (n+1) (st A q) p')->∃p',dC i f (zB W L) p=some (.nx,p')/\S (n+L.length) (L.foldl st A) p'
 |[],p,n,A,_,h,_=>⟨p,rfl,h⟩
 |q::L,p,n,A,hn,h,hs=>by
  rw [Z4] at hn
  obtain⟨p1,e1,h1⟩:=hs n A p q (by omega) Z0 h
  obtain⟨p2,e2,h2⟩:=vY (W:=W) S st (L:=L) (n:=n+1) (by omega) h1 fun n A p r h1 hr=>hs n A p r h1 (Z1 _ hr)
  refine⟨p2,?_,by rw [Z4,show n+(L.length+1)=n+1+L.length by omega];exact h2⟩
  show dC i f (.kt (dE W q.1)::zB W L) p=_
  rw [dC,e1]
  exact e2
theorem nC{i:Nat}{fi:tz3}{f:tz1}{p p':PSt}{ds:List D}(h:fi p=some ds)(e:dC i f ds p=some (.nx,p')):fS i fi f p=some (.nx,p'):=by
 unfold fS
 rw [h];exact e
abbrev yb7:tz7:=gE 2 1 (bX [true,false]) (jH lG)
theorem xj0{W:Str}{F G:Frt}(nd:(G.map (·.1)).Nodup)(hl:F.length+G.length<=9000000):yb7 [aI true W F,aI false W G]=some (.non,[aI true W (iS F G),aI false W G]):=by
 obtain⟨p',e,_,z,rfl⟩:=vY (W:=W) (i:=2) (N:=G.length) (f:=cU (dO 0 bR (cO [.im (aB 2),.im (f2 jE (cX "Front" "best" (aB 1)) (aB 2))]) (iB "Front" "add" lG)))
  (fun n A p=>A.length<=F.length+n/\∃z,p=[some (aI true W A),some (aI false W G),z]) (fun A q=>gF A q.1 q.2) (L:=G) (p:=[some (aI true W F),some (aI false W G),none]) (n:=0) (A:=F) (by omega) ⟨Z9 _,none,rfl⟩
  (by
   rintro n A p q hn hq ⟨hA,z,rfl⟩
   refine⟨_,vX (j:=0) (F:=A) (W:=W) (k:=q.1) (x:=q.2) rfl rfl (zm7 (F:=G) (W:=W) rfl rfl (qE nd hq)) (by omega),?_,_,rfl⟩
   have:=tG A q.1 q.2
   omega)
 have e2:=nC (i:=2) (zW (f:=aB 1) (W:=W) (F:=G) (p:=[some (aI true W F),some (aI false W G),none]) rfl) e
 show gE 2 1 _ (jH lG) _=_
 have e3:jH lG ([aI true W F,aI false W G].map some++List.replicate 1 none)=some (.nx,[some (aI true W (iS F G)),some (aI false W G),z]):=e2
 unfold gE
 rw [if_pos (show [aI true W F,aI false W G].length=2 from rfl),e3]
 rfl
theorem hX{np n:Nat}{f:tz1}{ds:List D}{d:D}(hl:ds.length=np)(h:∃q,f (ds.map some++List.replicate n none)=some (.ret d,q)):gP np n f ds=some d:=h.elim fun _ e=>jW hl e
theorem sC{f g:tz1}{p:PSt}{d:D}(h:∃q,f p=some (.ret d,q)):∃q,aV f g p=some (.ret d,q):=h.elim fun q e=>⟨q,dP e⟩
theorem ya2(F:Frt)(n:Int):jI F n=F.foldl (fun A q=>gF A q.1 (q.2.1,q.2.2++[n])) []:=by
 unfold jI iS
 rw [List.foldl_map];rfl
theorem zt9{p:PSt}{i:Nat}{x:Way}(h:p[i]? =some (some (wyD x))):f2 dIx (aB i) (fC (.int 0)) p=some (.tup []):=aN (kO h) rfl (lN _ _)
theorem zu0{p:PSt}{i:Nat}{x:Way}(h:p[i]? =some (some (wyD x))):f2 dIx (aB i) (fC (.int 1)) p=some (.tup (bD x.2)):=aN (kO h) rfl (fJ _ _ _)
theorem zm8{p:PSt}{f g:tz2}{x:Way}(h1:f p=some (.tup []))(h2:g p=some (.tup (bD x.2))):aT (aA f (aA g aD)) p=some (wyD x):=
 cW (aE h1 (aE h2 rfl)) (sB x) (by simp)
theorem yr3{p:PSt}{i j:Nat}{x:Way}{n:Int}(h:p[i]? =some (some (wyD x)))(hn:p[j]? =some (some (.int n)))(hl:x.2.length<=900):aT (aA (aR (f2 dIx (aB i) (fC (.int 0)))) (aA (f2 cA (f2 dIx (aB i) (fC (.int 1))) (aT (aA (aR (aB j)) aD))) aD)) p=some (wyD (x.1,x.2++[n])):=by
 refine zm8 (x:=(x.1,x.2++[n])) (cB (zt9 (x:=x) h) rfl) (aN (zu0 (x:=x) h) (cW (aE (cB (kO hn) rfl) rfl) rfl (by simp)) ?_)
 show(if (bD x.2).length+[D.int n].length<=sizeLine then some (D.tup (bD x.2++[.int n])) else none)=_
 rw [if_pos (by rw [nU];exact sz (by show x.2.length+1<=1000;omega)),zd3];rfl
abbrev zC:tz6:=gP 2 3 (qK kH lG)
theorem yr4{W:Str}{F:Frt}{n:Int}(nd:(F.map (·.1)).Nodup)(hl:F.length<=9000000)(hc:∀q∈F,q.2.2.length<=900):zC [aI false W F,.int n]=some (aI true W (jI F n)):=by
 have s1:aS 2 (aJ (eL "Front" (cO [.im (cX "Front" "steps" (aB 0))]) kH)) [some (aI false W F),some (.int n),none,none,none]=some (.nx,[some (aI false W F),some (.int n),some (aI true W []),none,none]):=bF (tF (qX (f:=aB 0) (F:=F) rfl))
 obtain⟨p',e,_,y,z,rfl⟩:=vY (W:=W) (i:=3) (N:=F.length) (f:=aV (aS 4 (aJ (aR (f2 jE (cX "Front" "best" (aB 0)) (aB 3))))) (cU (dO 2 bR (cO [.im (aB 3),.im (aT (aA (aR (f2 dIx (aB 4) (fC (.int 0)))) (aA (f2 cA (f2 dIx (aB 4) (fC (.int 1))) (aT (aA (aR (aB 1)) aD))) aD)))]) (iB "Front" "add" lG))))
  (fun k A p=>A.length<=k/\∃y z,p=[some (aI false W F),some (.int n),some (aI true W A),y,z]) (fun A q=>gF A q.1 (q.2.1,q.2.2++[n])) (L:=F) (p:=[some (aI false W F),some (.int n),some (aI true W []),none,none]) (n:=0) (A:=[]) (by omega) ⟨Z9 _,none,none,rfl⟩
  (by
   rintro k A p q hk hq ⟨hA,y,z,rfl⟩
   refine⟨_,(aK (bF (cB (zm7 (F:=F) (W:=W) (k:=q.1) rfl rfl (qE nd hq)) (sB q.2)))).trans (vX (j:=2) (F:=A) (W:=W) (k:=q.1) (x:=(q.2.1,q.2.2++[n])) rfl rfl (yr3 rfl rfl (hc q hq)) (by omega)),?_,_,_,rfl⟩
   have:=tG A q.1 (q.2.1,q.2.2++[n])
   omega)
 refine hX rfl (dQ s1 (dQ (nC (i:=3) (zW (f:=aB 0) (W:=W) (F:=F) rfl) e) ?_))
 rw [ya2]
 exact⟨_,rfl⟩
theorem yr5{p:PSt}{f:tz2}{W:Str}(h:f p=some (cN W)):cX "AlongText" "text" f p=some (.str W):=by
 unfold cX
 rw [h,Z7]
 simp [cN,zp3,cQ]
theorem yr6(k:Nat)(w:Str)(hz:w.length<=1000):za6 [.int (k:Int),.str w]=some (.int ((if lfB w=true then w.length-1 else k+w.length:Nat):Int)):=by
 have q:=xb7 w
 have hs:w.length<=sizeLine:=sz hz
 show gP 2 0 (fW zh3) _=_
 unfold lfB
 generalize zh3=G at q|-
 by_cases c:w.cps.toList[0]? =some 10
 ·rw [Zl c] at q|-
  have h1:1<=w.length:=by
   rw [eM]
   have:=(Z6.mp c).1
   omega
  rw [if_pos rfl,show((w.length-1:Nat):Int)=(w.length:Int)-1 by omega]
  simp! [fW,q,hs]
 ·rw [Zc c] at q|-
  rw [if_neg Z5]
  simp! [fW,q,hs]
def zh5(W:Str):Option (Nat×Unit)->D
 |none=> .non
 |some s=> .tup [.kt (dE W s.1),.tup []]
theorem xo0{W w:Str}{b:Bool}{m:Int}{l:Leaf}{k:Nat}(hl:eR l)(h0:0<=m)(h1:m<=200)(hk:k<=W.length)(e:wr b m (cT W k) l=some w)(hw:Txt.startswith3 W w (k:Int)=true):(if lfB w=true then w.length-1 else cT W k+w.length:Nat)=cT W (k+w.length):=by
 obtain⟨z1,z2⟩:=(sX hk).mp hw
 unfold cT
 rw [<-z2]
 rcases(zz8 hl h0 h1 e).1 with hn|⟨m',hn⟩
 ·rw [xn9 hn,if_neg Z5,zT hn]
 ·subst hn
  rw [xi7,if_pos rfl]
  unfold nlw
  rw [zm3 (yi7 m'),gX]
  show 1+_-1=_
  omega
abbrev zh6:tz6:=gP 5 1 (jR xH za6)
theorem xc2{W:Str}{b:Bool}{m:Int}{l:Leaf}{k:Nat}{c:Unit}(hW:W.length<=900000)(hl:eR l)(h0:0<=m)(h1:m<=200)(hk:k<=W.length):zh6 [cN W,.kt (dE W k),.tup [],bK l,aQ b m]=some (zh5 W (iO W b m l k c)):=by
 have hs:sizeLine=16777216:=Ya
 have hck:cT W k<=1000000:=by
  unfold cT
  have:=xi5 (hdT W k)
  rw [yj4 hk] at this
  omega
 have q1:=ya0 l b m (cT W k) hl h0 h1 hck
 have u0:∀P5,f2 dIx (fUn (aB 1)) (fC (.int 0)) [some (cN W),some (.kt (dE W k)),some (.tup []),some (bK l),some (aQ b m),P5]=some (.int (k:Int)):=fun _=>aN (x:= .tup [.int (k:Int),.int (cT W k:Int)]) rfl rfl (lN _ _)
 have u1:∀P5,f2 dIx (fUn (aB 1)) (fC (.int 1)) [some (cN W),some (.kt (dE W k)),some (.tup []),some (bK l),some (aQ b m),P5]=some (.int (cT W k:Int)):=fun _=>aN (x:= .tup [.int (k:Int),.int (cT W k:Int)]) rfl rfl (fJ _ _ _)
 have s1:aS 5 (aJ (aL xH (aA (aB 3) (aA (aB 4) (aA (f2 dIx (fUn (aB 1)) (fC (.int 1))) aD))))) [some (cN W),some (.kt (dE W k)),some (.tup []),some (bK l),some (aQ b m),none]=some (.nx,[some (cN W),some (.kt (dE W k)),some (.tup []),some (bK l),some (aQ b m),some (wrD (wr b m (cT W k) l))]):=bF (aZ (aE rfl (aE rfl (aE (u1 _) rfl))) q1)
 unfold iO
 cases e:wr b m (cT W k) l with
 |none=>
  rw [e] at s1
  exact hX rfl (dQ s1 (sC ⟨_,(bG (yv5 (dJ (aN rfl rfl rfl)))).trans (bY rfl)⟩))
 | some w=>
  rw [e] at s1
  obtain⟨_,hz⟩:=zz8 hl h0 h1 e
  rw [Z7]
  have st:fT (fMt rB (cX "AlongText" "text" (aB 0)) (aA (aB 5) (aA (f2 dIx (fUn (aB 1)) (fC (.int 0))) aD))) [some (cN W),some (.kt (dE W k)),some (.tup []),some (bK l),some (aQ b m),some (.str w)]=some (Txt.startswith3 W w (k:Int)):=by
   refine jA ?_
   unfold fMt
   rw [yr5 (W:=W) rfl,Z7,aE (d:= .str w) rfl (aE (u0 _) (show aD _=some [] from rfl)),Z7]
   rfl
  by_cases z:Txt.startswith3 W w (k:Int)=true
  ·rw [if_pos z]
   rw [z] at st
   have q2:=yr6 (cT W k) w (by omega)
   rw [xo0 hl h0 h1 hk e z] at q2
   refine hX rfl (dQ s1 (dQ (bH (mJ (dJ (aN rfl rfl rfl)) (gY st))) ⟨_,bY (cW (aE (d:= .kt (dE W (k+w.length))) ?_ (aE (cB rfl rfl) rfl)) rfl (by simp))⟩))
   have a1:f2 cA (f2 dIx (fUn (aB 1)) (fC (.int 0))) (aL cM (aA (aB 5) aD)) [some (cN W),some (.kt (dE W k)),some (.tup []),some (bK l),some (aQ b m),some (.str w)]=some (.int ((k+w.length:Nat):Int)):=aN (u0 _) (aZ (aE rfl rfl) (if_pos (by omega))) (by show some (D.int ((k:Int)+(w.length:Int)))=_;rw [show((k:Int)+(w.length:Int))=((k+w.length:Nat):Int) by omega])
   have a2:=aZ (h:=za6) (aE (u1 (some (.str w))) (aE (f:=aB 5) (d:= .str w) (g:=aD) rfl rfl)) q2
   unfold fKt
   show((aA _ (aA _ aD) [some (cN W),some (.kt (dE W k)),some (.tup []),some (bK l),some (aQ b m),some (.str w)]).bind _)=_
   rw [aE a1 (aE a2 (show aD _=some [] from rfl))]
   rfl
  ·rw [if_neg z]
   rw [YG] at z
   rw [z] at st
   exact hX rfl (dQ s1 (sC ⟨_,(bG (mJ (dJ (aN rfl rfl rfl)) (gY st))).trans (bY rfl)⟩))
abbrev wH:tz6:=gP 3 4 (oU kH zh6 lG)
theorem yj8{W:Str}{F:Frt}{b:Bool}{m:Int}{l:Leaf}(hW:W.length<=900000)(hl:eR l)(h0:0<=m)(h1:m<=200)(nd:(F.map (·.1)).Nodup)(hF:F.length<=9000000)(hk:∀q∈F,q.1<=W.length):
  wH [aI false W F,bK l,aQ b m]=some (aI true W (iT W b m l F [])):=by
 have s1:aS 3 (aJ (eL "Front" (cO [.im (cX "Front" "steps" (aB 0))]) kH)) [some (aI false W F),some (bK l),some (aQ b m),none,none,none,none]=some (.nx,[some (aI false W F),some (bK l),some (aQ b m),some (aI true W []),none,none,none]):=bF (tF (qX (f:=aB 0) (F:=F) rfl))
 obtain⟨p',e,_,x,y,z,rfl⟩:=vY (W:=W) (i:=4) (N:=F.length) (f:=aV (aS 5 (aJ (aR (f2 jE (cX "Front" "best" (aB 0)) (aB 4)))))
  (aV (aS 6 (aJ (aL zh6 (aA (sJ "AlongText" "state_behind" (cX "Front" "steps" (aB 0))) (aA (aB 4) (aA (f2 dIx (aB 5) (fC (.int 0))) (aA (aB 1) (aA (aB 2) aD))))))))
  (fIf (aX (fB (f2 zp0 (aB 6) (fC .non)))) (cU (dO 3 bR (cO [.im (f2 dIx (aB 6) (fC (.int 0))),.im (aT (aA (aR (f2 dIx (aB 6) (fC (.int 1)))) (aA (aR (f2 dIx (aB 5) (fC (.int 1)))) aD)))]) (iB "Front" "add" lG))) cF)))
  (fun k A p=>A.length<=k/\∃x y z,p=[some (aI false W F),some (bK l),some (aQ b m),some (aI true W A),x,y,z]) (fun G p=>match iO W b m l p.1 p.2.1 with
   |none=>G
   |some s=>gF G s.1 (s.2,p.2.2)) (L:=F) (p:=[some (aI false W F),some (bK l),some (aQ b m),some (aI true W []),none,none,none]) (n:=0) (A:=[]) (by omega) ⟨Z9 _,none,none,none,rfl⟩
  (by
   rintro k A p q hn hq ⟨hA,x,y,z,rfl⟩
   have t1:aS 5 (aJ (aR (f2 jE (cX "Front" "best" (aB 0)) (aB 4)))) [some (aI false W F),some (bK l),some (aQ b m),some (aI true W A),some (.kt (dE W q.1)),y,z]=some (.nx,[some (aI false W F),some (bK l),some (aQ b m),some (aI true W A),some (.kt (dE W q.1)),some (wyD q.2),z]):=bF (cB (zm7 (F:=F) (W:=W) (k:=q.1) rfl rfl (qE nd hq)) (sB q.2))
   have r1:sJ "AlongText" "state_behind" (cX "Front" "steps" (aB 0)) [some (aI false W F),some (bK l),some (aQ b m),some (aI true W A),some (.kt (dE W q.1)),some (wyD q.2),z]=some (cN W):=by
    unfold sJ
    rw [qX (f:=aB 0) (o:=false) (W:=W) (F:=F) rfl,Z7]
    unfold zh0 cN
    exact if_pos ⟨rfl,by simp [cQ,gD]⟩
   have t2:aS 6 (aJ (aL zh6 (aA (sJ "AlongText" "state_behind" (cX "Front" "steps" (aB 0))) (aA (aB 4) (aA (f2 dIx (aB 5) (fC (.int 0))) (aA (aB 1) (aA (aB 2) aD))))))) [some (aI false W F),some (bK l),some (aQ b m),some (aI true W A),some (.kt (dE W q.1)),some (wyD q.2),z]=some (.nx,[some (aI false W F),some (bK l),some (aQ b m),some (aI true W A),some (.kt (dE W q.1)),some (wyD q.2),some (zh5 W (iO W b m l q.1 q.2.1))]):=
    bF (aZ (aE r1 (aE rfl (aE (zt9 rfl) (aE rfl (aE rfl rfl))))) (xc2 hW hl h0 h1 (hk q hq)))
   cases es:iO W b m l q.1 q.2.1 with
   |none=>
    rw [es] at t2
    exact⟨_,(aK t1).trans ((aK t2).trans (bH (dJ (aN rfl rfl rfl)))),XV hA,_,_,_,rfl⟩
   |some s=>
    rw [es] at t2
    have w0:f2 dIx (aB 6) (fC (.int 0)) [some (aI false W F),some (bK l),some (aQ b m),some (aI true W A),some (.kt (dE W q.1)),some (wyD q.2),some (zh5 W (some s))]=some (.kt (dE W s.1)):=aN rfl rfl (lN _ _)
    have w1:f2 dIx (aB 6) (fC (.int 1)) [some (aI false W F),some (bK l),some (aQ b m),some (aI true W A),some (.kt (dE W q.1)),some (wyD q.2),some (zh5 W (some s))]=some (.tup []):=aN rfl rfl (fJ _ _ _)
    refine⟨_,(aK t1).trans ((aK t2).trans ((bG (dJ (aN rfl rfl rfl))).trans (vX (j:=3) (F:=A) (W:=W) (k:=s.1) (x:=(s.2,q.2.2)) rfl w0 (zm8 (x:=(s.2,q.2.2)) (cB w1 rfl) (cB (zu0 (x:=q.2) rfl) (lT q.2.2))) (by omega)))),?_,_,_,_,rfl⟩
    have:=tG A s.1 (s.2,q.2.2)
    show(gF A s.1 (s.2,q.2.2)).length<=_
    omega)
 exact hX rfl (dQ s1 (dQ (nC (i:=4) (zW (f:=aB 0) (W:=W) (F:=F) rfl) e) ⟨_,rfl⟩))
mutual
theorem zm9:∀{p:Pc} {b:Bool} {m:Int} {cs cs':List Int} {t t':Str},cJ b m p cs t=some (cs',t')->cs.length<=cs'.length+(bS p).length
 | .leaf l,b,m,cs,cs',t,t',h=>by
  rw [cJ] at h
  cases e:wr b m (col t) l with
  |none=>rw [e] at h;cases h
  |some w=>rw [e] at h;cases h;omega
 | .group r,b,m,cs,cs',t,t',h=>by
  rw [cJ.eq_def] at h
  simp only at h
  have hl:(bS (.group r)).length=(toksR r).length+2:=by simp [bS]
  cases b with
  |false=>
   simp only [Y8,X4] at h
   have:=setR_len h
   omega
  | true=>
   cases cs with
   |nil=>simp at h
   | cons c cs=>
    simp only [Yc] at h
    rw [Z4]
    by_cases c0:c=0
    ·simp only [c0,Yc] at h;have:=setR_len h;omega
    ·by_cases c1:c=1
     ·simp only [c1,Yc] at h;have:=setR_len h;omega
     ·simp [c0,c1] at h
 | .hang n r,b,m,cs,cs',t,t',h=>by
  rw [cJ] at h
  have hl:(bS (.hang n r)).length=(toksR r).length+2:=by simp [bS]
  have:=setR_len h
  omega
 | .either rs,b,m,cs,cs',t,t',h=>by
  rw [cJ.eq_def] at h
  have hl:(bS (.either rs)).length=(toksRows rs).length+2:=by simp [bS]
  cases cs with
  |nil=>cases h
  |cons c cs=>
   simp only at h
   rw [Z4]
   by_cases c0:0<=c
   ·simp only [c0,Yc] at h;have:=setAt_len h;omega
   ·simp [c0] at h
theorem setR_len:∀{r:List Pc} {b:Bool} {m:Int} {cs cs':List Int} {t t':Str},setR b m r cs t=some (cs',t')->cs.length<=cs'.length+(toksR r).length
 |[],b,m,cs,cs',t,t',h=>by rw [setR] at h;cases h;omega
 | p::r,b,m,cs,cs',t,t',h=>by
  rw [setR] at h
  cases e:cJ b m p cs t with
  |none=>rw [e] at h;cases h
  |some s=>
   obtain⟨c1,t1⟩:=s
   rw [e] at h
   have h1:=zm9 e
   have h2:=setR_len (cs:=c1) (t:=t1) h
   rw [toksR,Z2]
   omega
theorem setAt_len:∀{rs:List (List Pc)} {i:Nat} {b:Bool} {m:Int} {cs cs':List Int} {t t':Str},setAt b m rs i cs t=some (cs',t')->cs.length<=cs'.length+(toksRows rs).length
 |[],i,b,m,cs,cs',t,t',h=>by rw [setAt] at h;cases h
 |r::rs,0,b,m,cs,cs',t,t',h=>by
  rw [setAt] at h
  have:=setR_len h
  rw [toksRows,Z2]
  omega
 | r::rs,i+1,b,m,cs,cs',t,t',h=>by
  rw [setAt] at h
  have h1:=setAt_len h
  rw [toksRows,Z2]
  cases rs with
  |nil=>rw [setAt] at h;cases h
  |cons q qs=>
   rw [toksRows,Z2] at h1
   rw [toksMore,Z4,Z2]
   omega
end
def Few(N:Nat)(R:List Int->Str->Prop):Prop:=∀c t,R c t->c.length<=N
theorem yr7{N:Nat}{R:List Int->Str->Prop}{b:Bool}{m:Int}{p:Pc}(h:Few N R):Few (N+(bS p).length) (Aft R (cJ b m p)):=by
 rintro c t ⟨c0,t0,c1,r,rfl,e⟩
 have h1:=h c0 t0 r
 have h2:=zm9 e
 rw [ZR] at h2
 rw [Z2];omega
theorem yj9{N:Nat}{R:List Int->Str->Prop}{n:Int}(h:Few N R):Few (N+1) (zh4 R n):=by
 rintro c t ⟨c0,r,rfl⟩
 have:=h c0 t r
 rw [Z2]
 show c0.length+1<=_
 omega
theorem zn0:∀{n:Nat} {l:List Nat},l.Nodup->(∀x∈l,x<n)->l.length<=n
 |0,l,_,h=>by
  cases l with
  |nil=>exact Z9 _
  |cons a l=>exact absurd (h a Z0) (Yu _)
 | n+1,l,nd,h=>by
  have h2:=zn0 (n:=n) (nd.erase n) fun x hx=>by
   have h3:=h x (List.mem_of_mem_erase hx)
   have h4:x≠n:=fun z=>by
    rw [z] at hx
    exact absurd hx nd.not_mem_erase
   omega
  by_cases hm:n∈l
  ·rw [List.length_erase_of_mem hm] at h2;omega
  ·rw [List.erase_of_not_mem hm] at h2;omega
theorem Good.key{W:Str}{R:List Int->Str->Prop}{F:Frt}(h:Good W R F){q:Nat×Way}(hq:q∈F):q.1<=W.length:=by
 obtain⟨t,_,_,h2⟩:=h.hit q hq
 exact h2
theorem Good.len{W:Str}{R:List Int->Str->Prop}{F:Frt}(h:Good W R F)(hW:W.length<=900000):F.length<=900001:=by
 have:=zn0 (n:=W.length+1) h.nd fun x hx=>by
  obtain⟨q,hq,rfl⟩:=Yg.mp hx
  have:=h.key hq
  omega
 rw [Zd] at this
 omega
theorem Good.few{W:Str}{R:List Int->Str->Prop}{F:Frt}{N:Nat}(h:Good W R F)(hN:Few N R){q:Nat×Way}(hq:q∈F):q.2.2.length<=N:=by
 obtain⟨t,r,_⟩:=h.hit q hq
 exact hN _ _ r
theorem zd8(W:Str)(F:Frt):za5 (aI true W F)=some (aI false W F):=by
 have h:=qD F
 unfold aI za5
 exact if_pos ⟨rfl,h⟩
theorem zn1{f:tz2}{p:PSt}{W:Str}{F:Frt}(h:f p=some (aI true W F)):nM f p=some (aI false W F):=by
 unfold nM
 rw [h,Z7,zd8]
abbrev oJ(GR:tz6):tz6:=gP 3 4 (oA kH zh2 vK zC yb7 GR)
def zh7(GR:tz6):tz1:=aV (aS 6 (aJ (aR (aB 0))))
 (aV (fIf (aX (fT (aL vK (aA (aB 1) (aA (aB 2) aD))))) (aS 6 (aJ (nM (aL zC (aA (aB 0) (aA (aB 4) aD)))))) cF)
 (cU (dO 3 bR (cO [.im (aL GR (aA (aB 6) (aA (f2 dIx (aB 5) (fC (.int 0))) (aA (f2 dIx (aB 5) (fC (.int 1))) aD))))]) (iB "Front" "add_all" yb7))))
theorem yk0{GR:tz6}{W:Str}{F A Z:Frt}{p:Pc}{b:Bool}{m:Int}{n:Nat}{x:List Pc×Bool×Int}{y:Option D}(hp:oI p=true)(nd:(F.map (·.1)).Nodup)(hF:F.length<=900001)(hc:∀q∈F,q.2.2.length<=900)
  (hG:GR [aI false W (if cR b p=true then jI F n else F),.tup (pcsD x.1),aQ x.2.1 x.2.2]=some (aI false W Z)) (ndZ:(Z.map (·.1)).Nodup) (hZ:A.length+Z.length<=9000000):
  ∃z,zh7 GR [some (aI false W F),some (pcD p),some (aQ b m),some (aI true W A),some (.int (n:Int)),some (eJ x),y]=some (.nx,[some (aI false W F),some (pcD p),some (aQ b m),some (aI true W (iS A Z)),some (.int (n:Int)),some (eJ x),z]):=by
 have t1:aS 6 (aJ (aR (aB 0))) [some (aI false W F),some (pcD p),some (aQ b m),some (aI true W A),some (.int (n:Int)),some (eJ x),y]=some (.nx,[some (aI false W F),some (pcD p),some (aQ b m),some (aI true W A),some (.int (n:Int)),some (eJ x),some (aI false W F)]):=bF (cB rfl (uX W F))
 have q2:=yq6 p b m hp
 have c2:fT (aL vK (aA (aB 1) (aA (aB 2) aD))) [some (aI false W F),some (pcD p),some (aQ b m),some (aI true W A),some (.int (n:Int)),some (eJ x),some (aI false W F)]=some (cR b p):=jA (aZ (aE rfl (aE rfl rfl)) q2)
 have t2:fIf (aX (fT (aL vK (aA (aB 1) (aA (aB 2) aD))))) (aS 6 (aJ (nM (aL zC (aA (aB 0) (aA (aB 4) aD)))))) cF [some (aI false W F),some (pcD p),some (aQ b m),some (aI true W A),some (.int (n:Int)),some (eJ x),some (aI false W F)]=some (.nx,[some (aI false W F),some (pcD p),some (aQ b m),some (aI true W A),some (.int (n:Int)),some (eJ x),some (aI false W (if cR b p=true then jI F n else F))]):=by
  cases tk:cR b p with
  |true=>
   rw [tk] at c2
   exact(bG c2).trans (bF (zn1 (aZ (aE rfl (aE rfl rfl)) (yr4 nd (by omega) hc))))
  |false=>
   rw [tk] at c2
   exact bH c2
 generalize (if cR b p=true then jI F n else F)=F' at hG t2
 have x0:f2 dIx (aB 5) (fC (.int 0)) [some (aI false W F),some (pcD p),some (aQ b m),some (aI true W A),some (.int (n:Int)),some (eJ x),some (aI false W F')]=some (.tup (pcsD x.1)):=aN rfl rfl (lN _ _)
 have x1:f2 dIx (aB 5) (fC (.int 1)) [some (aI false W F),some (pcD p),some (aQ b m),some (aI true W A),some (.int (n:Int)),some (eJ x),some (aI false W F')]=some (aQ x.2.1 x.2.2):=aN rfl rfl (fJ _ _ _)
 have x2:=aZ (h:=GR) (aE (f:=aB 6) (d:=aI false W F') rfl (aE x0 (aE (g:=aD) x1 rfl))) hG
 exact⟨_,(aK t1).trans ((aK t2).trans (qB (zt8 (j:=3) rfl (dS x2 (uX W Z) iK) (yj6 (by simp [cQ,gD]) (xj0 ndZ hZ)))))⟩
theorem zd9{GR:tz6}{GA:Bool->Int->List Pc->Frt->Frt}{W:Str}{F:Frt}{p:Pc}{b:Bool}{m:Int}(hp:oI p=true)(nd:(F.map (·.1)).Nodup)(hF:F.length<=900001)(hc:∀q∈F,q.2.2.length<=900):∀(xs:List (List Pc×Bool×Int)) (n:Nat) (A:Frt) (y4 y5 y6:Option D),
  (∀(i:Nat) x,xs[i]? =some x->∃Z,Z=GA x.2.1 x.2.2 x.1 (if cR b p=true then jI F (n+i:Nat) else F)/\GR [aI false W (if cR b p=true then jI F (n+i:Nat) else F),.tup (pcsD x.1),aQ x.2.1 x.2.2]=some (aI false W Z)/\(Z.map (·.1)).Nodup/\Z.length<=900001)->A.length+900001*xs.length<=4000000->
  ∃z4 z5 z6,lC [4,5] (zh7 GR) (kQ n (xs.map eJ)) [some (aI false W F),some (pcD p),some (aQ b m),some (aI true W A),y4,y5,y6]=some (.nx,[some (aI false W F),some (pcD p),some (aQ b m),some (aI true W (frW GA (cR b p) F n xs A)),z4,z5,z6])
 |[],n,A,y4,y5,y6,_,_=>⟨y4,y5,y6,rfl⟩
 | x::xs,n,A,y4,y5,y6,hG,hA=>by
  rw [Z4] at hA
  obtain⟨Z,e1,e2,e3,e4⟩:=hG 0 x rfl
  rw [X3] at e1 e2
  obtain⟨z,t⟩:=yk0 (m:=m) (A:=A) (y:=y6) hp nd hF hc e2 e3 (by omega)
  have hl:=yL Z A
  obtain⟨z4,z5,z6,ih⟩:=zd9 (m:=m) hp nd hF hc xs (n+1) (iS A Z) (some (.int (n:Int))) (some (eJ x)) z (fun i y hy=>by
   have:=hG (i+1) y (by simpa using hy)
   rwa [show n+(i+1)=n+1+i by omega] at this) (by omega)
  refine⟨z4,z5,z6,?_⟩
  rw [Za,kQ,lC]
  show(some [D.int (n:Int),eJ x]).bind _=_
  rw [Z7,if_pos (show [D.int (n:Int),eJ x].length=[4,5].length from rfl)]
  show(zh7 GR [some (aI false W F),some (pcD p),some (aQ b m),some (aI true W A),some (.int (n:Int)),some (eJ x),y6]).bind _=_
  rw [frW,<-e1]
  rw [t,Z7]
  exact ih
theorem yr8{GR:tz6}{GA:Bool->Int->List Pc->Frt->Frt}{W:Str}{F:Frt}{p:Pc}{b:Bool}{m:Int}(hp:oI p=true)(ho:okP p)(nd:(F.map (·.1)).Nodup)(hF:F.length<=900001)(hc:∀q∈F,q.2.2.length<=900)
  (hG:∀(i:Nat) x,(cL b m p)[i]? =some x->∃Z,Z=GA x.2.1 x.2.2 x.1 (if cR b p=true then jI F i else F)/\GR [aI false W (if cR b p=true then jI F i else F),.tup (pcsD x.1),aQ x.2.1 x.2.2]=some (aI false W Z)/\(Z.map (·.1)).Nodup/\Z.length<=900001):
  oJ GR [aI false W F,pcD p,aQ b m]=some (aI true W (frW GA (cR b p) F 0 (cL b m p) [])):=by
 have h4:(cL b m p).length<=4:=by
  cases p with
  |leaf l=>simp [cL]
  |group r=>cases b<;>simp [cL]
  |hang k r=>simp [cL]
  |either rs=>have:=ho.1.2;simpa [cL] using this
 have hn:yw4 p<=1000:=by
  cases p with
  |either rs=>have:=ho.1.2;show rs.length<=1000;omega
  |_=>exact ZI _
 have q1:=xb6 p b m hp hn
 have him:D.imms ((cL b m p).map eJ)=true:=by
  generalize cL b m p=xs
  induction xs with
  |nil=>rfl
  |cons x xs ih=>
   show(D.imm (eJ x)&&D.imms (xs.map eJ))=true
   rw [zU,ih];rfl
 have s1:aS 3 (aJ (eL "Front" (cO [.im (cX "Front" "steps" (aB 0))]) kH)) [some (aI false W F),some (pcD p),some (aQ b m),none,none,none,none]=some (.nx,[some (aI false W F),some (pcD p),some (aQ b m),some (aI true W []),none,none,none]):=bF (tF (qX (f:=aB 0) (F:=F) rfl))
 obtain⟨z4,z5,z6,e⟩:=zd9 (m:=m) hp nd hF hc (cL b m p) 0 [] none none none (fun i x hx=>by rw [Yw];exact hG i x hx) (by show 0+_<=_;omega)
 have s2:zg8 [4,5] (zg9 (aL zh2 (aA (aB 1) (aA (aB 2) aD)))) (zh7 GR) [some (aI false W F),some (pcD p),some (aQ b m),some (aI true W []),none,none,none]=some (.nx,[some (aI false W F),some (pcD p),some (aQ b m),some (aI true W (frW GA (cR b p) F 0 (cL b m p) [])),z4,z5,z6]):=by
  unfold zg8 zg9
  rw [aZ (h:=zh2) (aE (f:=aB 1) (d:=pcD p) rfl (aE (f:=aB 2) (d:=aQ b m) (g:=aD) rfl rfl)) q1,Z7]
  show((if D.imms ((cL b m p).map eJ)=true then some ((cL b m p).map eJ) else none).map (kQ 0)).bind _=_
  rw [if_pos him]
  exact e
 exact hX rfl (dQ s1 (dQ s2 ⟨_,rfl⟩))
def tU:Nat->tz6
 |0=>fun _=>none
 |n+1=>gP 3 2 (mU vJ (oJ (tU n)) wH)
def vL(GH:tz6):tz1:=fIf (aX (fT (aL vJ (aA (aB 4) aD))))
 (aS 3 (aJ (nM (aL GH (aA (aB 3) (aA (aB 4) (aA (aB 2) aD)))))))
 (aS 3 (aJ (nM (aL wH (aA (aB 3) (aA (aB 4) (aA (aB 2) aD)))))))
def yu6(W:Str)(GR:tz6)(GA:Bool->Int->List Pc->Frt->Frt)(r:List Pc):Prop:=∀(b:Bool) (m:Int) (R:List Int->Str->Prop) (F:Frt) (N:Nat),0<=m->m+12*depR r<=200->Good W R F->Few N R->N+(toksR r).length<=900->
 GR [aI false W F,.tup (pcsD r),aQ b m]=some (aI false W (GA b m r F))
theorem ya3{b:Bool}{m:Int}{p:Pc}{x:List Pc×Bool×Int}(hx:x∈cL b m p):(toksR x.1).length+1<=(bS p).length:=by
 cases p with
 |leaf l=>simp [cL] at hx
 | group r=>
  have:x.1=r:=by
   cases b<;>simp [cL] at hx
   ·subst hx;rfl
   ·rcases hx with e|e<;>subst e<;>rfl
  rw [this];simp [bS]
 |hang n r=>
  simp [cL] at hx
  subst hx;simp [bS]
 |either rs=>
  obtain⟨r,hm,rfl⟩:=Yg.mp (show x∈rs.map fun r=>(r,b,m) from hx)
  have:=wQ hm
  simp [bS];omega
theorem xc3{W:Str}{GR:tz6}{GA:Bool->Int->List Pc->Frt->Frt}{k:Nat}(hW:W.length<=900000)(hG:∀r,depR r<k->okR r->nH W GA r)(hD:∀r,depR r<k->okR r->yu6 W GR GA r)
  {b:Bool} {m:Int} {R:List Int->Str->Prop} {F:Frt} {N:Nat} {p:Pc} {Y0 Y1:Option D} (hk:dD p<=k) (ho:okP p) (h0:0<=m) (h1:m+12*dD p<=200) (hF:Good W R F) (hN:Few N R) (hT:N+(bS p).length<=900):
  vL (oJ GR) [Y0,Y1,some (aQ b m),some (aI false W F),some (pcD p)]=some (.nx,[Y0,Y1,some (aQ b m),some (aI false W (frP W GA b m F p)),some (pcD p)]):=by
 have c1:fT (aL vJ (aA (aB 4) aD)) [Y0,Y1,some (aQ b m),some (aI false W F),some (pcD p)]=some (oI p):=jA (aZ (aE rfl rfl) (yq5 p))
 have hl:=hF.len hW
 have hc:∀q∈F,q.2.2.length<=900:=fun q hq=>by have:=hF.few hN hq;omega
 have hold:oI p=true->vL (oJ GR) [Y0,Y1,some (aQ b m),some (aI false W F),some (pcD p)]=some (.nx,[Y0,Y1,some (aQ b m),some (aI false W (frW GA (cR b p) F 0 (cL b m p) [])),some (pcD p)]):=fun hp=>by
  rw [hp] at c1
  refine(bG c1).trans (bF (zn1 (aZ (aE rfl (aE rfl (aE rfl rfl))) (yr8 (GA:=GA) hp ho hF.nd hl hc fun i x hx=> ?_))))
  have hm:=ZT hx
  obtain⟨a1,a2,a3,a4⟩:=xF ho h0 h1 hk hm
  have ht:=ya3 hm
  have gg:∀(R':List Int->Str->Prop) (F':Frt),Good W R' F'->Few (N+1) R'->∃Z,Z=GA x.2.1 x.2.2 x.1 F'/\GR [aI false W F',.tup (pcsD x.1),aQ x.2.1 x.2.2]=some (aI false W Z)/\(Z.map (·.1)).Nodup/\Z.length<=900001:=fun R' F' hR hf=>by
   have g:=hG x.1 a3 a4 x.2.1 x.2.2 R' F' a1 a2 hR
   exact⟨_,rfl,hD x.1 a3 a4 x.2.1 x.2.2 R' F' (N+1) a1 a2 hR hf (by omega),g.nd,g.len hW⟩
  by_cases tk:cR b p=true
  ·rw [if_pos tk]
   exact gg _ _ (sY hF i) (yj9 hN)
  ·rw [if_neg tk]
   exact gg _ _ hF fun c t h=>XV (hN c t h)
 cases p with
 |leaf l=>
  have hm:m<=200:=by rw [dD] at h1;omega
  exact(dI (bZ c1)).trans (bF (zn1 (aZ (aE rfl (aE rfl (aE rfl rfl))) (yj8 hW ho h0 hm hF.nd (by omega) fun q hq=>hF.key hq))))
 |group r=>exact hold rfl
 |hang n r=>exact hold rfl
 |either rs=>exact hold rfl
theorem yk1{W:Str}{GR:tz6}{GA:Bool->Int->List Pc->Frt->Frt}{k:Nat}(hW:W.length<=900000)(hG:∀r,depR r<k->okR r->nH W GA r)(hD:∀r,depR r<k->okR r->yu6 W GR GA r){b:Bool}{m:Int}{Y0 Y1:Option D}(h0:0<=m):∀(r:List Pc) (R:List Int->Str->Prop) (F:Frt) (N:Nat) (y:Option D),depR r<=k->okR r->m+12*depR r<=200->Good W R F->Few N R->N+(toksR r).length<=900->
  ∃z,dC 4 (vL (oJ GR)) (pcsD r) [Y0,Y1,some (aQ b m),some (aI false W F),y]=some (.nx,[Y0,Y1,some (aQ b m),some (aI false W (r.foldl (fun F p=>frP W GA b m F p) F)),z])
 |[],R,F,N,y,_,_,_,_,_,_=>⟨y,rfl⟩
 |p::r,R,F,N,y,hk,ho,h1,hF,hN,hT=>by
  rw [depR] at hk h1
  rw [toksR,Z2] at hT
  have q1:=xc3 hW hG hD (b:=b) (Y0:=Y0) (Y1:=Y1) (show dD p<=k by omega) ho.1 h0 (by omega) hF hN (by omega)
  obtain⟨z,e⟩:=yk1 hW hG hD h0 r _ _ _ (some (pcD p)) (by omega) ho.2 (by omega) (sZ hG (b:=b) (show dD p<=k by omega) ho.1 h0 (by omega) hF) (yr7 hN) (by omega)
  refine⟨z,?_⟩
  show dC 4 _ (pcD p::pcsD r) _=_
  rw [dC]
  show((vL (oJ GR) [Y0,Y1,some (aQ b m),some (aI false W F),some (pcD p)]).bind _)=_
  rw [q1];exact e
theorem zu1{W:Str}(hW:W.length<=900000):∀(n:Nat) (r:List Pc),depR r<n->okR r->yu6 W (tU n) (frN W n) r
 |0,_,h,_=>absurd h (Yu _)
 |n+1,r,hd,ho=>fun b m R F N h0 h1 hF hN hT=>by
  obtain⟨z,e⟩:=yk1 (GR:=tU n) (GA:=frN W n) (k:=n) (Y0:=some (aI false W F)) (Y1:=some (.tup (pcsD r))) hW (fun q h2 h3=>tD n q h2 h3) (fun q h2 h3=>zu1 hW n q h2 h3) h0 r R F N none (by omega) ho h1 hF hN hT
  have s1:aS 3 (aJ (aR (aB 0))) [some (aI false W F),some (.tup (pcsD r)),some (aQ b m),none,none]=some (.nx,[some (aI false W F),some (.tup (pcsD r)),some (aQ b m),some (aI false W F),none]):=bF (cB rfl (uX W F))
  have s2:fS 4 (gV (aB 1)) (vL (oJ (tU n))) [some (aI false W F),some (.tup (pcsD r)),some (aQ b m),some (aI false W F),none]=some (.nx,[some (aI false W F),some (.tup (pcsD r)),some (aQ b m),some (aI false W (frN W (n+1) b m r F)),z]):=nC rfl e
  show gP 3 2 (mU vJ (oJ (tU n)) wH) _=_
  exact hX rfl (dQ s1 (dQ s2 ⟨_,rfl⟩))
abbrev vM:tz7:=gE 2 0 (bX [true,false]) kY
theorem xj1(W:Str):vM [.obj true "AlongText" [] [],.str W]=some (.non,[.obj true "AlongText" ["text"] [.str W],.str W]):=by
 simp [gE,kY,lV,sH,cQ,aR,aB,bR,fF,tO,bX,D.imm]
theorem yr9{p:PSt}{f:tz2}{W:Str}(h:f p=some (.str W)):kX (eL "AlongText" (cO [.im f]) vM) p=some (cN W):=by
 have i:=xj1 W
 unfold kX
 have e:eL "AlongText" (cO [.im f]) vM p=some (.obj true "AlongText" ["text"] [.str W]):=by
  unfold eL
  rw [dS h rfl iK,Z7,i];rfl
 rw [e];rfl
abbrev za7(n:Nat):tz6:=gP 2 0 (oB (tU n) ym1)
def dR(W:Str)(n:Nat)(r:List Pc):Frt:=frN W n true 0 r [(0,((),[]))]
theorem yM(W:Str):Good W (fun cs t=>cs=[]/\t=⟨#[]⟩) [(0,((),[]))]:=⟨by simp,fun p hp=>by
 rw [ZA.mp hp];exact⟨_,⟨rfl,rfl⟩,ya1 W⟩⟩
theorem yk2{W:Str}{n:Nat}{r:List Pc}(hW:W.length<=900000)(hd:depR r<n)(h8:depR r<=16)(ho:okR r)(hl:(toksR r).length<=800):za7 n [aI false W [(0,((),[]))],.tup (pcsD r)]=some (aI false W (dR W n r)):=by
 have q:=zu1 hW n r hd ho true 0 _ _ 0 (Yt _) (by omega) (yM W) (fun c t h=>by rw [h.1];exact Z9 _) (by omega)
 exact hX rfl ⟨_,bY (aZ (aE rfl (aE rfl (aE (aZ rfl yq7) rfl))) q)⟩
def nb(y x:Way):Prop:=ltW x y=false
theorem pL:∀a:List Int,HT.lexLt a a=false
 |[]=>rfl
 |x::a=>by show(if x=x then HT.lexLt a a else _)=_;rw [if_pos rfl];exact pL a
theorem zu2:∀{a b c:List Int},HT.lexLt a b=false->HT.lexLt b c=false->HT.lexLt a c=false
 |[],[],c,_,h=>h
 |[],_::_,_,h,_=>by cases h
 |x::a,b,[],_,_=>rfl
 |x::a,[],z::c,_,h=>by cases h
 | x::a,y::b,z::c,h1,h2=>by
  have h1':(if x=y then HT.lexLt a b else decide (x<y))=false:=h1
  have h2':(if y=z then HT.lexLt b c else decide (y<z))=false:=h2
  show(if x=z then HT.lexLt a c else decide (x<z))=false
  by_cases e1:x=y
  ·subst e1
   rw [if_pos rfl] at h1'
   by_cases e2:x=z
   ·subst e2
    rw [if_pos rfl] at h2'|-
    exact zu2 h1' h2'
   ·rw [if_neg e2] at h2'|-;exact h2'
  ·rw [if_neg e1] at h1'
   have g1:=YA h1'
   by_cases e2:y=z
   ·subst e2
    rw [if_neg e1];exact h1'
   ·rw [if_neg e2] at h2'
    have g2:=YA h2'
    rw [if_neg (by omega)]
    exact Zc (by omega)
theorem uY{y x:Way}:nb y x↔HT.lexLt x.2 y.2=false:=by
 have e:ltW x y=(if x.2=y.2 then false else HT.lexLt x.2 y.2):=rfl
 unfold nb
 rw [e]
 by_cases c:x.2=y.2
 ·rw [if_pos c,c,pL]
 ·rw [if_neg c]
theorem zX(x:Way):nb x x:=uY.mpr (pL _)
theorem zn2{z y x:Way}(h1:nb z y)(h2:nb y x):nb z x:=by
 rw [uY] at*
 exact zu2 h2 h1
theorem ys0:∀{a b:List Int},HT.lexLt a b=true->HT.lexLt b a=false:=fun {a b} h=>by
 cases e:HT.lexLt b a with
 |false=>rfl
 | true =>
  cases e2:HT.lexLt a a with
  | false=>
   exact absurd h (by
    intro _
    have:∀{a b:List Int},HT.lexLt a b=true->HT.lexLt b a=true->False:=by
     intro a
     induction a with
     |nil=>intro b _ h2;cases b<;>cases h2
     | cons x a ih=>
      intro b h1 h2
      cases b with
      |nil=>cases h1
      | cons y b=>
       have h1':(if x=y then HT.lexLt a b else decide (x<y))=true:=h1
       have h2':(if y=x then HT.lexLt b a else decide (y<x))=true:=h2
       by_cases c:x=y
       ·subst c
        rw [if_pos rfl] at h1' h2'
        exact ih h1' h2'
       ·rw [if_neg c] at h1'
        rw [if_neg (fun z=>c z.symm)] at h2'
        have:=Yo h1'
        have:=Yo h2'
        omega
    exact this h e)
  |true=>rw [pL] at e2;cases e2
theorem ys1{x y:Way}(h:ltW x y=true):nb x y:=by
 have h':¬nb y x:=fun z=>by unfold nb at z;rw [h] at z;cases z
 rw [uY] at h'|-
 cases e:HT.lexLt x.2 y.2 with
 |false=>exact absurd e h'
 |true=>exact ys0 e
def zh8(a b:List Int):Prop:=(∀x,b=a++x->x=[])/\(∀x,a=b++x->x=[])
theorem zu3:∀{a b:List Int},zh8 a b->∀u,HT.lexLt (a++u) (b++u)=HT.lexLt a b
 |[],b,h,u=>by
  have:b=[]:=h.1 b rfl
  subst this
  rw [ZV,pL,pL]
 |a::as,[],h,u=>by have:=h.2 (a::as) rfl;cases this
 | x::a,y::b,h,u=>by
  show(if x=y then HT.lexLt (a++u) (b++u) else decide (x<y))=(if x=y then HT.lexLt a b else decide (x<y))
  by_cases c:x=y
  ·subst c
   rw [if_pos rfl,if_pos rfl]
   exact zu3 ⟨fun z hz=>h.1 z (by rw [hz];rfl),fun z hz=>h.2 z (by rw [hz];rfl)⟩ u
  ·rw [if_neg c,if_neg c]
theorem xj2{y x:Way}(h:nb y x)(ha:zh8 x.2 y.2)(u:List Int):nb (y.1,y.2++u) (x.1,x.2++u):=by
 rw [uY] at h|-
 show HT.lexLt (x.2++u) (y.2++u)=false
 rw [zu3 ha];exact h
theorem zY:∀{F:Frt} {k:Nat} {y:Way},iL F k=some y->(k,y)∈F
 |[],_,_,h=>by cases h
 |p::F,k,y,h=>by
  rw [iL] at h
  by_cases e:p.1=k
  ·rw [if_pos e] at h;cases h;subst e;exact Z0
  ·rw [if_neg e] at h;exact Z1 _ (zY h)
theorem zu4:∀{F:Frt} {k:Nat} {y z:Way},(F.map (·.1)).Nodup->(k,y)∈F->(k,z)∈F->y=z
 |[],_,_,_,_,h,_=>by cases h
 |p::F,k,y,z,nd,h1,h2=>by
  rw [Za,Zo] at nd
  rcases Z8.mp h1 with e1|e1<;>rcases Z8.mp h2 with e2|e2
  ·rw [<-e2] at e1;cases e1;rfl
  ·exact absurd (Yv (f:=(·.1)) e2) (by rw [<-e1] at nd;exact nd.1)
  ·exact absurd (Yv (f:=(·.1)) e1) (by rw [<-e2] at nd;exact nd.1)
  ·exact zu4 nd.2 e1 e2
theorem zZ:∀{F:Frt} {k:Nat} {x y:Way},(k,y)∈F->(k,x)∈kG F k x
 |[],_,_,_,h=>by cases h
 |p::F,k,x,y,h=>by
  rw [kG]
  rcases Z8.mp h with e|e
  ·rw [<-e,if_pos rfl];exact Z0
  ·exact Z1 _ (zZ e)
theorem zn3:∀{F:Frt} {k:Nat} {x:Way} {q:Nat×Way},q∈F->q.1≠k->q∈kG F k x
 |[],_,_,_,h,_=>by cases h
 |p::F,k,x,q,h,hk=>by
  rw [kG]
  rcases Z8.mp h with e|e
  ·rw [<-e,if_neg hk];exact Z0
  ·exact Z1 _ (zn3 e hk)
def Has(F:Frt)(k:Nat)(x:Way):Prop:=∃y,(k,y)∈F/\nb y x
theorem Has.le{F:Frt}{k:Nat}{x z:Way}(h:Has F k x)(hz:nb x z):Has F k z:=by
 obtain⟨y,a,b⟩:=h
 exact⟨y,a,zn2 b hz⟩
theorem zu5{F:Frt}{k:Nat}{x:Way}(h:(F.map (·.1)).Nodup):((gF F k x).map (·.1)).Nodup:=by
 unfold gF
 cases e:iL F k with
 |none=>
  simp only
  rw [ZU,Zy]
  refine⟨h,by simp,fun a ha b hb z=> ?_⟩
  simp only [Za,X1,ZA] at hb
  subst hb
  subst z
  exact uW e ha
 |some y=>
  simp only
  split
  ·rw [qW];exact h
  ·exact h
theorem zn4{F:Frt}{k:Nat}{x:Way}(nd:(F.map (·.1)).Nodup):Has (gF F k x) k x/\∀j z,Has F j z->Has (gF F k x) j z:=by
 unfold gF
 cases e:iL F k with
 |none=>
  simp only
  exact⟨⟨x,by simp,zX x⟩,fun j z ⟨y,a,b⟩=>⟨y,Zs _ a,b⟩⟩
 | some y=>
  simp only
  have hy:=zY e
  by_cases c:ltW x y=true
  ·rw [if_pos c]
   refine⟨⟨x,zZ hy,zX x⟩,fun j z ⟨y',a,b⟩=> ?_⟩
   by_cases hj:j=k
   ·subst hj
    rw [zu4 nd a hy] at b
    exact⟨x,zZ hy,zn2 (ys1 c) b⟩
   ·exact⟨y',zn3 a hj,b⟩
  ·rw [if_neg c]
   exact⟨⟨y,hy,by unfold nb;simpa using c⟩,fun j z h=>h⟩
theorem tH:∀{G F:Frt},(F.map (·.1)).Nodup->((iS F G).map (·.1)).Nodup/\(∀p∈G,Has (iS F G) p.1 p.2)/\∀j z,Has F j z->Has (iS F G) j z
 |[],F,nd=>⟨nd,fun p h=>absurd h ZK,fun _ _ h=>h⟩
 |p::G,F,nd=>by
  obtain⟨a,b,c⟩:=tH (G:=G) (zu5 (k:=p.1) (x:=p.2) nd)
  obtain⟨d,e⟩:=zn4 (k:=p.1) (x:=p.2) nd
  refine⟨a,fun q hq=> ?_,fun j z h=>c j z (e j z h)⟩
  rcases Z8.mp hq with h|h
  ·subst h;exact c _ _ d
  ·exact b q h
mutual
theorem zn5:∀{p:Pc} {b:Bool} {m:Int} {cs cs':List Int} {t t':Str},cJ b m p cs t=some (cs',t')->∃a,cs=a++cs'/\cJ b m p a t=some ([],t')
 | .leaf l,b,m,cs,cs',t,t',h=>by
  rw [cJ] at h
  cases e:wr b m (col t) l with
  |none=>rw [e] at h;cases h
  |some w=>rw [e] at h;cases h;exact⟨[],rfl,by rw [cJ,e];rfl⟩
 | .group r,b,m,cs,cs',t,t',h=>by
  rw [cJ.eq_def] at h
  simp only at h
  cases b with
  |false=>
   simp only [Y8,X4] at h
   obtain⟨a,e1,e2⟩:=setR_cut h
   exact⟨a,e1,by rw [cJ.eq_def];simpa using e2⟩
  | true=>
   cases cs with
   |nil=>simp at h
   | cons c cs=>
    simp only [Yc] at h
    by_cases c0:c=0
    ·simp only [c0,Yc] at h
     obtain⟨a,e1,e2⟩:=setR_cut h
     exact⟨c::a,by rw [e1];rfl,by rw [cJ.eq_def];simpa [c0] using e2⟩
    ·by_cases c1:c=1
     ·simp [c1] at h
      obtain⟨a,e1,e2⟩:=setR_cut h
      exact⟨c::a,by rw [e1];rfl,by rw [cJ.eq_def];simpa [c1] using e2⟩
     ·simp [c0,c1] at h
 | .hang n r,b,m,cs,cs',t,t',h=>by
  rw [cJ] at h
  obtain⟨a,e1,e2⟩:=setR_cut h
  exact⟨a,e1,by rw [cJ];exact e2⟩
 | .either rs,b,m,cs,cs',t,t',h=>by
  rw [cJ.eq_def] at h
  cases cs with
  |nil=>cases h
  | cons c cs=>
   simp only at h
   by_cases c0:0<=c
   ·simp only [c0,Yc] at h
    obtain⟨a,e1,e2⟩:=setAt_cut h
    exact⟨c::a,by rw [e1];rfl,by rw [cJ.eq_def];simpa [c0] using e2⟩
   ·simp [c0] at h
theorem setR_cut:∀{r:List Pc} {b:Bool} {m:Int} {cs cs':List Int} {t t':Str},setR b m r cs t=some (cs',t')->∃a,cs=a++cs'/\setR b m r a t=some ([],t')
 |[],b,m,cs,cs',t,t',h=>by rw [setR] at h;cases h;exact⟨[],rfl,by rw [setR]⟩
 | p::r,b,m,cs,cs',t,t',h=>by
  rw [setR] at h
  cases e:cJ b m p cs t with
  |none=>rw [e] at h;cases h
  |some s=>
   obtain⟨c1,t1⟩:=s
   rw [e] at h
   obtain⟨a,e1,e2⟩:=zn5 e
   obtain⟨a',e3,e4⟩:=setR_cut (show setR b m r c1 t1=some (cs',t') from h)
   refine⟨a++a',by rw [e1,e3,Ze],?_⟩
   rw [setR,qV a' e2]
   exact e4
theorem setAt_cut:∀{rs:List (List Pc)} {i:Nat} {b:Bool} {m:Int} {cs cs':List Int} {t t':Str},setAt b m rs i cs t=some (cs',t')->∃a,cs=a++cs'/\setAt b m rs i a t=some ([],t')
 |[],i,b,m,cs,cs',t,t',h=>by rw [setAt] at h;cases h
 |r::rs,0,b,m,cs,cs',t,t',h=>by
  rw [setAt] at h
  obtain⟨a,e1,e2⟩:=setR_cut h
  exact⟨a,e1,by rw [setAt];exact e2⟩
 |r::rs,i+1,b,m,cs,cs',t,t',h=>by
  rw [setAt] at h
  obtain⟨a,e1,e2⟩:=setAt_cut h
  exact⟨a,e1,by rw [setAt];exact e2⟩
end
def lO(R:List Int->Str->Prop):Prop:=∀c x t t',R c t->R (c++x) t'->x=[]/\t=t'
theorem lO.apart{R:List Int->Str->Prop}(h:lO R){a b:List Int}{s t:Str}(ha:R a s)(hb:R b t):zh8 a b:=
 ⟨fun x e=>by subst e;exact(h a x s t ha hb).1,fun x e=>by subst e;exact(h b x t s hb ha).1⟩
theorem ze0:∀{a b c d:List Int},a++b=c++d->(∃x,c=a++x)\/∃x,a=c++x:=fun {a b c d} h=>by
 rcases List.append_eq_append_iff.mp h with ⟨x,e,_⟩|⟨x,e,_⟩
 ·exact .inl ⟨x,e⟩
 ·exact .inr ⟨x,e⟩
theorem lO.aft{R:List Int->Str->Prop}{set:List Int->Str->Option (List Int×Str)}(h:lO R)(hs:∀c x t t',set c t=some ([],t')->set (c++x) t=some (x,t')):lO (Aft R set):=by
 rintro c x t t' ⟨c0,t0,c1,r1,rfl,e1⟩ ⟨d0,s0,d1,r2,e,e2⟩
 have key:c0=d0/\t0=s0:=by
  rcases ze0 (show c0++(c1++x)=d0++d1 by rw [<-e,Ze]) with ⟨z,rfl⟩|⟨z,rfl⟩
  ·obtain⟨rfl,rfl⟩:=h c0 z t0 s0 r1 r2
   exact⟨by rw [Zh],rfl⟩
  ·obtain⟨rfl,rfl⟩:=h d0 z s0 t0 r2 r1
   exact⟨by rw [Zh],rfl⟩
 obtain⟨rfl,rfl⟩:=key
 rw [Ze] at e
 have ed:=Yl e
 subst ed
 rw [hs c1 x t0 t e1] at e2
 cases e2
 exact⟨rfl,rfl⟩
theorem lO.chose{R:List Int->Str->Prop}(h:lO R)(n:Int):lO (zh4 R n):=by
 rintro c x t t' ⟨c0,r1,rfl⟩ ⟨d0,r2,e⟩
 rcases ze0 (show c0++([n]++x)=d0++[n] by rw [<-e,Ze]) with ⟨z,rfl⟩|⟨z,rfl⟩
 ·obtain⟨rfl,rfl⟩:=h c0 z t t' r1 r2
  rw [Zh,Ze] at e
  have:=Yl e
  exact⟨by simpa using this,rfl⟩
 ·obtain⟨rfl,rfl⟩:=h d0 z t' t r2 r1
  rw [Zh,Ze] at e
  have:=Yl e
  exact⟨by simpa using this,rfl⟩
def kI(W:Str)(R:List Int->Str->Prop)(F:Frt):Prop:=∀c t k,R c t->oQ W t k->Has F k ((),c)
theorem kI.mono{W:Str}{R R':List Int->Str->Prop}{F:Frt}(h:kI W R F)(k:∀c t,R' c t->R c t):kI W R' F:=fun c t j r hc=>h c t j (k c t r) hc
theorem ya4{W:Str}{R:List Int->Str->Prop}{F:Frt}(hf:lO R)(hg:Good W R F)(h:kI W R F)(n:Int):kI W (zh4 R n) (jI F n):=by
 rintro c t k ⟨c0,r,rfl⟩ hc
 obtain⟨y,hy,hn⟩:=h c0 t k r hc
 obtain⟨t',ry,_⟩:=hg.hit _ hy
 have:=(tH (G:=F.map (zq3 n)) (F:=[]) Zf).2.1 (zq3 n (k,y)) (Yv hy)
 exact this.le (xj2 hn (hf.apart r ry) [n])
theorem yk3{W t:Str}{k k':Nat}(h:oQ W t k)(h':oQ W t k'):k=k':=by rw [<-h.len,<-h'.len]
theorem yk4{W:Str}{b:Bool}{m:Int}{l:Leaf}{t w:Str}{k:Nat}(hw:wr b m (col t) l=some w)(hc:oQ W (t++w) k):oQ W t t.length/\∀c:Unit,iO W b m l t.length c=some (k,c):=by
 have hl:=hc.len
 rw [gX] at hl
 obtain⟨e,hk⟩:=hc
 have ht:t=hdT W t.length:=by
  have h:=ZP (fun x:Str=>x.cps.toList.take t.length) e
  simp only [bW,pK] at h
  rw [List.take_append_of_le_length (by rw [eM];exact Z9 _),List.take_of_length_le (by rw [eM];exact Z9 _),List.take_take,show min t.length k=t.length by omega] at h
  exact rZ h
 have p0:oQ W t t.length:=⟨ht,by omega⟩
 refine⟨p0,fun c=> ?_⟩
 unfold iO cT
 rw [<-ht,hw,Z7,if_pos ((sX p0.2).mpr ⟨by omega,by rw [<-ht,e,hl]⟩),hl]
theorem uZ{W:Str}{b:Bool}{m:Int}{l:Leaf}:∀{F G:Frt},(G.map (·.1)).Nodup->((iT W b m l F G).map (·.1)).Nodup/\(∀p∈F,∀s,iO W b m l p.1 p.2.1=some s->Has (iT W b m l F G) s.1 (s.2,p.2.2))/\∀j z,Has G j z->Has (iT W b m l F G) j z
 |[],G,nd=>⟨nd,fun p h=>absurd h ZK,fun _ _ h=>h⟩
 | p::F,G,nd=>by
  cases e:iO W b m l p.1 p.2.1 with
  | none=>
   have eq:iT W b m l (p::F) G=iT W b m l F G:=by
    show iT W b m l F (match iO W b m l p.1 p.2.1 with|none=>G|some s=>gF G s.1 (s.2,p.2.2))=_
    rw [e]
   obtain⟨a,h1,h2⟩:=uZ (W:=W) (b:=b) (m:=m) (l:=l) (F:=F) nd
   rw [eq]
   refine⟨a,fun q hq s hs=> ?_,h2⟩
   rcases Z8.mp hq with z|z
   ·rw [z,e] at hs;cases hs
   ·exact h1 q z s hs
  | some s=>
   have eq:iT W b m l (p::F) G=iT W b m l F (gF G s.1 (s.2,p.2.2)):=by
    show iT W b m l F (match iO W b m l p.1 p.2.1 with|none=>G|some s=>gF G s.1 (s.2,p.2.2))=_
    rw [e]
   obtain⟨a,h1,h2⟩:=uZ (W:=W) (b:=b) (m:=m) (l:=l) (F:=F) (zu5 (k:=s.1) (x:=(s.2,p.2.2)) nd)
   obtain⟨d,f⟩:=zn4 (k:=s.1) (x:=(s.2,p.2.2)) nd
   rw [eq]
   refine⟨a,fun q hq s' hs=> ?_,fun j z h=>h2 j z (f j z h)⟩
   rcases Z8.mp hq with z|z
   ·rw [z,e] at hs;cases hs;rw [z];exact h2 _ _ d
   ·exact h1 q z s' hs
theorem ya5{W:Str}{R:List Int->Str->Prop}{b:Bool}{m:Int}{l:Leaf}{F:Frt}(hl:eR l)(h0:0<=m)(h1:m<=200)(h:kI W R F):kI W (Aft R (cJ b m (.leaf l))) (iT W b m l F []):=by
 rintro c t k ⟨c0,t0,c1,r,rfl,e⟩ hc
 rw [cJ] at e
 cases ew:wr b m (col t0) l with
 |none=>rw [ew] at e;cases e
 |some w=>
  rw [ew] at e
  cases e
  obtain⟨g1,g2⟩:=yk4 ew hc
  obtain⟨y,hy,hn⟩:=h c0 t0 _ r g1
  have:=(uZ (W:=W) (b:=b) (m:=m) (l:=l) (F:=F) (G:=[]) Zf).2.1 (t0.length,y) hy _ (g2 y.1)
  rw [Zh]
  exact this.le hn
theorem xc4{b:Bool}{m:Int}{p:Pc}{c:List Int}{t t':Str}(hp:∀l,p≠ .leaf l)(h:cJ b m p c t=some ([],t')):∃(i:Nat) (x:List Pc×Bool×Int) (c':List Int),(cL b m p)[i]? =some x/\c=(if cR b p=true then [(i:Int)] else [])++c'/\setR x.2.1 x.2.2 x.1 c' t=some ([],t'):=by
 cases p with
 |leaf l=>exact absurd rfl (hp l)
 | group r=>
  rw [cJ.eq_def] at h
  cases b with
  |false=>exact⟨0,(r,false,m),c,by simp [cL],by simp [cR],by simpa using h⟩
  | true=>
   cases c with
   |nil=>simp at h
   | cons d c=>
    simp only [Yc] at h
    by_cases c0:d=0
    ·subst c0
     exact⟨0,(r,false,m),c,by simp [cL],by simp [cR],by simpa using h⟩
    ·by_cases c1:d=1
     ·subst c1
      exact⟨1,(r,true,m),c,by simp [cL],by simp [cR],by simpa using h⟩
     ·simp [c0,c1] at h
 |hang n r=>exact⟨0,(r,b,m+n),c,by simp [cL],by simp [cR],by rw [cJ] at h;exact h⟩
 | either rs=>
  rw [cJ.eq_def] at h
  cases c with
  |nil=>cases h
  | cons d c=>
   simp only at h
   by_cases c0:0<=d
   ·simp only [c0,Yc] at h
    cases e:rs[d.toNat]? with
    |none=>rw [yH e] at h;cases h
    |some r=>
     rw [qU e] at h
     refine⟨d.toNat,(r,b,m),c,?_,by simp [cR];omega,h⟩
     show(rs.map fun r=>(r,b,m))[d.toNat]? =_
     rw [Zi,e];rfl
   ·simp [c0] at h
def za8(W:Str)(GR:Bool->Int->List Pc->Frt->Frt)(r:List Pc):Prop:=∀(b:Bool) (m:Int) (R:List Int->Str->Prop) (F:Frt),0<=m->m+12*depR r<=200->lO R->Good W R F->kI W R F->kI W (Aft R (setR b m r)) (GR b m r F)
theorem zu6{GR:Bool->Int->List Pc->Frt->Frt}{tk:Bool}{F:Frt}:∀(xs:List (List Pc×Bool×Int)) (n:Nat) (A:Frt),(A.map (·.1)).Nodup->(∀(i:Nat) x,xs[i]? =some x->∀k z,Has (GR x.2.1 x.2.2 x.1 (if tk=true then jI F ((n+i:Nat):Int) else F)) k z->Has (frW GR tk F n xs A) k z)/\∀j z,Has A j z->Has (frW GR tk F n xs A) j z
 |[],n,A,nd=>⟨fun i x h=>by simp at h,fun _ _ h=>h⟩
 | x::xs,n,A,nd=>by
  rw [frW]
  obtain⟨a,b,c⟩:=tH (G:=GR x.2.1 x.2.2 x.1 (if tk=true then jI F n else F)) nd
  obtain⟨d,e⟩:=zu6 (GR:=GR) (tk:=tk) (F:=F) xs (n+1) _ a
  refine⟨fun i y hy k z hk=> ?_,fun j z h=>e j z (c j z h)⟩
  cases i with
  |zero=>
   simp at hy
   subst hy
   obtain⟨w,hw,hn⟩:=hk
   exact e k z ((b (k,w) hw).le hn)
  |succ i=>exact d i y (by simpa using hy) k z (by rwa [show n+1+i=n+(i+1) by omega])
theorem ya6{W:Str}{GR:Bool->Int->List Pc->Frt->Frt}{k:Nat}(hG:∀r,depR r<k->okR r->za8 W GR r){R:List Int->Str->Prop}{b:Bool}{m:Int}{p:Pc}{F:Frt}(hk:dD p<=k)(ho:okP p)(h0:0<=m)(h1:m+12*dD p<=200)(hf:lO R)(hF:Good W R F)(hB:kI W R F):kI W (Aft R (cJ b m p)) (frP W GR b m F p):=by
 have hold:(∀l,p≠ .leaf l)->kI W (Aft R (cJ b m p)) (frW GR (cR b p) F 0 (cL b m p) []):=by
  intro hp
  rintro c t q ⟨c0,t0,c1,r,rfl,e⟩ hc
  obtain⟨i,x,c',hx,rfl,hs⟩:=xc4 hp e
  obtain⟨a1,a2,a3,a4⟩:=xF ho h0 h1 hk (ZT hx)
  refine(zu6 (GR:=GR) (tk:=cR b p) (F:=F) (cL b m p) 0 [] Zf).1 i x hx q _ ?_
  rw [Yw]
  by_cases tk:cR b p=true
  ·rw [if_pos tk,if_pos tk]
   exact hG x.1 a3 a4 x.2.1 x.2.2 _ _ a1 a2 (hf.chose i) (sY hF i) (ya4 hf hF hB i) _ t q ⟨c0++[(i:Int)],t0,c',⟨c0,r,rfl⟩,by rw [Ze],hs⟩ hc
  ·rw [if_neg tk,if_neg tk]
   exact hG x.1 a3 a4 x.2.1 x.2.2 _ _ a1 a2 hf hF hB _ t q ⟨c0,t0,c',r,rfl,hs⟩ hc
 cases p with
 |leaf l=>exact ya5 ho h0 (by rw [dD] at h1;omega) hB
 |group r=>exact hold nofun
 |hang n r=>exact hold nofun
 |either rs=>exact hold nofun
theorem ze1{W:Str}{GR:Bool->Int->List Pc->Frt->Frt}{k:Nat}(hGd:∀r,depR r<k->okR r->nH W GR r)(hG:∀r,depR r<k->okR r->za8 W GR r){b:Bool}{m:Int}(h0:0<=m):∀{r:List Pc} {R:List Int->Str->Prop} {F:Frt},depR r<=k->okR r->m+12*depR r<=200->lO R->Good W R F->kI W R F->kI W (Aft R (setR b m r)) (r.foldl (fun F p=>frP W GR b m F p) F)
 |[],R,F,_,_,_,_,_,hB=>hB.mono fun c t ⟨c0,t0,c1,r,e,h⟩=>by
  rw [setR] at h
  cases h
  rw [e,Zh];exact r
 | p::r,R,F,hk,ho,h1,hf,hF,hB=>by
  rw [depR] at hk h1
  have hp:=sZ hGd (b:=b) (show dD p<=k by omega) ho.1 h0 (by omega) hF
  have hb:=ya6 hG (b:=b) (show dD p<=k by omega) ho.1 h0 (by omega) hf hF hB
  have hff:lO (Aft R (cJ b m p)):=hf.aft fun c x t t' e=>by rw [qV x e];rfl
  refine(ze1 hGd hG h0 (r:=r) (by omega) ho.2 (by omega) hff hp hb).mono fun c t=> ?_
  rintro⟨c0,t0,c1,r1,rfl,e⟩
  rw [setR] at e
  cases e2:cJ b m p c1 t0 with
  |none=>rw [e2] at e;cases e
  |some s=>
   obtain⟨c2,t1⟩:=s
   rw [e2] at e
   obtain⟨a,rfl,e3⟩:=zn5 e2
   exact⟨c0++a,t1,c2,⟨c0,t0,a,r1,rfl,e3⟩,by rw [Ze],e⟩
theorem zn6{W:Str}:∀(n:Nat) (r:List Pc),depR r<n->okR r->za8 W (frN W n) r
 |0,_,h,_=>absurd h (Yu _)
 |n+1,r,h,ho=>fun b m R F h0 h1 hf hF hB=>by
  rw [frN]
  exact ze1 (fun q h1 h2=>tD n q h1 h2) (fun q h1 h2=>zn6 n q h1 h2) h0 (by omega) ho h1 hf hF hB
theorem ya7{W:Str}{n:Nat}{r:List Pc}(hd:depR r<n)(ho:okR r)(h1:12*(depR r:Int)<=200):kI W (fun cs t=>setR true 0 r cs ⟨#[]⟩=some ([],t)) (dR W n r):=by
 have hf:lO (fun cs t=>cs=[]/\t=⟨#[]⟩):=by
  rintro c x t t' ⟨rfl,rfl⟩ ⟨e,rfl⟩
  exact⟨e,rfl⟩
 have hb:kI W (fun cs t=>cs=[]/\t=⟨#[]⟩) [(0,((),[]))]:=by
  rintro c t k ⟨rfl,rfl⟩ hc
  obtain rfl:=yk3 hc (ya1 W)
  exact⟨_,ZA.mpr rfl,zX _⟩
 refine(zn6 n r hd ho true 0 _ _ (Yt _) (by omega) hf (yM W) hb).mono fun c t e=> ?_
 exact⟨[],⟨#[]⟩,c,⟨rfl,rfl⟩,rfl,e⟩
theorem zn7{m:Int}{x:Nat}(h:m+12*((x+1:Nat):Int)<=200):m+12*(x:Int)<=200:=by omega
theorem xc5{m:Int}{x y:Nat}(h:m+12*(y:Int)<=200)(hx:x<=y):m+12*(x:Int)<=200:=by omega
theorem xj3{m k:Int}{x:Nat}(h:m+12*((x+1:Nat):Int)<=200)(hk:k<=12):m+k+12*(x:Int)<=200:=by omega
def sU(t:Str)(cs:List Int)(c2:D)(c3:Int):D:= .lst true [.str t,.lst true (bD cs),c2,.int c3]
theorem xo1:ixN 4 1=some 1:=by decide
theorem mL{np n:Nat}{m:Nat->Bool}{f:tz1}{ds ds':List D}{d:D}{q:PSt}(hl:ds.length=np)(h:f (ds.map some++List.replicate n none)=some (.ret d,q))(ho:tO m q 0 ds=some ds'):gE np n m f ds=some (d,ds'):=by
 unfold gE
 rw [if_pos hl,h,Z7]
 show(tO m q 0 ds).bind _=_
 rw [ho];rfl
theorem zn8{f:tz8}{p p':PSt}{d:D}(h:f p=some (d,p')):cI f p=some (.ret d,p'):=by unfold cI;rw [h];rfl
theorem ys2{i:Nat}{f:tz8}{p p':PSt}{d:D}(h:f p=some (d,p')):aS i f p=some (.nx,p'.set i (some d)):=by unfold aS;rw [h];rfl
theorem xj4{i:Nat}{fe:tz2}{y a:D}{l:List D}{p:PSt}(h:fe p=some y)(hp:p[i]? =some (some (.lst true (a::l)))):fV i bR (fC (.int 0)) fe p=some (.nx,p.set i (some (.lst true (y::l)))):=by
 have e:ixN (l.length+1) 0=some 0:=xi1 _
 simp [fV,h,hp,bR,fC,fF,qH,e]
theorem zn9:∀{rs:List (List Pc)} {i:Nat} {r:List Pc},rs[i]? =some r->(rowsD rs)[i]? =some (.tup (pcsD r))
 |[],i,_,h=>by simp at h
 |q::rs,0,_,h=>by simp at h;subst h;rfl
 |q::rs,i+1,_,h=>by show(rowsD rs)[i]? =_;exact zn9 (by simpa using h)
section
variable{GH:tz7}{S:D}
abbrev fL(GH:tz7)(GS:tz7):tz7:=gE 5 1 (bX [false,false,false,false,true]) (yY GS GH)
def nP(GH:tz7):Nat->tz7
 |0=>fun _=>none
 |n+1=>gE 5 2 (bX [false,false,false,false,true]) (zp9 (fL GH (nP GH n)))
abbrev yu7:tz2:=f2 jY (f2 jY (aL cM (aA (f2 dIx (aB 4) (fC (.int 0))) aD)) (fC (.int 1))) (fMt vF (f2 dIx (aB 4) (fC (.int 0))) (aA (fC (.str "\n")) aD))
def jS(GI:tz7):tz1:=aV (aS 6 (aJ yu7))
 (fIf (aX (nE (kdT 5 "word") (bV (kdT 5 "gap") (fT (aB 2)))))
  (fV 4 bR (fC (.int 0)) (f2 cA (f2 dIx (aB 4) (fC (.int 0))) (f2 dIx (aB 5) (fC (.int 1)))))
  (fIf (aX (bV (kdT 5 "stop") (fB (f2 dLe (aB 6) (f2 dIx (aB 5) (fC (.int 1)))))))
  (fV 4 bR (fC (.int 0)) (f2 cA (f2 dIx (aB 4) (fC (.int 0))) (f2 gO (fC (.str " ")) (f2 jY (f2 dIx (aB 5) (fC (.int 1))) (aB 6)))))
  (fIf (aX (bV (kdT 5 "stop") (jC (fT (aB 2)))))
  (fV 4 bR (fC (.int 0)) (f2 cA (f2 cA (f2 dIx (aB 4) (fC (.int 0))) (fC (.str "\n"))) (f2 gO (fC (.str " ")) (f2 dIx (aB 5) (fC (.int 1))))))
  (fIf (aX (fB (f2 dIn (f2 dIx (aB 5) (fC (.int 0))) (cE (fKs [.str "gap",.str "end",.str "stop"])))))
  (aV (fIf (aX (fT (aB 2)))
  (cI (aJ (fC (.bl false))))
  cF)
 (fV 4 bR (fC (.int 0)) (f2 cA (f2 cA (f2 dIx (aB 4) (fC (.int 0))) (fC (.str "\n"))) (f2 gO (fC (.str " ")) (aB 3)))))
  (fIf (wB (fTE (fIO [.im (aB 0),.im (aB 5),.im (aB 2),.im (aB 3),.io 4] GI)))
  (cI (aJ (fC (.bl false))))
  cF)))))
theorem vA(k:String)(b:Bool)(h:dIn (.str k) (.lst true [.str "gap",.str "end",.str "stop"])=some (.bl b)){p:PSt}{ds:List D}(hp:p[5]? =some (some (.tup (.str k::ds)))):fB (f2 dIn (f2 dIx (aB 5) (fC (.int 0))) (cE (fKs [.str "gap",.str "end",.str "stop"]))) p=some b:=dJ (aN (y:= .lst true [.str "gap",.str "end",.str "stop"]) (aN (kO hp) rfl (lN _ _)) rfl h)
theorem zo0{t:Str}{cs:List Int}{c2:D}{c3:Int}{x0 x1 x2 x3 x5 x6:Option D}(ht:t.length<=1000000):aS 6 (aJ yu7) [x0,x1,x2,x3,some (sU t cs c2 c3),x5,x6]=some (.nx,[x0,x1,x2,x3,some (sU t cs c2 c3),x5,some (.int (col t:Int))]):=by
 have hs:sizeLine=16777216:=Ya
 have hz:t.length<=sizeLine:=by omega
 have e:=yi9 t
 rw [<-yG] at e
 refine bF (d:= .int (col t:Int)) ?_
 simp! [yu7,sU,hz,fMt,zg4,vF,e]
theorem xc6{GI:tz7}{l:Leaf}{flat:Bool}{m:Int}{t w:Str}{cs:List Int}{c2:D}{c3:Int}{R x6:Option D}(hl:eR l)(h0:0<=m)(h1:m<=200)(ht:t.length<=900000)(e:wr (!flat) m (col t) l=some w):
  ∃y6,jS GI [some S,R,some (.bl flat),some (.int m),some (sU t cs c2 c3),some (bK l),x6]=some (.nx,[some S,R,some (.bl flat),some (.int m),some (sU (t++w) cs c2 c3),some (bK l),y6]):=by
 have hs:sizeLine=16777216:=Ya
 have c:=zo0 (cs:=cs) (c2:=c2) (c3:=c3) (x0:=some S) (x1:=R) (x2:=some (.bl flat)) (x3:=some (.int m)) (x5:=some (bK l)) (x6:=x6) (t:=t) (by omega)
 have add:∀x:Str,x.length<=1000->cA (.str t) (.str x)=some (.str (t++x)):=fun x hx=>by rw [cA,if_pos];omega
 have wrote:∀{fe:tz2} {x:Str} {y6:Option D},fe [some S,R,some (.bl flat),some (.int m),some (sU t cs c2 c3),some (bK l),y6]=some (.str (t++x))->fV 4 bR (fC (.int 0)) fe [some S,R,some (.bl flat),some (.int m),some (sU t cs c2 c3),some (bK l),y6]=some (.nx,[some S,R,some (.bl flat),some (.int m),some (sU (t++x) cs c2 c3),some (bK l),y6]):=fun h=>xj4 h rfl
 have i0:∀y6:Option D,f2 dIx (aB 4) (fC (.int 0)) [some S,R,some (.bl flat),some (.int m),some (sU t cs c2 c3),some (bK l),y6]=some (.str t):=fun y6=>aN (x:=sU t cs c2 c3) rfl rfl (lN _ _)
 have nl:∀{fe:tz2} {k:Int} {y6:Option D},0<=k->k<=200->fe [some S,R,some (.bl flat),some (.int m),some (sU t cs c2 c3),some (bK l),y6]=some (.int k)->f2 cA (f2 cA (f2 dIx (aB 4) (fC (.int 0))) (fC (.str "\n"))) (f2 gO (fC (.str " ")) fe) [some S,R,some (.bl flat),some (.int m),some (sU t cs c2 c3),some (bK l),y6]=some (.str (t++nlw k)):=fun {fe k y6} k0 k1 hf=>by
  have q:=zg1 k (by omega) (by omega)
  have e1:cA (.str t) (.str "\n")=some (.str (t++(⟨#[10]⟩:Str))):=by
   rw [yG,cA,if_pos]
   show t.length+1<=_;omega
  have e2:cA (.str (t++(⟨#[10]⟩:Str))) (.str (Txt.mul " " k))=some (.str (t++nlw k)):=by
   rw [cA,if_pos,xb9];rfl
   rw [gX,sA];show t.length+1+_<=_;omega
  exact aN (aN (i0 y6) rfl e1) (aN rfl hf q) e2
 cases l with
 |word x=>
  have e':x=w:=by simpa [wr] using e
  subst e'
  exact⟨_,(aK c).trans ((bG (yv5 (fG (i:=5) (k:="word") rfl (by decide)))).trans (wrote (aN (i0 _) (aN rfl rfl (fJ _ _ _)) (add x (by have:=hl.2.1;omega)))))⟩
 | gap x=>
  have hx:x.length<=1:=by
   rcases(hl:x=""\/x=" ") with rfl|rfl<;>decide+kernel
  have w0:=fG (i:=5) (p:=[some S,R,some (.bl flat),some (.int m),some (sU t cs c2 c3),some (bK (.gap x)),some (.int (col t:Int))]) (k:="gap") (w:="word") rfl (b:=false) (by decide)
  have g0:=fG (i:=5) (p:=[some S,R,some (.bl flat),some (.int m),some (sU t cs c2 c3),some (bK (.gap x)),some (.int (col t:Int))]) (k:="gap") (w:="gap") rfl (b:=true) (by decide)
  have s0:=fG (i:=5) (p:=[some S,R,some (.bl flat),some (.int m),some (sU t cs c2 c3),some (bK (.gap x)),some (.int (col t:Int))]) (k:="gap") (w:="stop") rfl (b:=false) (by decide)
  cases flat with
  |true=>
   have e':x=w:=by simpa [wr] using e
   subst e'
   exact⟨_,(aK c).trans ((bG (mJ w0 (eI g0 (jA rfl)))).trans (wrote (aN (i0 _) (aN rfl rfl (fJ _ _ _)) (add x (by omega)))))⟩
  |false=>
   have e':nlw m=w:=by simpa [wr] using e
   subst e'
   exact⟨_,(aK c).trans ((dI (bZ (mJ w0 (eI g0 (jA rfl))))).trans ((dI (bZ (dZ s0))).trans ((dI (bZ (dZ s0))).trans ((bG (vA "gap" true (by kernel_rfl) rfl)).trans ((aK (bH (jA rfl))).trans (wrote (nl h0 h1 rfl)))))))⟩
 | fin=>
  have w0:=fG (i:=5) (p:=[some S,R,some (.bl flat),some (.int m),some (sU t cs c2 c3),some (bK .fin),some (.int (col t:Int))]) (k:="end") (w:="word") rfl (b:=false) (by decide)
  have g0:=fG (i:=5) (p:=[some S,R,some (.bl flat),some (.int m),some (sU t cs c2 c3),some (bK .fin),some (.int (col t:Int))]) (k:="end") (w:="gap") rfl (b:=false) (by decide)
  have s0:=fG (i:=5) (p:=[some S,R,some (.bl flat),some (.int m),some (sU t cs c2 c3),some (bK .fin),some (.int (col t:Int))]) (k:="end") (w:="stop") rfl (b:=false) (by decide)
  cases flat with
  |true=>simp [wr] at e
  |false=>
   have e':nlw m=w:=by simpa [wr] using e
   subst e'
   exact⟨_,(aK c).trans ((dI (bZ (mJ w0 (dZ g0)))).trans ((dI (bZ (dZ s0))).trans ((dI (bZ (dZ s0))).trans ((bG (vA "end" true (by kernel_rfl) rfl)).trans ((aK (bH (jA rfl))).trans (wrote (nl h0 h1 rfl)))))))⟩
 | stop k=>
  have hk:0<=k/\k<=40:=hl
  have w0:=fG (i:=5) (p:=[some S,R,some (.bl flat),some (.int m),some (sU t cs c2 c3),some (bK (.stop k)),some (.int (col t:Int))]) (k:="stop") (w:="word") rfl (b:=false) (by decide)
  have g0:=fG (i:=5) (p:=[some S,R,some (.bl flat),some (.int m),some (sU t cs c2 c3),some (bK (.stop k)),some (.int (col t:Int))]) (k:="stop") (w:="gap") rfl (b:=false) (by decide)
  have s0:=fG (i:=5) (p:=[some S,R,some (.bl flat),some (.int m),some (sU t cs c2 c3),some (bK (.stop k)),some (.int (col t:Int))]) (k:="stop") (w:="stop") rfl (b:=true) (by decide)
  have le:fB (f2 dLe (aB 6) (f2 dIx (aB 5) (fC (.int 1)))) [some S,R,some (.bl flat),some (.int m),some (sU t cs c2 c3),some (bK (.stop k)),some (.int (col t:Int))]=some (decide ((col t:Int)<=k)):=dJ (aN rfl (aN rfl rfl (fJ _ _ _)) rfl)
  change (if ((col t:Nat):Int)<=k then some (Txt.mul " " (k-col t)) else if (!flat)=true then some (nlw k) else none)=some w at e
  by_cases z:(col t:Int)<=k
  ·rw [if_pos z] at e
   cases e
   rw [Zl z] at le
   have q:=zg1 (k-col t) (by omega) (by omega)
   exact⟨_,(aK c).trans ((dI (bZ (mJ w0 (dZ g0)))).trans ((bG (eI s0 le)).trans (wrote (aN (i0 _) (aN rfl (aN (aN rfl rfl (fJ _ _ _)) rfl rfl) q) (add _ (by rw [sA];omega))))))⟩
  ·rw [if_neg z] at e
   rw [Zc z] at le
   cases flat with
   |true=>simp at e
   |false=>
    have e':nlw k=w:=by simpa using e
    subst e'
    exact⟨_,(aK c).trans ((dI (bZ (mJ w0 (dZ g0)))).trans ((dI (bZ (eI s0 le))).trans ((bG (eI s0 rfl)).trans (wrote (nl hk.1 (by omega) (aN rfl rfl (fJ _ _ _)))))))⟩
def okF(ok:Bool):Fl:=if ok=true then .nx else .ret (.bl false)
theorem tI{f:tz8}{p p':PSt}{ok:Bool}(h:f p=some (.bl ok,p')):wB (fTE f) p=some (!ok,p'):=by unfold wB fTE;rw [h];rfl
theorem xc7{p:Pc}{GI:tz7}(hS:S.imm=true)(hp:∀l,p≠ .leaf l){flat ok:Bool}{m:Int}{t t':Str}{cs cs':List Int}{c2:D}{c3:Int}{R x6:Option D}(ht:t.length<=1000000)
  (q:GI [S,pcD p,.bl flat,.int m,sU t cs c2 c3]=some (.bl ok,[S,pcD p,.bl flat,.int m,sU t' cs' c2 c3])):
  jS GI [some S,R,some (.bl flat),some (.int m),some (sU t cs c2 c3),some (pcD p),x6]=some (okF ok,[some S,R,some (.bl flat),some (.int m),some (sU t' cs' c2 c3),some (pcD p),some (.int (col t:Int))]):=by
 have c:=zo0 (cs:=cs) (c2:=c2) (c3:=c3) (x0:=some S) (x1:=R) (x2:=some (.bl flat)) (x3:=some (.int m)) (x5:=some (pcD p)) (x6:=x6) (t:=t) ht
 have io:fIO [.im (aB 0),.im (aB 5),.im (aB 2),.im (aB 3),.io 4] GI [some S,R,some (.bl flat),some (.int m),some (sU t cs c2 c3),some (pcD p),some (.int (col t:Int))]=some (.bl ok,[some S,R,some (.bl flat),some (.int m),some (sU t' cs' c2 c3),some (pcD p),some (.int (col t:Int))]):=uU (dS (f:=aB 0) rfl hS (dS (f:=aB 5) rfl (jJ p) (dS (f:=aB 2) rfl rfl (dS (f:=aB 3) rfl rfl (rY (j:=4) rfl iK))))) q rfl
 have go:∀(kn:String) (ds:List D),pcD p= .tup (.str kn::ds)->decide (kn="word")=false->decide (kn="gap")=false->decide (kn="stop")=false->dIn (.str kn) (.lst true [.str "gap",.str "end",.str "stop"])=some (.bl false)->jS GI [some S,R,some (.bl flat),some (.int m),some (sU t cs c2 c3),some (pcD p),x6]=some (okF ok,[some S,R,some (.bl flat),some (.int m),some (sU t' cs' c2 c3),some (pcD p),some (.int (col t:Int))]):=fun kn ds hk a b d e=>by
  have kk:∀(w:String),decide (kn=w)=false->kdT 5 w [some S,R,some (.bl flat),some (.int m),some (sU t cs c2 c3),some (pcD p),some (.int (col t:Int))]=some false:=fun w hw=>fG (i:=5) (k:=kn) (ds:=ds) (by rw [hk];rfl) hw
  refine(aK c).trans ((dI (bZ (mJ (kk _ a) (dZ (kk _ b))))).trans ((dI (bZ (dZ (kk _ d)))).trans ((dI (bZ (dZ (kk _ d)))).trans ((dI (bZ (vA kn false e (ds:=ds) (by rw [hk];rfl)))).trans ?_))))
  cases ok with
  |true=>exact(dI (tI io)).trans rfl
  |false=>exact(zz5 (tI io)).trans rfl
 cases p with
 |leaf l=>exact absurd rfl (hp l)
 |group r=>exact go "group" _ rfl (by decide) (by decide) (by decide) (by kernel_rfl)
 |hang n r=>exact go "hang" _ rfl (by decide) (by decide) (by decide) (by kernel_rfl)
 |either rs=>exact go "either" _ rfl (by decide) (by decide) (by decide) (by kernel_rfl)
end
theorem xc8{GI:tz7}{S:D}{l:Leaf}{flat:Bool}{m:Int}{t:Str}{cs:List Int}{c2:D}{c3:Int}{R x6:Option D}(hl:eR l)(ht:t.length<=900000)(e:wr (!flat) m (col t) l=none):
  flat=true/\∃y6,jS GI [some S,R,some (.bl flat),some (.int m),some (sU t cs c2 c3),some (bK l),x6]=some (.ret (.bl false),[some S,R,some (.bl flat),some (.int m),some (sU t cs c2 c3),some (bK l),y6]):=by
 have hs:sizeLine=16777216:=Ya
 have c:=zo0 (cs:=cs) (c2:=c2) (c3:=c3) (x0:=some S) (x1:=R) (x2:=some (.bl flat)) (x3:=some (.int m)) (x5:=some (bK l)) (x6:=x6) (t:=t) (by omega)
 cases l with
 |word x=>simp [wr] at e
 |gap x=>cases flat<;>simp [wr] at e
 | fin=>
  cases flat with
  |false=>simp [wr] at e
  |true=>
   have w0:=fG (i:=5) (p:=[some S,R,some (.bl true),some (.int m),some (sU t cs c2 c3),some (bK .fin),some (.int (col t:Int))]) (k:="end") (w:="word") rfl (b:=false) (by decide)
   have g0:=fG (i:=5) (p:=[some S,R,some (.bl true),some (.int m),some (sU t cs c2 c3),some (bK .fin),some (.int (col t:Int))]) (k:="end") (w:="gap") rfl (b:=false) (by decide)
   have s0:=fG (i:=5) (p:=[some S,R,some (.bl true),some (.int m),some (sU t cs c2 c3),some (bK .fin),some (.int (col t:Int))]) (k:="end") (w:="stop") rfl (b:=false) (by decide)
   exact⟨rfl,_,(aK c).trans ((dI (bZ (mJ w0 (dZ g0)))).trans ((dI (bZ (dZ s0))).trans ((dI (bZ (dZ s0))).trans ((bG (vA "end" true (by kernel_rfl) rfl)).trans (dP ((bG (jA rfl)).trans (bY rfl)))))))⟩
 | stop k=>
  have hk:0<=k/\k<=40:=hl
  change (if ((col t:Nat):Int)<=k then some (Txt.mul " " (k-col t)) else if (!flat)=true then some (nlw k) else none)=none at e
  by_cases z:(col t:Int)<=k
  ·rw [if_pos z] at e;cases e
  ·rw [if_neg z] at e
   cases flat with
   |false=>simp at e
   |true=>
    have w0:=fG (i:=5) (p:=[some S,R,some (.bl true),some (.int m),some (sU t cs c2 c3),some (bK (.stop k)),some (.int (col t:Int))]) (k:="stop") (w:="word") rfl (b:=false) (by decide)
    have g0:=fG (i:=5) (p:=[some S,R,some (.bl true),some (.int m),some (sU t cs c2 c3),some (bK (.stop k)),some (.int (col t:Int))]) (k:="stop") (w:="gap") rfl (b:=false) (by decide)
    have s0:=fG (i:=5) (p:=[some S,R,some (.bl true),some (.int m),some (sU t cs c2 c3),some (bK (.stop k)),some (.int (col t:Int))]) (k:="stop") (w:="stop") rfl (b:=true) (by decide)
    have le:fB (f2 dLe (aB 6) (f2 dIx (aB 5) (fC (.int 1)))) [some S,R,some (.bl true),some (.int m),some (sU t cs c2 c3),some (bK (.stop k)),some (.int (col t:Int))]=some (decide ((col t:Int)<=k)):=dJ (aN rfl (aN rfl rfl (fJ _ _ _)) rfl)
    rw [Zc z] at le
    exact⟨rfl,_,(aK c).trans ((dI (bZ (mJ w0 (dZ g0)))).trans ((dI (bZ (eI s0 le))).trans ((dI (bZ (eI s0 (gY (b:=true) (jA rfl))))).trans ((bG (vA "stop" true (by kernel_rfl) rfl)).trans (dP ((bG (jA rfl)).trans (bY rfl)))))))⟩
def xI(c l w:Nat):Prop:=c+w<=900/\l+201*w<=900000
section
variable{GH:tz7}{S:D}
def zq4(S:D)(GH:tz7):Prop:=∀(t:Str) (cs:List Int) (many:Nat) (salt:Int),0<many->many<=4->0<=salt->salt<=900->cs.length<=900->
 ∃c:Nat,c<many/\(salt=0->c+1=many)/\GH [S,sU t cs .non salt,.int (many:Int)]=some (.int (c:Int),[S,sU t (cs++[(c:Int)]) .non salt,.int (many:Int)])
def DrR(S:D)(GS:tz7)(r:List Pc):Prop:=∀(flat:Bool) (m:Int) (t:Str) (cs:List Int) (salt:Int),0<=m->m+12*depR r<=200->0<=salt->salt<=900->xI cs.length t.length (toksR r).length->
 ∃ok t' ds,GS [S,.tup (pcsD r),.bl flat,.int m,sU t cs .non salt]=some (.bl ok,[S,.tup (pcsD r),.bl flat,.int m,sU t' (cs++ds) .non salt])/\(ok=true->∀x,setR (!flat) m r (ds++x) t=some (x,t'))/\(salt=0->flat=false->ok=true)/\ds.length<=(toksR r).length/\t'.length<=t.length+201*(toksR r).length
def DrP(S:D)(GI:tz7)(p:Pc):Prop:=∀(flat:Bool) (m:Int) (t:Str) (cs:List Int) (salt:Int),0<=m->m+12*dD p<=200->0<=salt->salt<=900->xI cs.length t.length (bS p).length->
 ∃ok t' ds,GI [S,pcD p,.bl flat,.int m,sU t cs .non salt]=some (.bl ok,[S,pcD p,.bl flat,.int m,sU t' (cs++ds) .non salt])/\(ok=true->∀x,cJ (!flat) m p (ds++x) t=some (x,t'))/\(salt=0->flat=false->ok=true)/\ds.length<=(bS p).length/\t'.length<=t.length+201*(bS p).length
theorem ys3{GS:tz7}{p:Pc}{k:Nat}(hS:S.imm=true)(hH:zq4 S GH)(hG:∀r,depR r<k->okR r->DrR S GS r)(hd:dD p<=k)(ho:okP p)(hp:∀l,p≠ .leaf l):DrP S (fL GH GS) p:=fun flat m t cs salt h0 h1 s0 s1 hf=>by
 have kd:∀(k w:String) (ds:List D) (b:Bool) (x5:Option D) (st:D),pcD p= .tup (.str k::ds)->decide (k=w)=b->kdT 1 w [some S,some (pcD p),some (.bl flat),some (.int m),some st,x5]=some b:=fun k w ds b x5 st hk hb=>fG (i:=1) (k:=k) (ds:=ds) (by rw [hk];rfl) hb
 have call:∀{a1 a2 a3:tz2} {r:List Pc} {b ok:Bool} {m':Int} {q0 q1:D} {x5:Option D},a1 [some S,some (pcD p),some (.bl flat),some (.int m),some q0,x5]=some (.tup (pcsD r))->a2 [some S,some (pcD p),some (.bl flat),some (.int m),some q0,x5]=some (.bl b)->a3 [some S,some (pcD p),some (.bl flat),some (.int m),some q0,x5]=some (.int m')->GS [S,.tup (pcsD r),.bl b,.int m',q0]=some (.bl ok,[S,.tup (pcsD r),.bl b,.int m',q1])->
   fIO [.im (aB 0),.im a1,.im a2,.im a3,.io 4] GS [some S,some (pcD p),some (.bl flat),some (.int m),some q0,x5]=some (.bl ok,[some S,some (pcD p),some (.bl flat),some (.int m),some q1,x5]):=fun e1 e2 e3 q=>uU (dS (f:=aB 0) rfl hS (dS e1 (pcs_imm _) (dS e2 rfl (dS e3 rfl (rY (j:=4) rfl iK))))) q rfl
 have fin:∀{a1 a2 a3:tz2} {r:List Pc} {b ok:Bool} {m':Int} {q0 q1:D} {c:Int},0<=c->a1 [some S,some (pcD p),some (.bl flat),some (.int m),some q0,some (.int c)]=some (.tup (pcsD r))->a2 [some S,some (pcD p),some (.bl flat),some (.int m),some q0,some (.int c)]=some (.bl b)->a3 [some S,some (pcD p),some (.bl flat),some (.int m),some q0,some (.int c)]=some (.int m')->GS [S,.tup (pcsD r),.bl b,.int m',q0]=some (.bl ok,[S,.tup (pcsD r),.bl b,.int m',q1])->
   cI (wC (f2 dGe (aB 5) (fC (.int 0))) (fIO [.im (aB 0),.im a1,.im a2,.im a3,.io 4] GS)) [some S,some (pcD p),some (.bl flat),some (.int m),some q0,some (.int c)]=some (.ret (.bl ok),[some S,some (pcD p),some (.bl flat),some (.int m),some q1,some (.int c)]):=fun {a1 a2 a3 r b ok m' q0 q1 c} h0 e1 e2 e3 q=>by
  have g:f2 dGe (aB 5) (fC (.int 0)) [some S,some (pcD p),some (.bl flat),some (.int m),some q0,some (.int c)]=some (.bl true):=aN rfl rfl (by
   show some (D.bl (decide _))=_
   rw [Zl h0])
  refine zn8 ?_
  unfold wC
  rw [g]
  exact call e1 e2 e3 q
 have draw:∀{f:tz2} {many:Nat} {x5:Option D},0<many->many<=4->f [some S,some (pcD p),some (.bl flat),some (.int m),some (sU t cs .non salt),x5]=some (.int (many:Int))->∃c:Nat,c<many/\(salt=0->c+1=many)/\aS 5 (fIO [.im (aB 0),.io 4,.im f] GH) [some S,some (pcD p),some (.bl flat),some (.int m),some (sU t cs .non salt),x5]=some (.nx,[some S,some (pcD p),some (.bl flat),some (.int m),some (sU t (cs++[(c:Int)]) .non salt),some (.int (c:Int))]):=fun {f many x5} hmn hm4 hf=>by
  have hc:cs.length<=900:=by have:=‹xI _ _ _›;unfold xI at this;omega
  obtain⟨c,c1,c2,q⟩:=hH t cs many salt hmn hm4 s0 s1 hc
  exact⟨c,c1,c2,ys2 (uU (dS (f:=aB 0) rfl hS (rY (j:=4) rfl (dS hf rfl iK))) q rfl)⟩
 unfold xI at hf
 cases p with
 |leaf l=>exact absurd rfl (hp l)
 |hang n r=>
  have ho':(0<=n/\n<=12)/\okR r:=ho
  rw [dD] at hd h1
  have ht:(bS (.hang n r)).length=(toksR r).length+2:=by simp [bS]
  rw [ht] at hf|-
  obtain⟨ok,t',ds,q,e1,e2,e3,e4⟩:=hG r hd ho'.2 flat (m+n) t cs salt (Int.add_nonneg h0 ho'.1.1) (xj3 h1 ho'.1.2) s0 s1 ⟨by omega,by omega⟩
  refine⟨ok,t',ds,mL rfl (dP ((bG (kd "hang" "hang" _ true none _ rfl (by decide))).trans (zn8 (call (aN rfl rfl (zz4 _ _ _ _)) rfl (aN rfl (aN rfl rfl (fJ _ _ _)) rfl) q)))) rfl,fun h x=> ?_,e2,by omega,by omega⟩
  rw [cJ]
  exact e1 h x
 | group r=>
  have ho':okR r:=ho
  rw [dD] at hd h1
  have ht:(bS (.group r)).length=(toksR r).length+2:=by simp [bS]
  rw [ht] at hf|-
  have k1:=fun st=>kd "group" "hang" _ false none st rfl (by decide)
  have k2:=fun st=>kd "group" "group" _ true none st rfl (by decide)
  cases flat with
  |true=>
   obtain⟨ok,t',ds,q,e1,e2,e3,e4⟩:=hG r hd ho' true m t cs salt h0 (zn7 h1) s0 s1 ⟨by omega,by omega⟩
   refine⟨ok,t',ds,mL rfl ((aK (bH (k1 _))).trans (dP ((bG (k2 _)).trans ((aK (bF rfl)).trans ((aK (bH rfl)).trans (fin (Yt _) (aN rfl rfl (fJ _ _ _)) rfl rfl q)))))) rfl,fun h x=> ?_,fun _ z=>absurd z.symm Z5,by omega,by omega⟩
   rw [cJ.eq_def]
   exact e1 h x
  | false=>
   obtain⟨c,c1,c2,qc⟩:=draw (f:=fC (.int 2)) (many:=2) (x5:=some (.int 0)) (by decide) (by decide) rfl
   obtain⟨bb,hbb⟩:∃bb:Bool,decide ((c:Int)=0)=bb:=⟨_,rfl⟩
   obtain⟨ok,t',ds,q,e1,e2,e3,e4⟩:=hG r hd ho' bb m t (cs++[(c:Int)]) salt h0 (zn7 h1) s0 s1 ⟨by rw [Z2];show _+1+_<=_;omega,by omega⟩
   rw [Ze] at q
   refine⟨ok,t',(c:Int)::ds,mL rfl ((aK (bH (k1 _))).trans (dP ((bG (k2 _)).trans ((aK (bF rfl)).trans ((aK ((bG rfl).trans qc)).trans (fin (by omega) (aN rfl rfl (fJ _ _ _)) (aN rfl rfl (by rw [<-hbb];rfl)) rfl q)))))) rfl,fun h x=> ?_,fun z _=>e2 z ?_,by rw [Z4];omega,by omega⟩
   ·have e:=e1 h x
    rw [cJ.eq_def]
    show(if ((c:Int))=0 then _ else _)=_
    by_cases cz:(c:Int)=0
    ·rw [Zl cz] at hbb
     subst hbb
     rw [if_pos cz]
     exact e
    ·rw [Zc cz] at hbb
     subst hbb
     rw [if_neg cz,if_pos (by omega)]
     exact e
   ·have:=c2 z
    rw [<-hbb]
    exact Zc (by omega)
 |either rs=>
  have ho':(2<=rs.length/\rs.length<=4)/\okRs rs:=ho
  have k1:=fun st=>kd "either" "hang" _ false none st rfl (by decide)
  have k2:=fun st=>kd "either" "group" _ false none st rfl (by decide)
  obtain⟨c,c1,c2,qc⟩:=draw (f:=aL cM (aA (f2 dIx (aB 1) (fC (.int 1))) aD)) (many:=rs.length) (x5:=none) (by omega) (by omega) (aZ (aE (aN rfl rfl (fJ _ _ _)) rfl) (by show some (D.int ((rowsD rs).length:Int))=_;rw [iV]))
  have hr:rs[c]? =some rs[c]:=Zp c1
  have hdr:=uV hr
  have hor:=xE ho'.2 hr
  have htr:=wQ (ZT hr)
  have ht:(bS (.either rs)).length=(toksRows rs).length+2:=by simp [bS]
  rw [dD] at hd h1
  rw [ht] at hf|-
  obtain⟨ok,t',ds,q,e1,e2,e3,e4⟩:=hG rs[c] (Yz hdr hd) hor flat m t (cs++[(c:Int)]) salt h0 (xc5 (zn7 h1) hdr) s0 s1 ⟨by rw [Z2];show _+1+_<=_;omega,by omega⟩
  rw [Ze] at q
  have ix:atI (rowsD rs) (c:Int)=some (.tup (pcsD rs[c])):=lP (zn9 hr)
  refine⟨ok,t',(c:Int)::ds,mL rfl ((aK (bH (k1 _))).trans ((aK (bH (k2 _))).trans ((aK qc).trans (fin (by omega) (aN (aN rfl rfl (fJ _ _ _)) rfl ix) rfl rfl q)))) rfl,fun h x=> ?_,e2,by rw [Z4];omega,by omega⟩
  have e:=e1 h x
  rw [cJ.eq_def]
  show(if 0<=(c:Int) then _ else _)=_
  rw [if_pos (by omega),qU (r:=rs[c]) (by rw [X5];exact hr)]
  exact e
theorem zu7{GS:tz7}{k:Nat}{R:Option D}{flat:Bool}{m salt:Int}(hS:S.imm=true)(hH:zq4 S GH)(hG:∀r,depR r<k->okR r->DrR S GS r)(h0:0<=m)(s0:0<=salt)(s1:salt<=900):∀(r:List Pc) (t:Str) (cs:List Int) (x5 x6:Option D),depR r<=k->okR r->m+12*depR r<=200->xI cs.length t.length (toksR r).length->
  ∃ok t' ds y5 y6,dC 5 (jS (fL GH GS)) (pcsD r) [some S,R,some (.bl flat),some (.int m),some (sU t cs .non salt),x5,x6]=some (okF ok,[some S,R,some (.bl flat),some (.int m),some (sU t' (cs++ds) .non salt),y5,y6])/\(ok=true->∀x,setR (!flat) m r (ds++x) t=some (x,t'))/\(salt=0->flat=false->ok=true)/\ds.length<=(toksR r).length/\t'.length<=t.length+201*(toksR r).length
 |[],t,cs,x5,x6,_,_,_,_=>⟨true,t,[],x5,x6,by rw [Zh];rfl,fun _ x=>by rw [setR];rfl,fun _ _=>rfl,ZI _,Nat.le_add_right _ _⟩
 | p ::r,t,cs,x5,x6,hd,ho,h1,hf=>by
  have htk:(toksR (p::r)).length=(bS p).length+(toksR r).length:=by rw [toksR,Z2]
  rw [htk] at hf|-
  rw [depR] at hd h1
  have hf':=hf
  unfold xI at hf'
  have one:∃ok t1 ds y6,jS (fL GH GS) [some S,R,some (.bl flat),some (.int m),some (sU t cs .non salt),some (pcD p),x6]=some (okF ok,[some S,R,some (.bl flat),some (.int m),some (sU t1 (cs++ds) .non salt),some (pcD p),y6])/\(ok=true->∀x,cJ (!flat) m p (ds++x) t=some (x,t1))/\(salt=0->flat=false->ok=true)/\ds.length<=(bS p).length/\t1.length<=t.length+201*(bS p).length:=by
   have holder:(∀l,p≠ .leaf l)->∃ok t1 ds y6,jS (fL GH GS) [some S,R,some (.bl flat),some (.int m),some (sU t cs .non salt),some (pcD p),x6]=some (okF ok,[some S,R,some (.bl flat),some (.int m),some (sU t1 (cs++ds) .non salt),some (pcD p),y6])/\(ok=true->∀x,cJ (!flat) m p (ds++x) t=some (x,t1))/\(salt=0->flat=false->ok=true)/\ds.length<=(bS p).length/\t1.length<=t.length+201*(bS p).length:=fun hp=>by
    obtain⟨ok,t1,ds,q,e⟩:=ys3 (GH:=GH) hS hH hG (show dD p<=k by omega) ho.1 hp flat m t cs salt h0 (by omega) s0 s1 ⟨by omega,by omega⟩
    exact⟨ok,t1,ds,some (.int (col t:Int)),xc7 (GI:=fL GH GS) (S:=S) (R:=R) (x6:=x6) hS hp (by omega) q,e⟩
   cases hp:p with
   | leaf l=>
    subst hp
    have h1':m<=200:=by omega
    cases ew:wr (!flat) m (col t) l with
    |none=>
     obtain⟨fl,y6,q⟩:=xc8 (GI:=fL GH GS) (S:=S) (cs:=cs) (c2:= .non) (c3:=salt) (R:=R) (x6:=x6) (l:=l) ho.1 (by omega) ew
     refine⟨false,t,[],y6,?_,fun h=>absurd h Z5,fun _ z=> ?_,ZI _,Nat.le_add_right _ _⟩
     ·rw [Zh];exact q
     ·rw [fl] at z;cases z
    |some w=>
     obtain⟨_,hz⟩:=zz8 (l:=l) ho.1 h0 h1' ew
     obtain⟨y6,q⟩:=xc6 (GI:=fL GH GS) (S:=S) (cs:=cs) (c2:= .non) (c3:=salt) (R:=R) (x6:=x6) (l:=l) ho.1 h0 h1' (by omega) ew
     refine⟨true,t++w,[],y6,?_,fun _ x=> ?_,fun _ _=>rfl,ZI _,?_⟩
     ·rw [Zh];exact q
     ·rw [cJ,ew];rfl
     ·rw [gX,show(bS (.leaf l)).length=1 from rfl];omega
   |group r'=>subst hp;exact holder nofun
   |hang n r'=>subst hp;exact holder nofun
   |either rs=>subst hp;exact holder nofun
  obtain⟨ok,t1,ds,y6,q1,g1,g2,g3,g4⟩:=one
  have step:∀Y,jS (fL GH GS) [some S,R,some (.bl flat),some (.int m),some (sU t cs .non salt),some (pcD p),x6]=some Y->dC 5 (jS (fL GH GS)) (pcsD (p::r)) [some S,R,some (.bl flat),some (.int m),some (sU t cs .non salt),x5,x6]=(match Y with
    |(.nx,p')=>dC 5 (jS (fL GH GS)) (pcsD r) p'
    |(.ct,p')=>dC 5 (jS (fL GH GS)) (pcsD r) p'
    |(.bk,p')=>some (.nx,p')
    |(.ret d,p')=>some (.ret d,p')):=fun Y hY=>by
   show dC 5 (jS (fL GH GS)) (pcD p::pcsD r) _=_
   rw [dC]
   show((jS (fL GH GS) [some S,R,some (.bl flat),some (.int m),some (sU t cs .non salt),some (pcD p),x6]).bind _)=_
   rw [hY]
   obtain⟨f,p'⟩:=Y
   cases f<;>rfl
  cases ok with
  |false=>exact⟨false,t1,ds,some (pcD p),y6,step _ q1,fun h=>absurd h Z5,g2,by omega,by omega⟩
  |true=>
   obtain⟨ok2,t',ds2,z5,z6,q2,k1,k2,k3,k4⟩:=zu7 hS hH hG h0 s0 s1 r t1 (cs++ds) (some (pcD p)) y6 (by omega) ho.2 (by omega) ⟨by rw [Z2];omega,by omega⟩
   rw [Ze] at q2
   refine⟨ok2,t',ds++ds2,z5,z6,(step _ q1).trans q2,fun h x=> ?_,k2,by rw [Z2];omega,by omega⟩
   rw [setR,Ze,g1 rfl (ds2++x)]
   exact k1 h x
theorem zu8(hS:S.imm=true)(hH:zq4 S GH):∀(n:Nat) (r:List Pc),depR r<n->okR r->DrR S (nP GH n) r
 |0,_,h,_=>absurd h (Yu _)
 |n+1,r,h,ho=>fun flat m t cs salt h0 h1 s0 s1 hf=>by
  obtain⟨ok,t',ds,y5,y6,q,e⟩:=zu7 (GH:=GH) (GS:=nP GH n) (R:=some (.tup (pcsD r))) (flat:=flat) hS hH (fun r' a b=>zu8 hS hH n r' a b) h0 s0 s1 r t cs none none (by omega) ho h1 hf
  refine⟨ok,t',ds,?_,e⟩
  have qf:fS 5 (gV (aB 1)) (jS (fL GH (nP GH n))) [some S,some (.tup (pcsD r)),some (.bl flat),some (.int m),some (sU t cs .non salt),none,none]=some (okF ok,[some S,some (.tup (pcsD r)),some (.bl flat),some (.int m),some (sU t' (cs++ds) .non salt),y5,y6]):=q
  cases ok with
  |true=>exact mL rfl ((aK qf).trans (bY rfl)) rfl
  |false=>exact mL rfl (dP qf) rfl
abbrev wI(GH:tz7)(n:Nat):tz6:=gP 3 1 (yZ (nP GH n))
theorem yk5{n:Nat}{r:List Pc}{salt:Int}(hS:S.imm=true)(hH:zq4 S GH)(hd:depR r<n)(h8:depR r<=16)(ho:okR r)(hl:(toksR r).length<=800)(h0:0<=salt)(h1:salt<=900):
  ∃C t,wI GH n [S,.tup (pcsD r),.int salt]=some (.tup [.str t,.tup (bD C)])/\setR true 0 r C ⟨#[]⟩=some ([],t)/\C.length<=(toksR r).length/\t.length<=900000:=by
 have pi:=pcs_imm r
 have run:∀s:Int,0<=s->s<=900->∃ok t' ds,nP GH n [S,.tup (pcsD r),.bl false,.int 0,sU ⟨#[]⟩ [] .non s]=some (.bl ok,[S,.tup (pcsD r),.bl false,.int 0,sU t' ds .non s])/\(ok=true->setR true 0 r ds ⟨#[]⟩=some ([],t'))/\(s=0->ok=true)/\ds.length<=(toksR r).length/\t'.length<=900000:=fun s s0 s1=>by
  obtain⟨ok,t',ds,q,e1,e2,e3,e4⟩:=zu8 (GH:=GH) hS hH n r hd ho false 0 ⟨#[]⟩ [] s (Yt _) (by omega) s0 s1 ⟨by show 0+_<=_;omega,by show 0+_<=_;omega⟩
  exact⟨ok,t',ds,q,fun h=>by have:=e1 h [];rwa [Zh] at this,fun h=>e2 h rfl,e3,by have e4':t'.length<=0+201*(toksR r).length:=e4;omega⟩
 have st0:∀(f:tz2) (s:Int) (p:PSt),f p=some (.int s)->cE (aA (fC (.str "")) (aA (cE aD) (aA (fC .non) (aA f aD)))) p=some (sU ⟨#[]⟩ [] .non s):=fun f s p h=>by
  refine fK (aE rfl (aE (d:= .lst true []) rfl (aE rfl (aE h rfl)))) (by simp)|>.trans ?_
  rw [show Str.ofString ""=⟨#[]⟩ from by decide+kernel];rfl
 have fin:∀(t':Str) (ds:List Int) (s:Int),cI (aJ (aT (aA (aR (f2 dIx (aB 3) (fC (.int 0)))) (aA (aL fR (aA (f2 dIx (aB 3) (fC (.int 1))) aD)) aD)))) [some S,some (.tup (pcsD r)),some (.int salt),some (sU t' ds .non s)]=some (.ret (.tup [.str t',.tup (bD ds)]),[some S,some (.tup (pcsD r)),some (.int salt),some (sU t' ds .non s)]):=fun t' ds s=>by
  have hi:=lT ds
  refine bY ?_
  simp! [sU,hi]
 have call:∀(s:Int) (ok:Bool) (t':Str) (ds:List Int),nP GH n [S,.tup (pcsD r),.bl false,.int 0,sU ⟨#[]⟩ [] .non s]=some (.bl ok,[S,.tup (pcsD r),.bl false,.int 0,sU t' ds .non s])->
   fIO [.im (aB 0),.im (aB 1),.im (fC (.bl false)),.im (fC (.int 0)),.io 3] (nP GH n) [some S,some (.tup (pcsD r)),some (.int salt),some (sU ⟨#[]⟩ [] .non s)]=some (.bl ok,[some S,some (.tup (pcsD r)),some (.int salt),some (sU t' ds .non s)]):=fun s ok t' ds q=>
  uU (dS (f:=aB 0) rfl hS (dS (f:=aB 1) (d:= .tup (pcsD r)) rfl pi (dS (f:=fC (.bl false)) rfl rfl (dS (f:=fC (.int 0)) rfl rfl (rY (j:=3) rfl iK))))) q rfl
 obtain⟨ok,t',ds,q,e1,_,e6⟩:=run salt h0 h1
 have z0:aS 3 (aJ (cE (aA (fC (.str "")) (aA (cE aD) (aA (fC .non) (aA (aR (aB 2)) aD)))))) [some S,some (.tup (pcsD r)),some (.int salt),none]=some (.nx,[some S,some (.tup (pcsD r)),some (.int salt),some (sU ⟨#[]⟩ [] .non salt)]):=bF (st0 _ salt _ (cB rfl rfl))
 cases ok with
 |true=>exact⟨ds,t',jW rfl ((aK z0).trans ((aK ((dI (tI (call _ _ _ _ q))).trans rfl)).trans (fin t' ds salt))),e1 rfl,e6⟩
 | false=>
  obtain⟨ok2,t2,d2,q2,f1,f2',f6⟩:=run 0 (Yt _) (by decide)
  have hok:=f2' rfl
  subst hok
  have z1:aS 3 (aJ (cE (aA (fC (.str "")) (aA (cE aD) (aA (fC .non) (aA (fC (.int 0)) aD)))))) [some S,some (.tup (pcsD r)),some (.int salt),some (sU t' ds .non salt)]=some (.nx,[some S,some (.tup (pcsD r)),some (.int salt),some (sU ⟨#[]⟩ [] .non 0)]):=bF (st0 _ 0 _ rfl)
  have c2:cU (fIO [.im (aB 0),.im (aB 1),.im (fC (.bl false)),.im (fC (.int 0)),.io 3] (nP GH n)) [some S,some (.tup (pcsD r)),some (.int salt),some (sU ⟨#[]⟩ [] .non 0)]=some (.nx,[some S,some (.tup (pcsD r)),some (.int salt),some (sU t2 d2 .non 0)]):=by
   unfold cU
   rw [call 0 true t2 d2 q2];rfl
  exact⟨d2,t2,jW rfl ((aK z0).trans ((aK ((zz5 (tI (call _ _ _ _ q))).trans ((aK z1).trans c2))).trans (fin t2 d2 0))),f1 rfl,f6⟩
end
section
variable{GC GM:tz6}{S:D}
abbrev pN(GC GM:tz6):tz7:=gE 3 3 (bX [false,true,false]) (wR GC GM)
theorem ys4(k:Nat):∃v:Int,(0<v/\v<1073741824)/\atI [D.int 1,.int 12,.int 144,.int 1728,.int 20736,.int 248832,.int 2985984,.int 35831808] ((k:Int) % 8)=some (.int v):=by
 have h0:=Zu (k:Int) (show(8:Int)≠0 by decide)
 have h1:=Zr (k:Int) (show(0:Int)<8 by decide)
 obtain⟨d,hd,e⟩:=pJ [D.int 1,.int 12,.int 144,.int 1728,.int 20736,.int 248832,.int 2985984,.int 35831808] ((k:Int) % 8) h0 (by simpa using h1)
 simp only [Z8,ZK,YF] at hd
 rcases hd with rfl|rfl|rfl|rfl|rfl|rfl|rfl|rfl<;>exact⟨_,by decide,e⟩
theorem xo2(hM:MxH GM S)(hC:∀j:Int,0<=j->j<1000->∃a,GC [S,.int j]=some (.int a)):zq4 S (pN GC GM):=fun t cs many salt h0 _ s0 s1 hc=>by
 have s1':aS 3 (aJ (aL cM (aA (f2 dIx (aB 1) (fC (.int 1))) aD))) [some S,some (sU t cs .non salt),some (.int (many:Int)),none,none,none]=some (.nx,[some S,some (sU t cs .non salt),some (.int (many:Int)),some (.int (cs.length:Int)),none,none]):=by
  refine bF (aZ (aE (aN (x:=sU t cs .non salt) rfl rfl (fJ _ _ _)) rfl) ?_)
  show some (D.int ((bD cs).length:Int))=_
  rw [nU]
 generalize hp:[some S,some (sU t cs .non salt),some (D.int (many:Int)),some (D.int (cs.length:Int)),none,none]=p at s1'
 have vv:∀x5:Option D,aB 0 (p.set 5 x5)=some S/\aB 1 (p.set 5 x5)=some (sU t cs .non salt)/\aB 2 (p.set 5 x5)=some (.int (many:Int))/\aB 3 (p.set 5 x5)=some (.int (cs.length:Int)):=fun x5=>by rw [<-hp];exact⟨rfl,rfl,rfl,rfl⟩
 have pp:p.set 5 none=p:=by rw [<-hp];rfl
 obtain⟨v0,v1,v2,v3⟩:=vv none
 rw [pp] at v0 v1 v2 v3
 have i2:f2 dIx (aB 1) (fC (.int 2)) p=some .non:=aN v1 rfl rfl
 have i3:f2 dIx (aB 1) (fC (.int 3)) p=some (.int salt):=aN v1 rfl (xi3 _ _ _ _)
 have n1:fB (f2 dIs (f2 dIx (aB 1) (fC (.int 2))) (fC .non)) p=some true:=dJ (aN i2 rfl rfl)
 have n2:∀k:Int,fB (f2 dEq (f2 dIx (aB 1) (fC (.int 3))) (fC (.int k))) p=some (decide (salt=k)):=fun k=>dJ (aN i3 rfl rfl)
 have hl2:(bD cs).length<sizeLine:=by rw [nU];exact sz1 (by omega)
 have fin:∀(c:Nat) (x5:Option D),∃y5,cU (dO 1 (fU 1 bR (fC (.int 1))) (aA (aR (aB 4)) aD) dN) ((p.set 5 x5).set 4 (some (.int (c:Int))))=some (.nx,[some S,some (sU t (cs++[(c:Int)]) .non salt),some (.int (many:Int)),some (.int (cs.length:Int)),some (.int (c:Int)),y5]):=fun c x5=>by
  have ei:bD (cs++[(c:Int)])=bD cs++[.int (c:Int)]:=by rw [zd3];rfl
  refine⟨x5,?_⟩
  rw [<-hp]
  unfold sU
  rw [ei]
  simp! [xo1,hl2]
 have cn:∀a:Int,∃c:Nat,c<many/\a % (many:Int)=(c:Int):=fun a=>by
  have m0:=Zu a (show(many:Int)≠0 by omega)
  have m1:=Zr a (show(0:Int)<many by omega)
  exact⟨(a % (many:Int)).toNat,by omega,by omega⟩
 by_cases z:salt=0
 ·have n20:=n2 0
  rw [Zl z] at n20
  have e:f2 jY (aB 2) (fC (.int 1)) p=some (.int ((many-1:Nat):Int)):=aN v2 rfl (by show some (D.int ((many:Int)-1))=_;rw [show((many:Int)-1)=((many-1:Nat):Int) by omega])
  obtain⟨y5,f⟩:=fin (many-1) none
  rw [pp] at f
  exact⟨many-1,by omega,fun _=>by omega,mL rfl ((aK s1').trans ((aK ((bG (eI n1 n20)).trans (bF e))).trans ((aK f).trans rfl))) rfl⟩
 ·have n20:=n2 0
  rw [Zc z] at n20
  have n21:=n2 1
  by_cases z1:salt=1
  ·rw [Zl z1] at n21
   obtain⟨v,v0',ev⟩:=ys4 cs.length
   obtain⟨a,qa⟩:=hC (40+(cs.length:Int)/8) (by omega) (by omega)
   obtain⟨c,c1,ec⟩:=cn (a/v)
   have e5:aS 5 (aJ (f2 dIx (cE (fKs [.int 1,.int 12,.int 144,.int 1728,.int 20736,.int 248832,.int 2985984,.int 35831808])) (f2 cP (aB 3) (fC (.int 8))))) p=some (.nx,p.set 5 (some (.int v))):=bF (aN (x:= .lst true [.int 1,.int 12,.int 144,.int 1728,.int 20736,.int 248832,.int 2985984,.int 35831808]) rfl (aN v3 rfl ((eP _ _).trans (if_pos (by decide)))) ev)
   obtain⟨w0,w1,w2,w3⟩:=vv (some (.int v))
   have w5:aB 5 (p.set 5 (some (.int v)))=some (.int v):=by rw [<-hp];rfl
   have e:f2 cP (f2 eA (aL GC (aA (aB 0) (aA (f2 cA (fC (.int 40)) (f2 eA (aB 3) (fC (.int 8)))) aD))) (aB 5)) (aB 2) (p.set 5 (some (.int v)))=some (.int (c:Int)):=aN (aN (aZ (aE w0 (aE (aN rfl (aN w3 rfl ((iQ _ _).trans (if_pos (by decide)))) rfl) rfl)) qa) w5 ((iQ _ _).trans (if_pos v0'))) w2 ((eP _ _).trans ((if_pos (by omega)).trans (by rw [ec])))
   obtain⟨y5,f⟩:=fin c (some (.int v))
   exact⟨c,c1,fun z'=>absurd z' z,mL rfl ((aK s1').trans ((aK ((dI (bZ (eI n1 n20))).trans ((bG (eI n1 n21)).trans ((aK e5).trans (bF e))))).trans ((aK f).trans rfl))) rfl⟩
  ·rw [Zc z1] at n21
   obtain⟨a,qa,ha⟩:=hM ((cs.length:Int)+7) salt (by omega) (by omega) s0 (by omega)
   obtain⟨c,c1,ec⟩:=cn a
   have e:f2 cP (aL GM (aA (aB 0) (aA (f2 cA (aB 3) (fC (.int 7))) (aA (f2 dIx (aB 1) (fC (.int 3))) aD)))) (aB 2) p=some (.int (c:Int)):=aN (aZ (aE v0 (aE (aN v3 rfl rfl) (aE i3 rfl))) qa) v2 ((eP _ _).trans ((if_pos (by omega)).trans (by rw [ec])))
   obtain⟨y5,f⟩:=fin c none
   rw [pp] at f
   exact⟨c,c1,fun z'=>absurd z' z,mL rfl ((aK s1').trans ((aK ((dI (bZ (eI n1 n20))).trans ((dI (bZ (eI n1 n21))).trans ((bG n1).trans (bF e))))).trans ((aK f).trans rfl))) rfl⟩
end
theorem mM:ixN 4 3=some 3:=by decide
theorem mN:ixN 4 2=some 2:=by decide
theorem gU{α:Type}(a b c d:α):atI [a,b,c,d] 3=some d:=rfl
abbrev zD:tz7:=gE 1 5 (bX [true]) oF
theorem xq4{N:List D}{a b c d:D}:vE [1,2,3,4] (dO 0 bR aD rM) [some (.lst true (N++[.lst true [a,b,c,d]])),none,none,none,none,none]=some (.nx,[some (.lst true N),some a,some b,some c,some d,none]):=by
 simp! [rM,gV,vE,zp1,rN,mM,mN,gU]
theorem kd1{p:PSt}{k w:String}{b:Bool}(hp:p[1]? =some (some (.str k)))(h:decide (k=w)=b):fB (f2 dEq (aB 1) (fC (.str w))) p=some b:=by
 refine dJ (aN (kO hp) rfl ?_)
 show some (D.bl (decide ((k:Str)=(w:Str))))=_
 rw [<-h]
 congr 2
 exact Ys.mpr (by rw [gD])
theorem ys5{f g:Gm}{fs:List Gm}(hk:1<=f.kd/\f.kd<=3)(hf:f.kd≠3->f.full=[])(hfl:f.full.length<=3)(hg:g.parts.length<=900):zD [.lst true (bQ (f::g::fs))]=some (.non,[.lst true (bQ (jM g (fO f)::fs))]):=by
 obtain⟨kd,n,full,parts⟩:=f
 have hfl':full.length<=3:=hfl
 have hz:(pcsD g.parts).length<sizeLine:=by rw [lM];exact sz1 (by omega)
 have s2:∀K x0,aS 3 (aJ (f2 cA (aB 3) (cE (aA (aL fR (aA (aB 4) aD)) aD)))) [x0,some K,some (.int n),some (.lst true (rowsD full)),some (.lst true (pcsD parts)),none]=some (.nx,[x0,some K,some (.int n),some (.lst true (rowsD (full++[parts]))),some (.lst true (pcsD parts)),none]):=fun K x0=>by
  refine bF (aN rfl (fK (aE (aZ (aE rfl rfl) (if_pos (pcs_imm parts))) rfl) (Z3 rfl)) ?_)
  rw [uT]
  refine yi4 (rows_imm full) (rows_imm [parts]) ?_
  rw [iV];show full.length+1<=1000;omega
 have s4:∀K x0 x4 (r0:List Pc) rs,aS 5 (aJ (aT (aA (fC (.str "group")) (aA (aR (f2 dIx (aB 3) (fC (.int 0)))) aD)))) [x0,some K,some (.int n),some (.lst true (rowsD (r0::rs))),x4,none]=some (.nx,[x0,some K,some (.int n),some (.lst true (rowsD (r0::rs))),x4,some (pcD (.group r0))]):=fun K x0 x4 r0 rs=>
  bF (cW (aE rfl (aE (cB (aN rfl rfl (lN _ _)) (pcs_imm r0)) rfl)) (jJ (.group r0)) (Z3 rfl))
 have s7:∀(pc:Pc) K x3 x4,cU (dO 0 (fU 0 (fU 0 bR (eN (fC (.int 1)))) (fC (.int 3))) (aA (aR (aB 5)) aD) dN) [some (.lst true (bQ fs++[gmD g])),K,some (.int n),x3,x4,some (pcD pc)]=some (.nx,[some (.lst true (bQ fs++[gmD (jM g pc)])),K,some (.int n),x3,x4,some (pcD pc)]):=fun pc K x3 x4=>by
  have hi:=jJ pc
  have e:gmD (jM g pc)= .lst true [.str (kdS g.kd),.int g.n,.lst true (rowsD g.full),.lst true (pcsD g.parts++[pcD pc])]:=by unfold gmD jM;rw [qA];rfl
  rw [e]
  unfold gmD
  generalize pcD pc=d at hi|-
  simp! [rM,gV,vE,zp1,rN,mM,mN,gU,hi,hz]
 suffices h:∃q1 q2 q3 q4 q5,oF [some (.lst true (bQ (⟨kd,n,full,parts⟩::g::fs))),none,none,none,none,none]=some (.nx,[some (.lst true (bQ fs++[gmD (jM g (fO ⟨kd,n,full,parts⟩))])),q1,q2,q3,q4,q5]) from by
  obtain⟨q1,q2,q3,q4,q5,hq⟩:=h
  unfold zD gE
  refine(if_pos rfl).trans ?_
  show(oF [some (.lst true (bQ (⟨kd,n,full,parts⟩::g::fs))),none,none,none,none,none]).bind _=_
  rw [hq];rfl
 have s1:vE [1,2,3,4] (dO 0 bR aD rM) [some (.lst true (bQ (⟨kd,n,full,parts⟩::g::fs))),none,none,none,none,none]=_:=xq4
 have e:kd=1\/kd=2\/kd=3:=by have:1<=kd/\kd<=3:=hk;omega
 unfold oF
 rw [aK s1,aK (s2 _ _)]
 rcases e with rfl|rfl|rfl
 ·have e1:full=[]:=hf (by simp! [rM,gV,vE,zp1,rN,mM,mN,gU])
  subst e1
  exact⟨_,_,_,_,_,(aK (bH (dZ (kd1 (k:="group") rfl (by decide))))).trans ((aK (s4 _ _ _ parts [])).trans ((aK (bH (kd1 (k:="group") rfl (by decide)))).trans ((aK (bH (kd1 (k:="group") rfl (by decide)))).trans (s7 _ _ _ _))))⟩
 ·have e1:full=[]:=hf (by simp! [rM,gV,vE,zp1,rN,mM,mN,gU])
  subst e1
  exact⟨_,_,_,_,_,(aK (bH (dZ (kd1 (k:="hang") rfl (by decide))))).trans ((aK (s4 _ _ _ parts [])).trans ((aK ((bG (kd1 (k:="hang") rfl (by decide))).trans (bF (cW (aE rfl (aE (cB rfl rfl) (aE (cB (d:= .tup (pcsD parts)) (aN rfl rfl (lN _ _)) (pcs_imm parts)) rfl))) (jJ (.hang n parts)) (Z3 rfl))))).trans ((aK (bH (kd1 (k:="hang") rfl (by decide)))).trans (s7 (.hang n parts) _ _ _))))⟩
 ·have fin:∀(r0:List Pc) (rs:List (List Pc)),nO ⟨3,n,full,parts⟩=r0::rs->∃q1 q2 q3 q4 q5,aV (aS 5 (aJ (aT (aA (fC (.str "group")) (aA (aR (f2 dIx (aB 3) (fC (.int 0)))) aD))))) (aV (fIf (aX (fB (f2 dEq (aB 1) (fC (.str "hang"))))) (aS 5 (aJ (aT (aA (fC (.str "hang")) (aA (aR (aB 2)) (aA (aR (f2 dIx (aB 3) (fC (.int 0)))) aD)))))) cF)
    (aV (fIf (aX (fB (f2 dEq (aB 1) (fC (.str "either"))))) (aS 5 (aJ (aT (aA (fC (.str "either")) (aA (aL fR (aA (aB 3) aD)) aD))))) cF) (cU (dO 0 (fU 0 (fU 0 bR (eN (fC (.int 1)))) (fC (.int 3))) (aA (aR (aB 5)) aD) dN)))) [some (.lst true (bQ fs++[gmD g])),some (.str "either"),some (.int n),some (.lst true (rowsD (r0::rs))),some (.lst true (pcsD parts)),none]=some (.nx,[some (.lst true (bQ fs++[gmD (jM g (fO ⟨3,n,full,parts⟩))])),q1,q2,q3,q4,q5]):=fun r0 rs he=>by
   have hs:fO ⟨3,n,full,parts⟩= .either (r0::rs):=by rw [<-he];rfl
   rw [hs]
   exact⟨_,_,_,_,_,(aK (s4 _ _ _ r0 rs)).trans ((aK (bH (kd1 rfl (by decide)))).trans ((aK ((bG (kd1 rfl (by decide))).trans (bF (cW (aE rfl (aE (aZ (aE rfl rfl) (if_pos (rows_imm (r0::rs)))) rfl)) (jJ (.either (r0::rs))) (Z3 rfl))))).trans (s7 (.either (r0::rs)) _ _ _)))⟩
  have lt:∀x0 x4,fB (f2 dLt (aL cM (aA (aB 3) aD)) (fC (.int 2))) [x0,some (.str "either"),some (.int n),some (.lst true (rowsD (full++[parts]))),x4,none]=some (decide ((((full++[parts]).length:Nat):Int)<2)):=fun x0 x4=>by
   refine dJ (aN (aZ (aE rfl rfl) rfl) rfl ?_)
   show some (D.bl (decide ((((rowsD (full++[parts])).length:Nat):Int)<2)))=_
   rw [iV]
  cases full with
  | nil=>
   have s3:∀x0 x4,fIf (aX (bV (fB (f2 dEq (aB 1) (fC (.str "either")))) (fB (f2 dLt (aL cM (aA (aB 3) aD)) (fC (.int 2)))))) (aS 3 (aJ (f2 cA (aB 3) (cE (aA (aT (aA (aT (aA (fC (.str "word")) (aA (fC (.str "or")) aD))) aD)) aD))))) cF [x0,some (.str "either"),some (.int n),some (.lst true (rowsD ([]++[parts]))),x4,none]=some (.nx,[x0,some (.str "either"),some (.int n),some (.lst true (rowsD [parts,eD])),x4,none]):=fun x0 x4=>
    (bG (eI (kd1 rfl (by decide)) (lt _ _))).trans (bF (aN rfl (fK (aE (cW (aE (cW (aE rfl (aE rfl rfl)) rfl (Z3 rfl)) rfl) rfl (Z3 rfl)) rfl) (Z3 rfl)) (yi4 (rows_imm [parts]) (rows_imm [eD]) (Z3 rfl))))
   show ∃q1 q2 q3 q4 q5,aV _ _ [some (.lst true (bQ fs++[gmD g])),some (.str "either"),some (.int n),some (.lst true (rowsD ([]++[parts]))),some (.lst true (pcsD parts)),none]=_
   rw [aK (s3 _ _)]
   exact fin parts [eD] rfl
  |cons r rs=>
   have lt':=lt (some (.lst true (bQ fs++[gmD g]))) (some (.lst true (pcsD parts)))
   rw [Zc (by simp;omega)] at lt'
   show ∃q1 q2 q3 q4 q5,aV _ _ [some (.lst true (bQ fs++[gmD g])),some (.str "either"),some (.int n),some (.lst true (rowsD (r::rs++[parts]))),some (.lst true (pcsD parts)),none]=_
   rw [aK (bH (eI (kd1 rfl (by decide)) lt'))]
   exact fin r (rs++[parts]) rfl
def ifR(GM:tz6)(GS:tz7)(GL:tz6):tz1:=
 (fIf (aX (bV (fB (f2 dLt (aB 7) (fC (.int 4)))) (fB (f2 dLe (aL cM (aA (aB 4) aD)) (aB 3)))))
  (aV (aS 9 (aJ (f2 dIx (cE (fKs [.str "group",.str "group",.str "hang",.str "either"])) (aB 7))))
 (cU (dO 4 bR (aA (cE (aA (aR (aB 9)) (aA (f2 dIx (cE (aA (fC (.int 1)) (aA (fC (.int 2)) (aA (fC (.int 4)) (aA (f2 cP (f2 eA (aB 6) (fC (.int 13))) (fC (.int 13))) aD))))) (f2 cP (f2 eA (aB 6) (fC (.int 169))) (fC (.int 4)))) (aA (cE aD) (aA (cE aD) aD))))) aD) dN)))
  (fIf (aX (bV (fB (f2 dEq (aB 7) (fC (.int 4)))) (fB (f2 dGt (aL cM (aA (aB 4) aD)) (fC (.int 1))))))
  (cU (fIO [.io 4] GS))
  (fIf (aX (bV (fB (f2 dLt (aB 7) (fC (.int 7)))) (bV (fB (f2 dEq (aB 8) (fC (.str "either")))) (fB (f2 dLt (aL cM (aA (f2 dIx (f2 dIx (aB 4) (eN (fC (.int 1)))) (fC (.int 2))) aD)) (fC (.int 3)))))))
  (aV (cU (dO 4 (fU 4 (fU 4 bR (eN (fC (.int 1)))) (fC (.int 2))) (aA (aL fR (aA (f2 dIx (f2 dIx (aB 4) (eN (fC (.int 1)))) (fC (.int 3))) aD)) aD) dN))
 (fV 4 (fU 4 bR (eN (fC (.int 1)))) (fC (.int 3)) (cE aD)))
  (cU (dO 4 (fU 4 (fU 4 bR (eN (fC (.int 1)))) (fC (.int 3))) (aA (aL GL (aA (aL GM (aA (aB 0) (aA (aB 5) (aA (fC (.int 32)) aD)))) aD)) aD) dN)))))
def tW(GM:tz6)(GS:tz7)(GL:tz6):tz1:=
   (aV (aS 6 (aJ (aL GM (aA (aB 0) (aA (aB 5) (aA (fC (.int 31)) aD))))))
 (aV (aS 7 (aJ (f2 cP (aB 6) (fC (.int 13)))))
 (aV (aS 8 (aJ (aR (f2 dIx (f2 dIx (aB 4) (eN (fC (.int 1)))) (fC (.int 0))))))
 (ifR GM GS GL))))
section
variable{GM:tz6}{GS:tz7}{GL:tz6}{S:D}{x1 x2 x6 x7 x8 x9:Option D}{nest:Nat}{f:Gm}{fs:List Gm}{i m:Int}
theorem yk6(hm:GM [S,.int i,.int 31]=some (.int m)):tW GM GS GL [some S,x1,x2,some (.int nest),some (.lst true (bQ (f::fs))),some (.int i),x6,x7,x8,x9]
  =ifR GM GS GL [some S,x1,x2,some (.int nest),some (.lst true (bQ (f::fs))),some (.int i),some (.int m),some (.int (m % 13)),some (.str (kdS f.kd)),x9]:=by
 unfold tW
 refine(aK (bF (aZ rfl hm))).trans ?_
 refine(aK (bF (d:= .int (m % 13)) (by simp! [mM,mN,gU]))).trans ?_
 exact aK (bF (d:= .str (kdS f.kd)) (by simp! [mM,mN,gU,bQ,gmD]))
theorem xj5(a k:Int)(ha:0<=a/\a<=12):∃n:Int,atI [D.int 1,.int 2,.int 4,.int a] (k % 4)=some (.int n)/\0<=n/\n<=12:=by
 have h0:=Zu k (show(4:Int)≠0 by decide)
 have h1:=Zr k (show(0:Int)<4 by decide)
 obtain⟨d,hd,e⟩:=pJ [D.int 1,.int 2,.int 4,.int a] (k % 4) h0 (by simpa using h1)
 simp only [Z8,ZK,YF] at hd
 rcases hd with rfl|rfl|rfl|rfl
 ·exact⟨_,e,by decide,by decide⟩
 ·exact⟨_,e,by decide,by decide⟩
 ·exact⟨_,e,by decide,by decide⟩
 ·exact⟨_,e,ha⟩
theorem xc9(m:Int)(h0:0<=m % 13)(h:m % 13<4):∃kd:Nat,atI [D.str (Str.ofString "group"),.str (Str.ofString "group"),.str (Str.ofString "hang"),.str (Str.ofString "either")] (m % 13)=some (.str (kdS kd))/\1<=kd/\kd<=3:=by
 have hn:m % 13=0\/m % 13=1\/m % 13=2\/m % 13=3:=by omega
 rcases hn with e|e|e|e<;>rw [e]
 ·exact⟨1,rfl,by decide,by decide⟩
 ·exact⟨1,rfl,by decide,by decide⟩
 ·exact⟨2,rfl,by decide,by decide⟩
 ·exact⟨3,rfl,by decide,by decide⟩
theorem yN{a b:Prop}[Decidable a][Decidable b](h:¬(a/\b)):(decide a&&decide b)=false:=by
 by_cases ha:a
 ·rw [Zc (fun hb=>h ⟨ha,hb⟩),Bool.and_false]
 ·rw [Zc ha,Xk]
theorem zu9{a b:Prop}[Decidable a][Decidable b](ha:a)(hb:b):(decide a&&decide b)=true:=by rw [Zl ha,Zl hb];rfl
theorem qF{f g:tz4}{p:PSt}{a b:Bool}(h1:f p=some a)(h2:g p=some b):bV f g p=some (a&&b):=by
 cases a with
 |true=>exact eI h1 h2
 |false=>exact dZ h1
theorem ya8{N:List D}{w:Int}{x0 x5 x6:Option D}:bV (fB (f2 dLt (aB 7) (fC (.int 4)))) (fB (f2 dLe (aL cM (aA (aB 4) aD)) (aB 3))) [x0,x1,x2,some (.int nest),some (.lst true N),x5,x6,some (.int w),x8,x9]=some (decide (w<4)&&decide ((N.length:Int)<=(nest:Int))):=
 qF (dJ (aN rfl rfl rfl)) (dJ (aN (aZ (aE rfl rfl) rfl) rfl rfl))
theorem yv8{N:List D}{w:Int}{x0 x3 x5 x6:Option D}:bV (fB (f2 dEq (aB 7) (fC (.int 4)))) (fB (f2 dGt (aL cM (aA (aB 4) aD)) (fC (.int 1)))) [x0,x1,x2,x3,some (.lst true N),x5,x6,some (.int w),x8,x9]=some (decide (w=4)&&decide ((1:Int)<(N.length:Int))):=
 qF (dJ (aN rfl rfl rfl)) (dJ (aN (aZ (aE rfl rfl) rfl) rfl rfl))
theorem zv0{p:PSt}{j:Nat}{M:List D}{d:D}(hp:p[j]? =some (some (.lst true (M++[d])))):f2 dIx (aB j) (eN (fC (.int 1))) p=some d:=aN (kO hp) rfl (show atI (M++[d]) (-1)=_ from L2.zj0 _ _)
theorem yv9{M R:List D}{w:Int}{k:String}{a b c:D}{x0 x3 x5 x6:Option D}:bV (fB (f2 dLt (aB 7) (fC (.int 7)))) (bV (fB (f2 dEq (aB 8) (fC (.str "either")))) (fB (f2 dLt (aL cM (aA (f2 dIx (f2 dIx (aB 4) (eN (fC (.int 1)))) (fC (.int 2))) aD)) (fC (.int 3))))) [x0,x1,x2,x3,some (.lst true (M++[.lst true [a,b,.lst true R,c]])),x5,x6,some (.int w),some (.str k),x9]=some (decide (w<7)&&(decide (k="either")&&decide ((R.length:Int)<3))):=by
 refine qF (dJ (aN rfl rfl rfl)) (qF (dJ (aN rfl rfl ?_)) (dJ (aN (aZ (aE (aN (zv0 (j:=4) rfl) rfl (zz4 _ _ _ _)) rfl) rfl) rfl rfl)))
 show some (D.bl (decide ((k:Str)=(("either":String):Str))))=_
 congr 2
 exact Ys.mpr (by rw [gD])
theorem yk7{p:PSt}{j:Nat}{M:List D}{k n:Nat}{l:List D}(hp:p[j]? =some (some (.lst true (M++[.lst true l]))))(hk:ixN l.length (k:Int)=some n):fU j (fU j bR (eN (fC (.int 1)))) (fC (.int (k:Int))) p=some [.ix M.length,.ix n]:=by
 have e1:ixN (M++[D.lst true l]).length (-1)=some M.length:=by rw [Z2];exact sT _
 have e2:(M++[D.lst true l])[M.length]? =some (.lst true l):=by simp! [mM,mN,gU]
 simp! [mM,mN,gU,hp,e1,e2,hk]
theorem ys6{α:Type}{h:D->Option (α×D)}{M l:List D}{n:Nat}{d d':D}{r:α}(hl:l[n]? =some d)(e:h d=some (r,d')):fF h (.lst true (M++[.lst true l])) [.ix M.length,.ix n]=some (r,.lst true (M++[.lst true (l.set n d')])):=by
 have e2:(M++[D.lst true l])[M.length]? =some (.lst true l):=by simp! [mM,mN,gU]
 show(((M++[D.lst true l])[M.length]?).bind _)=_
 rw [e2,Z7]
 show(((l[n]?).bind _).bind _)=_
 rw [hl,Z7]
 show(((h d).bind _).bind _)=_
 rw [e]
 show some (r,D.lst true ((M++[D.lst true l]).set M.length _))=_
 rw [xA]
theorem zo1{p:PSt}{j k n:Nat}{M l xs:List D}{fe:tz2}{y:D}(hp:p[j]? =some (some (.lst true (M++[.lst true l]))))(hk:ixN l.length (k:Int)=some n)(hl:l[n]? =some (.lst true xs))(h:fe p=some y)(hz:xs.length<sizeLine):cU (dO j (fU j (fU j bR (eN (fC (.int 1)))) (fC (.int (k:Int)))) (aA fe aD) dN) p=some (.nx,p.set j (some (.lst true (M++[.lst true (l.set n (.lst true (xs++[y])))])))):=by
 refine qB (d:= .non) ?_
 unfold dO
 rw [hp,YH,Z7,yk7 hp hk,Z7,aE h rfl,Z7,ys6 hl (show dN [y] (.lst true xs)=_ from if_pos hz)]
 rfl
theorem ya9{p:PSt}{j k n:Nat}{M l:List D}{fe:tz2}{y:D}(hp:p[j]? =some (some (.lst true (M++[.lst true l]))))(hk:ixN l.length (k:Int)=some n)(h:fe p=some y):fV j (fU j bR (eN (fC (.int 1)))) (fC (.int (k:Int))) fe p=some (.nx,p.set j (some (.lst true (M++[.lst true (l.set n y)])))):=by
 have e1:ixN (M++[D.lst true l]).length (-1)=some M.length:=by rw [Z2];exact sT _
 have e2:(M++[D.lst true l])[M.length]? =some (.lst true l):=by simp! [mM,mN,gU]
 have ep:fU j bR (eN (fC (.int 1))) p=some [.ix M.length]:=by simp! [mM,mN,gU,hp,e1]
 unfold fV
 rw [h,Z7,hp,YH,Z7,ep,Z7]
 show((fF (qH (.int (k:Int)) y) (.lst true (M++[.lst true l])) [.ix M.length]).bind _)=_
 have em:fF (qH (.int (k:Int)) y) (.lst true (M++[.lst true l])) [.ix M.length]=some ((),.lst true (M++[.lst true (l.set n y)])):=by
  show(((M++[D.lst true l])[M.length]?).bind _)=_
  rw [e2,Z7]
  show(((ixN l.length (k:Int)).bind _).bind _)=_
  rw [hk]
  show some ((),D.lst true ((M++[D.lst true l]).set M.length _))=_
  rw [xA]
 rw [em];rfl
theorem yk8(hw:m % 13<4)(hl:(f::fs).length<=nest)(hz:(f::fs).length<=900):∃kd n y9,ifR GM GS GL [some S,x1,x2,some (.int nest),some (.lst true (bQ (f::fs))),some (.int i),some (.int m),some (.int (m % 13)),x8,x9]
  =some (.nx,[some S,x1,x2,some (.int nest),some (.lst true (bQ (⟨kd,n,[],[]⟩::f::fs))),some (.int i),some (.int m),some (.int (m % 13)),x8,y9])/\(1<=kd/\kd<=3)/\0<=n/\n<=12:=by
 have h0:=Zu m (show(13:Int)≠0 by decide)
 have d0:=Zu (m/13) (show(13:Int)≠0 by decide)
 have d1:=Zr (m/13) (show(0:Int)<13 by decide)
 obtain⟨kd,q1,hk1,hk2⟩:=xc9 m h0 hw
 obtain⟨n,q2,hn1,hn2⟩:=xj5 (m/13 % 13) (m/169) ⟨d0,XI d1⟩
 have hz':(bQ (f::fs)).length<sizeLine:=by rw [nB];exact sz1 (by omega)
 have hl':((bQ (f::fs)).length:Int)<=(nest:Int):=by rw [nB];exact Int.ofNat_le.mpr hl
 refine⟨kd,n,some (.str (kdS kd)),?_,⟨hk1,hk2⟩,hn1,hn2⟩
 have e:bQ (⟨kd,n,[],[]⟩::f::fs)=bQ (f::fs)++[.lst true [.str (kdS kd),.int n,.lst true [],.lst true []]]:=rfl
 rw [e]
 generalize bQ (f::fs)=N at hz' hl'|-
 unfold ifR
 refine(bG (ya8.trans (by rw [zu9 hw hl']))).trans ((aK (bF (aN (fK rfl (Z3 rfl)) rfl q1))).trans ?_)
 refine qB (d:= .non) ?_
 unfold dO
 rw [aE (fK (aE (cB (d:= .str (kdS kd)) rfl rfl) (aE (aN (fK (aE rfl (aE rfl (aE rfl (aE (aN (aN rfl rfl ((iQ _ _).trans (if_pos (by decide)))) rfl ((eP _ _).trans (if_pos (by decide)))) rfl)))) (Z3 rfl)) (aN (aN rfl rfl ((iQ _ _).trans (if_pos (by decide)))) rfl ((eP _ _).trans (if_pos (by decide)))) q2) (aE (fK rfl (Z3 rfl)) (aE (fK rfl (Z3 rfl)) rfl)))) (Z3 rfl)) rfl]
 show((dN [.lst true [.str (kdS kd),.int n,.lst true [],.lst true []]] (.lst true N)).bind _)=_
 rw [show dN [.lst true [.str (kdS kd),.int n,.lst true [],.lst true []]] (.lst true N)=_ from if_pos hz']
 rfl
theorem yk9{g:Gm}(q:GS [.lst true (bQ (f::g::fs))]=some (.non,[.lst true (bQ (jM g (fO f)::fs))]))(hw:m % 13=4):
  ifR GM GS GL [some S,x1,x2,some (.int nest),some (.lst true (bQ (f::g::fs))),some (.int i),some (.int m),some (.int (m % 13)),x8,x9]
  =some (.nx,[some S,x1,x2,some (.int nest),some (.lst true (bQ (jM g (fO f)::fs))),some (.int i),some (.int m),some (.int (m % 13)),x8,x9]):=by
 have hl:(1:Int)<((bQ (f::g::fs)).length:Int):=by rw [nB];simp;omega
 unfold ifR
 exact(dI (bZ (ya8.trans (by rw [yN (fun z=>by omega)])))).trans ((bG (yv8.trans (by rw [zu9 hw hl]))).trans (qB (uU (rY rfl iK) q rfl)))
theorem zv1(hw:¬(m % 13<4/\(f::fs).length<=nest))(hw4:¬(m % 13=4/\fs≠[])){F1 F2 F3:tz1}:fIf (aX (bV (fB (f2 dLt (aB 7) (fC (.int 4)))) (fB (f2 dLe (aL cM (aA (aB 4) aD)) (aB 3))))) F1 (fIf (aX (bV (fB (f2 dEq (aB 7) (fC (.int 4)))) (fB (f2 dGt (aL cM (aA (aB 4) aD)) (fC (.int 1)))))) F2 F3) [some S,x1,x2,some (.int nest),some (.lst true (bQ (f::fs))),some (.int i),some (.int m),some (.int (m % 13)),x8,x9]
  =F3 [some S,x1,x2,some (.int nest),some (.lst true (bQ (f::fs))),some (.int i),some (.int m),some (.int (m % 13)),x8,x9]:=by
 have hl:(bQ (f::fs)).length=(f::fs).length:=nB _
 have hn:¬(m % 13=4/\(1:Int)<((f::fs).length:Int)):=fun z=>hw4 ⟨z.1,fun e=>by rw [e] at z;exact absurd z.2 (Int.lt_irrefl 1)⟩
 exact(dI (bZ (ya8.trans (by rw [hl,yN (fun z=>hw ⟨z.1,Int.ofNat_le.mp z.2⟩)])))).trans (dI (bZ (yv8.trans (by rw [hl,yN hn]))))
theorem xd0(hw:¬(m % 13<4/\(f::fs).length<=nest))(hw4:¬(m % 13=4/\fs≠[]))(hw7:m % 13<7)(hk:f.kd=3)(hf:f.full.length<3):
  ifR GM GS GL [some S,x1,x2,some (.int nest),some (.lst true (bQ (f::fs))),some (.int i),some (.int m),some (.int (m % 13)),some (.str (kdS f.kd)),x9]
  =some (.nx,[some S,x1,x2,some (.int nest),some (.lst true (bQ ({f with full:=f.full++[f.parts],parts:=[]}::fs))),some (.int i),some (.int m),some (.int (m % 13)),some (.str (kdS f.kd)),x9]):=by
 unfold ifR
 refine(zv1 hw hw4).trans ?_
 obtain⟨kd,n,full,parts⟩:=f
 have hk':kd=3:=hk
 subst hk'
 have hz:(rowsD full).length<sizeLine:=by rw [iV];exact sz1 (by have:full.length<3:=hf;omega)
 have hf':((rowsD full).length:Int)<3:=by rw [iV];exact Int.ofNat_lt.mpr hf
 have er:rowsD (full++[parts])=rowsD full++[.tup (pcsD parts)]:=by rw [uT];rfl
 have b3:(decide (m % 13<7)&&(decide (kdS 3="either")&&decide (((rowsD full).length:Int)<3)))=true:=by rw [Zl hw7,Zl hf'];rfl
 have s1:=zo1 (p:=[some S,x1,x2,some (.int nest),some (.lst true (bQ (⟨3,n,full,parts⟩::fs))),some (.int i),some (.int m),some (.int (m % 13)),some (.str (kdS 3)),x9]) (j:=4) (k:=2) (n:=2) (M:=bQ fs) (fe:=aL fR (aA (f2 dIx (f2 dIx (aB 4) (eN (fC (.int 1)))) (fC (.int 3))) aD)) rfl rfl rfl (aZ (aE (aN (zv0 (M:=bQ fs) rfl) rfl (xi3 _ _ _ _)) rfl) (if_pos (pcs_imm parts))) hz
 rw [<-er] at s1
 have s2:=ya9 (p:=[some S,x1,x2,some (.int nest),some (.lst true (bQ fs++[.lst true [.str (kdS 3),.int n,.lst true (rowsD (full++[parts])),.lst true (pcsD parts)]])),some (.int i),some (.int m),some (.int (m % 13)),some (.str (kdS 3)),x9]) (j:=4) (k:=3) (n:=3) (M:=bQ fs) (fe:=cE aD) (y:= .lst true []) rfl rfl (fK rfl (Z3 rfl))
 exact(bG (yv9.trans (ZP some b3))).trans ((aK s1).trans s2)
theorem yl0{l:Leaf}{m2:Int}(hm2:GM [S,.int i,.int 32]=some (.int m2))(hL:GL [.int m2]=some (bK l))(hz:f.parts.length<=900)
  (hw:¬(m % 13<4/\(f::fs).length<=nest)) (hw4:¬(m % 13=4/\fs≠[])) (h3:¬(m % 13<7/\f.kd=3/\f.full.length<3)) (hkd:f.kd<=3):
  ifR GM GS GL [some S,x1,x2,some (.int nest),some (.lst true (bQ (f::fs))),some (.int i),some (.int m),some (.int (m % 13)),some (.str (kdS f.kd)),x9]
  =some (.nx,[some S,x1,x2,some (.int nest),some (.lst true (bQ (jM f (.leaf l)::fs))),some (.int i),some (.int m),some (.int (m % 13)),some (.str (kdS f.kd)),x9]):=by
 have hz':(pcsD f.parts).length<sizeLine:=by rw [lM];exact sz1 (by omega)
 have ep:pcsD (f.parts++[.leaf l])=pcsD f.parts++[bK l]:=by rw [qA];rfl
 have b3:(decide (m % 13<7)&&(decide (kdS f.kd="either")&&decide (((rowsD f.full).length:Int)<3)))=false:=by
  by_cases a1:m % 13<7
  ·rw [yN,Bool.and_false]
   intro ⟨z1,z2⟩
   rw [iV] at z2
   have hk:f.kd=0\/f.kd=1\/f.kd=2\/f.kd=3:=by omega
   rcases hk with e|e|e|e
   ·rw [e] at z1;exact absurd z1 (by decide)
   ·rw [e] at z1;exact absurd z1 (by decide)
   ·rw [e] at z1;exact absurd z1 (by decide)
   ·exact h3 ⟨a1,e,Int.ofNat_lt.mp z2⟩
  ·rw [Zc a1,Xk]
 unfold ifR
 refine(zv1 hw hw4).trans ((dI (bZ (yv9.trans (by rw [b3])))).trans ?_)
 have e:bQ (jM f (.leaf l)::fs)=bQ fs++[.lst true [.str (kdS f.kd),.int f.n,.lst true (rowsD f.full),.lst true (pcsD f.parts++[bK l])]]:=by rw [<-ep];rfl
 rw [e]
 have s1:=zo1 (p:=[some S,x1,x2,some (.int nest),some (.lst true (bQ (f::fs))),some (.int i),some (.int m),some (.int (m % 13)),some (.str (kdS f.kd)),x9]) (j:=4) (k:=3) (n:=3) (M:=bQ fs) (fe:=aL GL (aA (aL GM (aA (aB 0) (aA (aB 5) (aA (fC (.int 32)) aD)))) aD)) rfl rfl rfl (aZ (aE (aZ (aE rfl (aE rfl (aE rfl rfl))) hm2) rfl) hL) hz'
 exact s1
end
section
variable{GM:tz6}{GS:tz7}{GL:tz6}{S:D}{x1 x2 x6 x7 x8 x9:Option D}{nest k:Nat}{fs:List Gm}{i:Int}
theorem yb0{f:Gm}{fs:List Gm}(h:zq2 (f::fs)):f.kd<=3:=by
 cases fs with
 |nil=>have:f.kd=0:=h;omega
 |cons g fs=>exact h.1.2
theorem xd1(hS:∀(f g:Gm) (fs:List Gm),(1<=f.kd/\f.kd<=3)->(f.kd≠3->f.full=[])->f.full.length<=3->g.parts.length<=900->GS [.lst true (bQ (f::g::fs))]=some (.non,[.lst true (bQ (jM g (fO f)::fs))]))
  (hL:∀m,0<=m->∃l,GL [.int m]=some (bK l)/\eR l) (hM:∀s:Int,s=31\/s=32->∃m,GM [S,.int i,.int s]=some (.int m)/\0<=m) (h:GInv nest k fs) (hk:4*k+4<=800) (hn:nest<=100):
  ∃fs' y6 y7 y8 y9,tW GM GS GL [some S,x1,x2,some (.int nest),some (.lst true (bQ fs)),some (.int i),x6,x7,x8,x9]=some (.nx,[some S,x1,x2,some (.int nest),some (.lst true (bQ fs')),some (.int i),y6,y7,y8,y9])/\GInv nest (k+1) fs':=by
 obtain⟨m,hm,hm0⟩:=hM 31 (.inl rfl)
 obtain⟨m2,hm2,hm20⟩:=hM 32 (.inr rfl)
 have hln:=h.len
 cases fs with
 |nil=>exact h.kinds.elim
 | cons f fs=>
  have hd:=yk6 (GS:=GS) (GL:=GL) (x1:=x1) (x2:=x2) (x6:=x6) (x7:=x7) (x8:=x8) (x9:=x9) (nest:=nest) (f:=f) (fs:=fs) hm
  by_cases c1:m % 13<4/\(f::fs).length<=nest
  ·obtain⟨kd,n,y9,q,h1,h2⟩:=yk8 (GM:=GM) (GS:=GS) (GL:=GL) (S:=S) (x1:=x1) (x2:=x2) (x8:=some (.str (kdS f.kd))) (x9:=x9) (i:=i) c1.1 c1.2 (by omega)
   exact⟨_,_,_,_,y9,hd.trans q,h.opener h1 h2 c1.2⟩
  ·by_cases c2:m % 13=4/\fs≠[]
   ·cases fs with
    |nil=>exact absurd rfl c2.2
    |cons g fs=>
     have hf:=h.each f Z0
     have hg:=h.parts (f:=g) (Z1 _ Z0)
     have q:=yk9 (GM:=GM) (GL:=GL) (S:=S) (x1:=x1) (x2:=x2) (x8:=some (.str (kdS f.kd))) (x9:=x9) (nest:=nest) (i:=i) (hS f g fs h.kinds.1 hf.2.2.2.1 hf.2.2.1 (by omega)) c2.1
     exact⟨_,_,_,_,_,hd.trans q,h.shut.more (by omega)⟩
   ·by_cases c3:m % 13<7/\f.kd=3/\f.full.length<3
    ·have q:=xd0 (GM:=GM) (GS:=GS) (GL:=GL) (S:=S) (x1:=x1) (x2:=x2) (x9:=x9) (i:=i) c1 c2 c3.1 c3.2.1 c3.2.2
     exact⟨_,_,_,_,_,hd.trans q,h.orr c3.2.2 c3.2.1⟩
    ·obtain⟨l,hl,hlk⟩:=hL m2 hm20
     have q:=yl0 (GM:=GM) (GS:=GS) (GL:=GL) (S:=S) (x1:=x1) (x2:=x2) (x9:=x9) (i:=i) hm2 hl (by have:=h.parts (f:=f) Z0;omega) c1 c2 c3 (yb0 h.kinds)
     exact⟨_,_,_,_,_,hd.trans q,h.leaf hlk⟩
theorem zv2(hS:∀(f g:Gm) (fs:List Gm),(1<=f.kd/\f.kd<=3)->(f.kd≠3->f.full=[])->f.full.length<=3->g.parts.length<=900->GS [.lst true (bQ (f::g::fs))]=some (.non,[.lst true (bQ (jM g (fO f)::fs))]))
  (hL:∀m,0<=m->∃l,GL [.int m]=some (bK l)/\eR l) (hn:nest<=100):∀(l:List Int) (fs:List Gm) (k:Nat) (x5 x6 x7 x8 x9:Option D),(∀j∈l,∀s:Int,s=31\/s=32->∃m,GM [S,.int j,.int s]=some (.int m)/\0<=m)->GInv nest k fs->4*(k+l.length)+4<=800->
  ∃fs' y5 y6 y7 y8 y9,dC 5 (tW GM GS GL) (l.map .int) [some S,x1,x2,some (.int nest),some (.lst true (bQ fs)),x5,x6,x7,x8,x9]=some (.nx,[some S,x1,x2,some (.int nest),some (.lst true (bQ fs')),y5,y6,y7,y8,y9])/\GInv nest (k+l.length) fs'
 |[],fs,k,x5,x6,x7,x8,x9,_,h,_=>⟨fs,x5,x6,x7,x8,x9,by simp! [gU,dC],h⟩
 |j::l,fs,k,x5,x6,x7,x8,x9,hM,h,hk=>by
  rw [Z4] at hk
  obtain⟨fs1,y6,y7,y8,y9,q,h1⟩:=xd1 (x1:=x1) (x2:=x2) (x6:=x6) (x7:=x7) (x8:=x8) (x9:=x9) hS hL (hM j Z0) h (by omega) hn
  obtain⟨fs2,z5,z6,z7,z8,z9,q2,h2⟩:=zv2 hS hL hn l fs1 (k+1) (some (.int j)) y6 y7 y8 y9 (fun i hi=>hM i (Z1 _ hi)) h1 (by omega)
  refine⟨fs2,z5,z6,z7,z8,z9,?_,(show k+1+l.length=k+(j::l).length by rw [Z4];omega)▸h2⟩
  rw [<-q2]
  show(tW GM GS GL [some S,x1,x2,some (.int nest),some (.lst true (bQ fs)),some (.int j),x6,x7,x8,x9]).bind _=_
  rw [q];rfl
def zE(GS:tz7)(n:Nat):tz1:=jZ (aX (fB (f2 dGt (aL cM (aA (aB 4) aD)) (fC (.int 1))))) (cU (fIO [.io 4] GS)) n
theorem zv3{x0 x3 x5:Option D}(hS:∀(f g:Gm) (fs:List Gm),(1<=f.kd/\f.kd<=3)->(f.kd≠3->f.full=[])->f.full.length<=3->g.parts.length<=900->GS [.lst true (bQ (f::g::fs))]=some (.non,[.lst true (bQ (jM g (fO f)::fs))]))(hk:4*k+4<=800):
  ∀(n:Nat) (fs:List Gm),fs.length<=n->GInv nest k fs->∃f,zE GS n [x0,x1,x2,x3,some (.lst true (bQ fs)),x5,x6,x7,x8,x9]=some (.nx,[x0,x1,x2,x3,some (.lst true (bQ [f])),x5,x6,x7,x8,x9])/\GInv nest k [f]
 |0,[],_,h=>h.kinds.elim
 |0,_::_,hl,_=>by simp! [gU] at hl
 |n+1,[],_,h=>h.kinds.elim
 |n+1,[f],_,h=>by
  refine⟨f,?_,h⟩
  unfold zE
  rw [jZ]
  have hl:(bQ [f]).length=1:=rfl
  generalize bQ [f]=N at hl|-
  simp! [gU,hl]
 |n+1,f::g::fs,hl,h=>by
  have hf:=h.each f Z0
  have hg:=h.parts (f:=g) (Z1 _ Z0)
  have q:=hS f g fs h.kinds.1 hf.2.2.2.1 hf.2.2.1 (by omega)
  obtain⟨f',w,h'⟩:=zv3 (x0:=x0) (x3:=x3) (x5:=x5) hS hk n (jM g (fO f)::fs) (by simp! [gU] at hl|-;omega) h.shut
  refine⟨f',?_,h'⟩
  rw [<-w]
  have hl2:(bQ (f::g::fs)).length=fs.length+1+1:=by rw [nB];rfl
  have hpos:(1:Int)<((fs.length:Int)+1+1):=by omega
  show jZ _ _ (n+1) _=_
  rw [jZ]
  generalize bQ (f::g::fs)=N at q hl2|-
  generalize bQ (jM g (fO f)::fs)=M at q|-
  simp! [gU,hl2,hpos,q,zE]
def xt2(n:Nat)(GM:tz6)(GS:tz7)(GL:tz6):tz1:=
 aV (aS 4 (aJ (cE (aA (cE (aA (fC (.str "top")) (aA (fC (.int 0)) (aA (cE aD) (aA (cE aD) aD))))) aD)))) (aV (fS 5 (yW (aA (aB 1) (aA (f2 cA (aB 1) (aB 2)) aD))) (tW GM GS GL)) (aV (zE GS n) (cI (aJ (aL fR (aA (f2 dIx (f2 dIx (aB 4) (fC (.int 0))) (fC (.int 3))) aD))))))
structure RowOk(nest w:Nat)(r:List Pc):Prop where
 ok:okR r
 dep:depR r<=nest
 len:(toksR r).length<=w
theorem xo3{a many n:Nat}(hS:∀(f g:Gm) (fs:List Gm),(1<=f.kd/\f.kd<=3)->(f.kd≠3->f.full=[])->f.full.length<=3->g.parts.length<=900->GS [.lst true (bQ (f::g::fs))]=some (.non,[.lst true (bQ (jM g (fO f)::fs))]))
  (hL:∀m,0<=m->∃l,GL [.int m]=some (bK l)/\eR l) (hM:∀j s:Int,(a:Int)<=j/\j<a+many->s=31\/s=32->∃m,GM [S,.int j,.int s]=some (.int m)/\0<=m) (hn:nest<=100) (hmany:many<=90) (ha:a<=1000) (hnn:nest<n):
  ∃r,gP 4 6 (xt2 n GM GS GL) [S,.int a,.int many,.int nest]=some (.tup (pcsD r))/\RowOk nest (4*many) r:=by
 have i0:GInv nest 0 [⟨0,0,[],[]⟩]:=⟨by simp! [gU],by decide,fun f hf=>by rw [ZA.mp hf];exact⟨trivial,trivial,ZI _,fun _=>rfl,Yt _,by decide⟩,rfl,⟨ZI _,ZI _,trivial⟩⟩
 obtain⟨fs1,y5,y6,y7,y8,y9,q,h1⟩:=zv2 (GM:=GM) (GS:=GS) (GL:=GL) (S:=S) (x1:=some (.int a)) (x2:=some (.int many)) hS hL hn ((List.range many).map fun(k:Nat)=>(a:Int)+(k:Int)) [⟨0,0,[],[]⟩] 0 none none none none none
  (fun j hj s hs=>by obtain⟨k,hk,rfl⟩:=Yg.mp hj;have:=Yx.mp hk;exact hM _ s (by omega) hs) i0 (by simp;omega)
 rw [<-xi4] at q
 rw [Zd,Yb,Yw] at h1
 have hln:=h1.len
 obtain⟨f,w,h2⟩:=zv3 (GS:=GS) (x0:=some S) (x1:=some (.int a)) (x2:=some (.int many)) (x3:=some (.int nest)) (x5:=y5) (x6:=y6) (x7:=y7) (x8:=y8) (x9:=y9) hS (by omega) n fs1 (by omega) h1
 have hf:=h2.each f Z0
 have hd:=h2.deep.1
 have hwt:wF f+0<=4*many+4:=h2.wt
 refine⟨f.parts,?_,hf.2.1,by simpa using hd,by unfold wF at hwt;omega⟩
 have e:((a:Int)+(many:Int)-(a:Int)).toNat=many:=by omega
 have s0:aS 4 (aJ (cE (aA (cE (aA (fC (.str "top")) (aA (fC (.int 0)) (aA (cE aD) (aA (cE aD) aD))))) aD))) [some S,some (.int a),some (.int many),some (.int nest),none,none,none,none,none,none]=some (.nx,[some S,some (.int a),some (.int many),some (.int nest),some (.lst true (bQ [⟨0,0,[],[]⟩])),none,none,none,none,none]):=bF rfl
 have s1:fS 5 (yW (aA (aB 1) (aA (f2 cA (aB 1) (aB 2)) aD))) (tW GM GS GL) [some S,some (.int a),some (.int many),some (.int nest),some (.lst true (bQ [⟨0,0,[],[]⟩])),none,none,none,none,none]=some (.nx,[some S,some (.int a),some (.int many),some (.int nest),some (.lst true (bQ fs1)),y5,y6,y7,y8,y9]):=by
  have e1:aA (aB 1) (aA (f2 cA (aB 1) (aB 2)) aD) [some S,some (.int a),some (.int many),some (.int nest),some (.lst true (bQ [⟨0,0,[],[]⟩])),none,none,none,none,none]=some [.int a,.int ((a:Int)+(many:Int))]:=rfl
  unfold fS yW
  rw [e1,Z7,xb2 (by omega) (by omega) (by omega) (by omega),e]
  exact q
 have s3:aL fR (aA (f2 dIx (f2 dIx (aB 4) (fC (.int 0))) (fC (.int 3))) aD) [some S,some (.int a),some (.int many),some (.int nest),some (.lst true (bQ [f])),y5,y6,y7,y8,y9]=some (.tup (pcsD f.parts)):=by
  show aL fR (aA (f2 dIx (f2 dIx (aB 4) (fC (.int 0))) (fC (.int 3))) aD) [some S,some (.int a),some (.int many),some (.int nest),some (.lst true [.lst true [.str (kdS f.kd),.int f.n,.lst true (rowsD f.full),.lst true (pcsD f.parts)]]),y5,y6,y7,y8,y9]=_
  simp! [gU,pcs_imm]
 have z:=(aK s0).trans ((aK s1).trans ((aK w).trans (bY s3)))
 exact jW rfl z
end
abbrev yu8(GM GL:tz6):tz6:=gP 4 6 (zp8 GM zD GL)
theorem xj6{GM GL:tz6}{S:D}{nest a many:Nat}(hL:∀m,0<=m->∃l,GL [.int m]=some (bK l)/\eR l)(hM:∀j s:Int,(a:Int)<=j/\j<a+many->s=31\/s=32->∃m,GM [S,.int j,.int s]=some (.int m)/\0<=m)(hn:nest<=100)(hmany:many<=90)(ha:a<=1000):
  ∃r,yu8 GM GL [S,.int a,.int many,.int nest]=some (.tup (pcsD r))/\RowOk nest (4*many) r:=by
 obtain⟨r,h1,h2⟩:=xo3 (n:=400) (GS:=zD) (fun f g fs h1 h2 h3 h4=>ys5 h1 h2 h3 h4) hL hM hn hmany ha (Yz hn (by decide))
 exact⟨r,h1,h2⟩
theorem zo2{m:Int}:∀(l:List Int) (w:Str) (x2 x4:Option D),(∀j∈l,0<=j/\j<100)->w.length+l.length<=100->w.cps.toList.all wD=true->
  ∃w' x4',dC 4 (aS 3 (aJ (f2 cA (aB 3) (f2 dIx (aB 1) (f2 cP (f2 cA (f2 eA (aB 0) (fC (.int 12))) (f2 gO (aB 4) (f2 cP (f2 eA (aB 0) (fC (.int 9000))) (fC (.int 93))))) (fC (.int 93))))))) (l.map .int) [some (.int m),some (.str sg),x2,some (.str w),x4]
   =some (.nx,[some (.int m),some (.str sg),x2,some (.str w'),x4'])/\w'.length=w.length+l.length/\w'.cps.toList.all wD=true
 |[],w,x2,x4,_,_,hw=>⟨w,x4,by simp! [fS,gO,iA,pA,D.flat,nW,dC],rfl,hw⟩
 |j::l,w,x2,x4,hj,hl,hw=>by
  rw [Z4] at hl
  have hj0:=hj j Z0
  obtain⟨c,hc,hg⟩:=xn8 ((m/12+j*(m/9000 % 93)) % 93) (Zu _ (by decide)) (Zr _ (by decide))
  have hw1:(w++(⟨#[c]⟩:Str)).length=w.length+1:=by rw [gX];rfl
  obtain⟨w',x4',q1,q2,q3⟩:=zo2 (m:=m) l (w++⟨#[c]⟩) x2 (some (.int j)) (fun i hi=>hj i (Z1 _ hi)) (by rw [hw1];omega) (by rw [bW,List.all_append,hw];simp! [fS,gO,iA,pA,D.flat,nW,hg])
  refine⟨w',x4',?_,by rw [q2,hw1,Z4];omega,q3⟩
  rw [<-q1]
  have hz:w.length+(⟨#[c]⟩:Str).length<=sizeLine:=sz (by show w.length+1<=1000;omega)
  have b1:(-18446744073709551616<j/\j<18446744073709551616):=by omega
  simp! [fS,gO,iA,pA,D.flat,nW,dC,hc,xa9,hz,b1]
abbrev yb8:tz6:=gP 1 4 vG
theorem xd2{m:Int}(hm:0<=m):∃z,yb8 [.int m]=some (.str z)/\zp6 z:=by
 obtain⟨s,hs,h1,h2⟩:=xb0 m
 obtain⟨w,x4,q1,q2,q3⟩:=zo2 (m:=m) ((List.range s.toNat).map fun(k:Nat)=>(k:Int)) "" (some (.int s)) none
  (fun j hj=>by obtain⟨k,hk,rfl⟩:=Yg.mp hj;have:=Yx.mp hk;omega) (by rw [Zd,Yb];show 0+_<=100;omega) (by decide+kernel)
 rw [<-yi3] at q1
 rw [Zd,Yb] at q2
 have q2':w.length=s.toNat:=by rw [q2];show 0+_=_;omega
 refine⟨w,?_,by omega,by omega,q3⟩
 have hz:(Str.ofString "abcdefghijklmnopqrstuvwxyzABCDEFGHIJKLMNOPQRSTUVWXYZ0123456789").length+(Str.ofString "!\"#$&'()*+,-./:;<=>?\x40[\\]^_`{|}~").length<=sizeLine:=by decide+kernel
 have e1:Str.ofString "abcdefghijklmnopqrstuvwxyzABCDEFGHIJKLMNOPQRSTUVWXYZ0123456789"++Str.ofString "!\"#$&'()*+,-./:;<=>?\x40[\\]^_`{|}~"=sg:=rfl
 have b1:(-4611686018427387904<=s/\s<4611686018427387904):=by omega
 simp! [fS,gO,iA,pA,D.flat,nW,vG,hz,e1,hs,q1,b1]
abbrev pG:tz6:=gP 1 1 (vH yb8)
theorem zv4{m:Int}(hm:0<=m):∃l,pG [.int m]=some (bK l)/\eR l:=by
 have hd:0<=m/16:=Xg hm (by decide)
 have s1:aS 1 (aJ (f2 eA (aB 0) (fC (.int 16)))) [some (.int m),none]=some (.nx,[some (.int m),some (.int (m/16))]):=bF (aN rfl rfl ((iQ _ _).trans (if_pos (by decide))))
 have md:f2 cP (aB 0) (fC (.int 16)) [some (.int m),some (.int (m/16))]=some (.int (m % 16)):=aN rfl rfl ((eP _ _).trans (if_pos (by decide)))
 have t:∀c:Int,fB (f2 dLt (f2 cP (aB 0) (fC (.int 16))) (fC (.int c))) [some (.int m),some (.int (m/16))]=some (decide (m % 16<c)):=fun c=>dJ (aN md rfl rfl)
 have out:∀{p:PSt} (l:Leaf),vH yb8 [some (.int m),none]=some (.ret (bK l),p)->pG [.int m]=some (bK l):=fun l h=>jW rfl h
 have t8:=t 8
 have t13:=t 13
 by_cases c1:m % 16<8
 ·obtain⟨z,q,hz⟩:=xd2 hd
  rw [Zl c1] at t8
  exact⟨.word z,out (.word z) ((aK s1).trans (dP ((bG t8).trans (bY (cW (aE rfl (aE (aZ (aE rfl rfl) q) rfl)) rfl (Z3 rfl)))))),hz⟩
 ·rw [Zc c1] at t8
  by_cases c2:m % 16<13
  ·obtain⟨x,q,hx⟩:=xi2 (m/16)
   rw [Zl c2] at t13
   exact⟨.gap x,out (.gap x) ((aK s1).trans ((aK (bH t8)).trans (dP ((bG t13).trans (bY (cW (aE rfl (aE (aN (fK rfl (Z3 rfl)) (aN rfl rfl ((eP _ _).trans (if_pos (by decide)))) q) rfl)) rfl (Z3 rfl))))))),hx⟩
  ·rw [Zc c2] at t13
   have te:fB (f2 dEq (f2 cP (aB 0) (fC (.int 16))) (fC (.int 13))) [some (.int m),some (.int (m/16))]=some (decide (m % 16=13)):=dJ (aN md rfl rfl)
   by_cases c3:m % 16=13
   ·rw [Zl c3] at te
    exact⟨.fin,out .fin ((aK s1).trans ((aK (bH t8)).trans ((aK (bH t13)).trans (dP ((bG te).trans (bY rfl)))))),trivial⟩
   ·rw [Zc c3] at te
    have ha:=Zu (m/16/2) (show(10:Int)≠0 by decide)
    have hb:=Zr (m/16/2) (show(0:Int)<10 by decide)
    have hc:=Zu (m/16/2) (show(41:Int)≠0 by decide)
    have he:=Zr (m/16/2) (show(0:Int)<41 by decide)
    obtain⟨c,q,h1,h2⟩:=xb1 (m/16/2 % 10) (m/16/2 % 41) (m/16) ⟨ha,Int.le_trans (Int.le_of_lt hb) (by decide)⟩ ⟨hc,XI he⟩
    have dv:f2 eA (aB 1) (fC (.int 2)) [some (.int m),some (.int (m/16))]=some (.int (m/16/2)):=aN rfl rfl ((iQ _ _).trans (if_pos (by decide)))
    exact⟨.stop c,out (.stop c) ((aK s1).trans ((aK (bH t8)).trans ((aK (bH t13)).trans ((aK (bH te)).trans (bY (cW (aE rfl (aE (aN (fK (aE (aN dv rfl ((eP _ _).trans (if_pos (by decide)))) (aE (aN dv rfl ((eP _ _).trans (if_pos (by decide)))) rfl)) (Z3 rfl)) (aN rfl rfl ((eP _ _).trans (if_pos (by decide)))) q) rfl)) rfl (Z3 rfl))))))),h1,h2⟩
def zh9(GM:tz6):tz1:=aV (aS 4 (aJ (aL GM (aA (aB 0) (aA (f2 cA (fC (.int 3)) (aB 3)) (aA (fC (.int 58)) aD))))))
 (aV (aS 5 (aJ (aT (aA (fC (.str "hang")) (aA (f2 cP (f2 eA (aB 4) (fC (.int 8))) (fC (.int 4))) (aA (aR (aB 1)) aD))))))
 (aV (fIf (aX (bV (fB (f3 dLt dLt (fC (.int 0)) (f2 cP (aB 4) (fC (.int 8))) (fC (.int 3)))) (fB (f2 dGt (aB 2) (fC (.int 0))))))
  (aV (aS 2 (aJ (f2 jY (aB 2) (fC (.int 1)))))
 (aS 5 (aJ (f2 dIx (cE (aA (aT (aA (fC (.str "group")) (aA (aR (aB 1)) aD))) (aA (aT (aA (fC (.str "either")) (aA (aT (aA (aT (aA (aT (aA (fC (.str "word")) (aA (fC (.str "or")) aD))) aD)) (aA (aR (aB 1)) aD))) aD))) aD))) (f2 jY (f2 cP (aB 4) (fC (.int 8))) (fC (.int 1)))))))
  cF)
 (yV 1 (aJ (aT (aA (aL pG (aA (f2 eA (aB 4) (fC (.int 64))) aD)) (aA (aR (aB 5)) aD)))))))
theorem xj7:eR (.word "or"):=⟨by decide+kernel,by decide+kernel,by decide+kernel⟩
theorem yO{n w:Nat}{r:List Pc}{l:Leaf}{p:Pc}(hl:eR l)(hr:RowOk n w r)(hp:p= .group r\/(∃k:Int,(0<=k/\k<=12)/\p= .hang k r)\/p= .either [eD,r]):RowOk (n+1) (w+5) [.leaf l,p]:=by
 obtain⟨a,b,c⟩:=hr
 rcases hp with rfl|⟨k,hk,rfl⟩|rfl
 ·exact⟨by simp [okR,okP,hl,a],by simp [depR,dD];omega,by simp [toksR,bS];omega⟩
 ·exact⟨by simp [okR,okP,hl,a,hk],by simp [depR,dD];omega,by simp [toksR,bS];omega⟩
 ·exact⟨by simp [okR,okP,okRs,eD,hl,a,xj7],by simp [depR,dD,depRs,eD];omega,by simp [toksR,bS,toksRows,toksMore,eD];omega⟩
section
variable{GM:tz6}{S:D}
theorem yl1{r:List Pc}{x4 x5 x6:Option D}{left j:Int}{n w:Nat}(hM:MxH GM S)(h0:0<=j)(h1:j<100)(hr:RowOk n w r):
  ∃r' left' y5 y6,zh9 GM [some S,some (.tup (pcsD r)),some (.int left),some (.int j),x5,x6]=some (.nx,[some S,some (.tup (pcsD r')),some (.int left'),some (.int j),y5,y6])/\RowOk (n+1) (w+5) r':=by
 obtain⟨a,qa,ha⟩:=hM (3+j) 58 (by omega) (by omega) (by decide) (by decide)
 obtain⟨l,ql,hl⟩:=zv4 (m:=a/64) (Xg ha (by decide))
 have pi:=pcs_imm r
 have m0:=Zu a (show(8:Int)≠0 by decide)
 have m1:=Zr a (show(0:Int)<8 by decide)
 have k0:=Zu (a/8) (show(4:Int)≠0 by decide)
 have k1:=Zr (a/8) (show(0:Int)<4 by decide)
 have s1:aS 4 (aJ (aL GM (aA (aB 0) (aA (f2 cA (fC (.int 3)) (aB 3)) (aA (fC (.int 58)) aD))))) [some S,some (.tup (pcsD r)),some (.int left),some (.int j),x5,x6]=some (.nx,[some S,some (.tup (pcsD r)),some (.int left),some (.int j),some (.int a),x6]):=bF (aZ (aE rfl (aE (aN rfl rfl rfl) (aE rfl rfl))) qa)
 have s2:aS 5 (aJ (aT (aA (fC (.str "hang")) (aA (f2 cP (f2 eA (aB 4) (fC (.int 8))) (fC (.int 4))) (aA (aR (aB 1)) aD))))) [some S,some (.tup (pcsD r)),some (.int left),some (.int j),some (.int a),x6]=some (.nx,[some S,some (.tup (pcsD r)),some (.int left),some (.int j),some (.int a),some (pcD (.hang (a/8 % 4) r))]):=
  bF (cW (aE rfl (aE (aN (aN rfl rfl ((iQ _ _).trans (if_pos (by decide)))) rfl ((eP _ _).trans (if_pos (by decide)))) (aE (cB rfl pi) rfl))) (by simp [D.imms,D.imm,pi]) (Z3 rfl))
 have md:∀x3 x6,f2 cP (aB 4) (fC (.int 8)) [some S,some (.tup (pcsD r)),x3,some (.int j),some (.int a),x6]=some (.int (a % 8)):=fun _ _=>aN rfl rfl ((eP _ _).trans (if_pos (by decide)))
 have fin:∀(p:Pc) (left':Int),(pcD p).imm=true->yV 1 (aJ (aT (aA (aL pG (aA (f2 eA (aB 4) (fC (.int 64))) aD)) (aA (aR (aB 5)) aD)))) [some S,some (.tup (pcsD r)),some (.int left'),some (.int j),some (.int a),some (pcD p)]=some (.nx,[some S,some (.tup (pcsD [.leaf l,p])),some (.int left'),some (.int j),some (.int a),some (pcD p)]):=fun p left' hp=>by
  have li:=zm0 l
  have e:aT (aA (aL pG (aA (f2 eA (aB 4) (fC (.int 64))) aD)) (aA (aR (aB 5)) aD)) [some S,some (.tup (pcsD r)),some (.int left'),some (.int j),some (.int a),some (pcD p)]=some (.tup [bK l,pcD p]):=cW (aE (aZ (aE (aN rfl rfl ((iQ _ _).trans (if_pos (by decide)))) rfl) ql) (aE (cB rfl hp) rfl)) (by simp [D.imms,li,hp]) (Z3 rfl)
  unfold yV aJ
  rw [e]
  refine(if_pos ?_).trans rfl
  simp [D.imm,D.imms,li,hp]
 have t1:fB (f3 dLt dLt (fC (.int 0)) (f2 cP (aB 4) (fC (.int 8))) (fC (.int 3))) [some S,some (.tup (pcsD r)),some (.int left),some (.int j),some (.int a),some (pcD (.hang (a/8 % 4) r))]=some (decide (0<a % 8)&&decide (a % 8<3)):=by
  refine dJ ?_
  unfold f3
  rw [md]
  by_cases c:0<a % 8<;>simp [dLt,c,fC]
 have t2:fB (f2 dGt (aB 2) (fC (.int 0))) [some S,some (.tup (pcsD r)),some (.int left),some (.int j),some (.int a),some (pcD (.hang (a/8 % 4) r))]=some (decide (0<left)):=dJ (aN rfl rfl rfl)
 have ih:(pcD (.hang (a/8 % 4) r)).imm=true:=by simp [pcD,D.imm,D.imms,pi]
 have no:∀(h:bV (fB (f3 dLt dLt (fC (.int 0)) (f2 cP (aB 4) (fC (.int 8))) (fC (.int 3)))) (fB (f2 dGt (aB 2) (fC (.int 0)))) [some S,some (.tup (pcsD r)),some (.int left),some (.int j),some (.int a),some (pcD (.hang (a/8 % 4) r))]=some false),∃r' left' y5 y6,zh9 GM [some S,some (.tup (pcsD r)),some (.int left),some (.int j),x5,x6]=some (.nx,[some S,some (.tup (pcsD r')),some (.int left'),some (.int j),y5,y6])/\RowOk (n+1) (w+5) r':=fun h=>
  ⟨_,left,_,_,(aK s1).trans ((aK s2).trans ((aK (bH h)).trans (fin _ _ ih))),yO hl hr (.inr (.inl ⟨_,⟨k0,by omega⟩,rfl⟩))⟩
 by_cases c1:0<a % 8/\a % 8<3
 ·rw [Zl c1.1,Zl c1.2] at t1
  by_cases c2:0<left
  ·rw [Zl c2] at t2
   have e1:aT (aA (fC (.str "group")) (aA (aR (aB 1)) aD)) [some S,some (.tup (pcsD r)),some (.int (left-1)),some (.int j),some (.int a),some (pcD (.hang (a/8 % 4) r))]=some (pcD (.group r)):=cW (aE rfl (aE (cB rfl pi) rfl)) (by simp [D.imms,D.imm,pi]) (Z3 rfl)
   have e0:aT (aA (aT (aA (fC (.str "word")) (aA (fC (.str "or")) aD))) aD) [some S,some (.tup (pcsD r)),some (.int (left-1)),some (.int j),some (.int a),some (pcD (.hang (a/8 % 4) r))]=some (.tup (pcsD eD)):=rfl
   have io:=pcs_imm eD
   have i2:D.imms [.tup (pcsD eD),.tup (pcsD r)]=true:=by simp [D.imms,D.imm,pi,io]
   have i3:D.imms [.str "either",.tup [.tup (pcsD eD),.tup (pcsD r)]]=true:=by simp [D.imms,D.imm,pi,io]
   have d2:aA (aT (aA (aT (aA (fC (.str "word")) (aA (fC (.str "or")) aD))) aD)) (aA (aR (aB 1)) aD) [some S,some (.tup (pcsD r)),some (.int (left-1)),some (.int j),some (.int a),some (pcD (.hang (a/8 % 4) r))]=some [.tup (pcsD eD),.tup (pcsD r)]:=aE e0 (aE (cB rfl pi) rfl)
   have e2:aT (aA (fC (.str "either")) (aA (aT (aA (aT (aA (aT (aA (fC (.str "word")) (aA (fC (.str "or")) aD))) aD)) (aA (aR (aB 1)) aD))) aD)) [some S,some (.tup (pcsD r)),some (.int (left-1)),some (.int j),some (.int a),some (pcD (.hang (a/8 % 4) r))]=some (pcD (.either [eD,r])):=
    cW (aE rfl (aE (cW (d2) (i2) (Z3 rfl)) rfl)) (i3) (Z3 rfl)
   obtain⟨p,hp,qp,ip⟩:∃p,(p= .group r\/p= .either [eD,r])/\dIx (.lst true [pcD (.group r),pcD (.either [eD,r])]) (.int (a % 8-1))=some (pcD p)/\(pcD p).imm=true:=by
    have:a % 8=1\/a % 8=2:=by omega
    rcases this with h|h<;>rw [h]
    ·exact⟨_,.inl rfl,rfl,by simp [pcD,D.imm,D.imms,pi]⟩
    ·exact⟨_,.inr rfl,rfl,by simp [pcD,rowsD,D.imm,D.imms,pi,pcs_imm]⟩
   refine⟨_,left-1,_,_,(aK s1).trans ((aK s2).trans ((aK ((bG (eI t1 t2)).trans ((aK (bF (aN rfl rfl rfl))).trans (bF (aN (fK (aE e1 (aE e2 rfl)) (Z3 rfl)) (aN (md _ _) rfl rfl) qp))))).trans (fin p _ ip))),yO hl hr ?_⟩
   rcases hp with h|h
   ·exact .inl h
   ·exact .inr (.inr h)
  ·rw [Zc c2] at t2
   exact no (eI t1 t2)
 ·have:(decide (0<a % 8)&&decide (a % 8<3))=false:=by simpa using c1
  rw [this] at t1
  exact no (dZ t1)
theorem ze2(hM:MxH GM S):∀(js:List Int) (r:List Pc) (left:Int) (x4 x5 x6:Option D) (n w:Nat),(∀j∈js,0<=j/\j<100)->RowOk n w r->
  ∃r' q,dC 3 (zh9 GM) (js.map .int) [some S,some (.tup (pcsD r)),some (.int left),x4,x5,x6]=some (.nx,some S::some (.tup (pcsD r'))::q)/\RowOk (n+js.length) (w+5*js.length) r'
 |[],r,left,x4,x5,x6,n,w,_,hr=>⟨r,_,rfl,hr⟩
 |j::js,r,left,x4,x5,x6,n,w,hj,hr=>by
  have hj0:=hj j Z0
  obtain⟨r1,l1,y5,y6,q,h1⟩:=yl1 (x4:=x4) (x5:=x5) (x6:=x6) (left:=left) hM hj0.1 hj0.2 hr
  obtain⟨r2,z,q2,h2⟩:=ze2 hM js r1 l1 (some (.int j)) y5 y6 (n+1) (w+5) (fun i hi=>hj i (Z1 _ hi)) h1
  refine⟨r2,z,?_,by rw [Z4];exact⟨h2.ok,by have:=h2.dep;omega,by have:=h2.len;omega⟩⟩
  rw [<-q2]
  show dC 3 _ (.int j::js.map .int) _=_
  rw [dC]
  show((zh9 GM [some S,some (.tup (pcsD r)),some (.int left),some (.int j),x5,x6]).bind _)=_
  rw [q];rfl
abbrev yw5(GM:tz6):tz6:=gP 2 4 (vI GM pG)
theorem yb1{r:List Pc}{n w:Nat}(hM:MxH GM S)(hr:RowOk n w r):∃r',yw5 GM [S,.tup (pcsD r)]=some (.tup (pcsD r'))/\RowOk (n+9) (w+45) r':=by
 obtain⟨a,qa,ha⟩:=hM 2 57 (by decide) (by decide) (by decide) (by decide)
 obtain⟨k,hk,k1⟩:=xb4 (a/4) 3 7 (by decide)
 obtain⟨r',q,e,h⟩:=ze2 (GM:=GM) (S:=S) hM ((List.range k).map fun(i:Nat)=>(i:Int)) r 3 none none none n w (fun j hj=>by obtain⟨i,hi,rfl⟩:=Yg.mp hj;have:=Yx.mp hi;omega) hr
 rw [Zd,Yb] at h
 rw [<-yi3] at e
 have s1:aS 2 (aJ (fC (.int 3))) [some S,some (.tup (pcsD r)),none,none,none,none]=some (.nx,[some S,some (.tup (pcsD r)),some (.int 3),none,none,none]):=rfl
 have er:iA (aA (f2 cA (fC (.int 3)) (f2 cP (f2 eA (aL GM (aA (aB 0) (aA (fC (.int 2)) (aA (fC (.int 57)) aD)))) (fC (.int 4))) (fC (.int 7)))) aD) [some S,some (.tup (pcsD r)),some (.int 3),none,none,none]=some (eS 0 k):=by
  unfold iA
  rw [aE (d:= .int (k:Int)) (aN (x:= .int 3) (y:= .int (a/4 % 7)) rfl (aN (aN (aZ (aE rfl (aE rfl (aE rfl rfl))) qa) rfl ((iQ _ _).trans (if_pos (by decide)))) rfl ((eP _ _).trans (if_pos (by decide)))) (by rw [<-hk];rfl)) (show aD _=some [] from rfl),Z7]
  exact yq3 (by omega)
 refine⟨r',hX rfl (dQ s1 (dQ (nC er e) ⟨_,bY (cB (d:= .tup (pcsD r')) rfl (pcs_imm r'))⟩)),h.ok,by have:=h.dep;omega,by have:=h.len;omega⟩
end
theorem zo3:∀(ys:List Str),ys≠[]->(∀y∈ys,(y:Str).length<=(Str.join ⟨#[10]⟩ ys).length)/\ys.length<=(Str.join ⟨#[10]⟩ ys).length+1
 |[],h=>absurd rfl h
 |[y],_=>⟨fun z hz=>by rw [ZA.mp hz];exact Z9 _,Nat.le_add_left _ _⟩
 | x::y::r,_=>by
  obtain⟨h1,h2⟩:=zo3 (y::r) (by simp)
  have e:(Str.join ⟨#[10]⟩ (x::y::r)).length=x.length+1+(Str.join ⟨#[10]⟩ (y::r)).length:=by
   show(Str.join ⟨#[10]⟩ (x::y::r)).cps.size=x.cps.size+1+(Str.join ⟨#[10]⟩ (y::r)).cps.size
   rw [<-ZQ,sV,Z2,Z4,ZQ,ZQ];omega
  rw [e]
  refine⟨fun z hz=> ?_,by rw [Z4];omega⟩
  rcases Z8.mp hz with rfl|hz
  ·omega
  ·have:=h1 z hz;omega
theorem xd3(t:Str):(∀y∈lns t,(y:Str).length<=t.length)/\(lns t).length<=t.length+1:=by
 have:=zo3 (lns t) (yj3 t)
 rwa [xD] at this
theorem ys7{f:tz2}{p:PSt}{t:Str}(h:f p=some (.str t))(hl:t.length<=900000):fMt yU f (aA (fC (.str "\n")) aD) p=some (.lst true (L2.wA (lns t))):=by
 unfold fMt
 rw [h,Z7,aE (f:=fC (.str "\n")) (g:=aD) (d:= .str "\n") (ds:=[]) rfl rfl,Z7,if_pos (show zg4 (.str t)=true from rfl)]
 unfold lns
 rw [<-yG]
 exact if_pos ⟨by decide+kernel,by omega⟩
abbrev sK:tz6:=gP 1 0 uD
theorem ys8{t:Str}(hl:t.length<=900000):sK [.str t]=some (.lst true (L2.wA (lns t))):=hX rfl ⟨_,bY (ys7 (f:=aB 0) (p:=[some (.str t)]) rfl hl)⟩
theorem xd4{α:Type}(l:List α)(a:α):atI (l++[a]) (-1)=some a:=by
 unfold atI
 rw [Z2]
 show(ixN (l.length+1) (-1)).bind _=_
 rw [sT,Z7]
 simp
theorem zo4(W:Str):hdT W W.length=W:=rZ (by rw [pK,eM,List.take_length])
abbrev zi0(n:Nat):tz6:=gP 2 3 (rD kH vM lG (za7 n) sK)
def xq1:Option Way->D
 |none=> .non
 |some x=> .tup (bD x.2)
theorem xd5{W:Str}{n:Nat}{r:List Pc}(hW:W.length<=900000)(hd:depR r<n)(h8:depR r<=16)(ho:okR r)(hl:(toksR r).length<=800):zi0 n [.tup (pcsD r),.str W]=some (xq1 (iL (dR W n r) W.length)):=by
 have hs:sizeLine=16777216:=Ya
 have q:=yk2 (W:=W) hW hd h8 ho hl
 have s1:aS 2 (aJ (eL "Front" (cO [.im (kX (eL "AlongText" (cO [.im (aB 1)]) vM))]) kH)) [some (.tup (pcsD r)),some (.str W),none,none,none]=some (.nx,[some (.tup (pcsD r)),some (.str W),some (aI true W []),none,none]):=bF (tF (yr9 rfl))
 have k0:fKt (aA (fC (.int 0)) (aA (fC (.int 0)) aD)) [some (.tup (pcsD r)),some (.str W),some (aI true W []),none,none]=some (.kt (dE W 0)):=rfl
 have s2:cU (dO 2 bR (cO [.im (fKt (aA (fC (.int 0)) (aA (fC (.int 0)) aD))),.im (aT (aA (aT aD) (aA (aT aD) aD)))]) (iB "Front" "add" lG)) [some (.tup (pcsD r)),some (.str W),some (aI true W []),none,none]=some (.nx,[some (.tup (pcsD r)),some (.str W),some (aI true W [(0,((),[]))]),none,none]):=vX (j:=2) (F:=[]) (W:=W) (k:=0) (x:=((),[])) rfl k0 rfl (by simp)
 have s3:aS 3 (aJ (aR (cX "Front" "best" (aL (za7 n) (aA (aB 2) (aA (aB 0) aD)))))) [some (.tup (pcsD r)),some (.str W),some (aI false W [(0,((),[]))]),none,none]=some (.nx,[some (.tup (pcsD r)),some (.str W),some (aI false W [(0,((),[]))]),some (.dit false (dH W (dR W n r)) (dX (dR W n r))),none]):=bF (cB (xG (aZ (aE rfl (aE rfl rfl)) q)) (zt7 W _))
 have kT:fKt (aA (aL cM (aA (aB 1) aD)) (aA (aL cM (aA (f2 dIx (aL sK (aA (aB 1) aD)) (eN (fC (.int 1)))) aD)) aD)) [some (.tup (pcsD r)),some (.str W),some (aI false W [(0,((),[]))]),some (.dit false (dH W (dR W n r)) (dX (dR W n r))),none]=some (.kt (dE W W.length)):=by
  obtain⟨xs,y,e⟩:=yq9 W
  have ly:=(xd3 W).1 y (by rw [e];simp)
  have cy:cT W W.length=y.length:=by unfold cT;rw [zo4,yr0 e]
  have a1:aL cM (aA (aB 1) aD) [some (.tup (pcsD r)),some (.str W),some (aI false W [(0,((),[]))]),some (.dit false (dH W (dR W n r)) (dX (dR W n r))),none]=some (.int (W.length:Int)):=aZ (aE rfl rfl) (if_pos (by omega))
  have a2:f2 dIx (aL sK (aA (aB 1) aD)) (eN (fC (.int 1))) [some (.tup (pcsD r)),some (.str W),some (aI false W [(0,((),[]))]),some (.dit false (dH W (dR W n r)) (dX (dR W n r))),none]=some (.str y):=by
   refine aN (aZ (aE rfl rfl) (ys8 hW)) (y:= .int (-1)) rfl ?_
   show atI (L2.wA (lns W)) (-1)=_
   rw [e]
   unfold L2.wA
   rw [ZU]
   exact xd4 _ _
  have a3:aL cM (aA (f2 dIx (aL sK (aA (aB 1) aD)) (eN (fC (.int 1)))) aD) [some (.tup (pcsD r)),some (.str W),some (aI false W [(0,((),[]))]),some (.dit false (dH W (dR W n r)) (dX (dR W n r))),none]=some (.int (cT W W.length:Int)):=aZ (aE a2 rfl) (by rw [cy];exact if_pos (by omega))
  unfold fKt
  rw [aE a1 (aE a3 (show aD _=some [] from rfl))]
  rfl
 have s4:aS 4 (aJ (fKt (aA (aL cM (aA (aB 1) aD)) (aA (aL cM (aA (f2 dIx (aL sK (aA (aB 1) aD)) (eN (fC (.int 1)))) aD)) aD)))) [some (.tup (pcsD r)),some (.str W),some (aI false W [(0,((),[]))]),some (.dit false (dH W (dR W n r)) (dX (dR W n r))),none]=some (.nx,[some (.tup (pcsD r)),some (.str W),some (aI false W [(0,((),[]))]),some (.dit false (dH W (dR W n r)) (dX (dR W n r))),some (.kt (dE W W.length))]):=bF kT
 have t5:fB (f2 gZ (aB 4) (aB 3)) [some (.tup (pcsD r)),some (.str W),some (aI false W [(0,((),[]))]),some (.dit false (dH W (dR W n r)) (dX (dR W n r))),some (.kt (dE W W.length))]=some (!(iL (dR W n r) W.length).isSome):=dJ (aN rfl rfl (by
  show some (D.bl (!(gQ (dH W (dR W n r)) (dX (dR W n r)) (dE W W.length)).isSome))=_
  rw [mK,X2]))
 refine hX rfl (dQ s1 (dQ s2 ?_))
 have fz:∀f:tz1,zh1 2 f [some (.tup (pcsD r)),some (.str W),some (aI true W [(0,((),[]))]),none,none]=f [some (.tup (pcsD r)),some (.str W),some (aI false W [(0,((),[]))]),none,none]:=fun f=>by
  unfold zh1
  show((some (aI true W [(0,((),[]))])).bind _)=_
  rw [Z7,zd8];rfl
 rw [fz]
 refine dQ s3 (dQ s4 ?_)
 cases e:iL (dR W n r) W.length with
 |none=>
  rw [e] at t5
  exact sC ⟨_,(bG t5).trans (bY rfl)⟩
 |some x=>
  rw [e] at t5
  refine dQ (bH t5) ⟨_,bY (cB (aN (x:=wyD x) (aN rfl rfl ?_) rfl (fJ _ _ _)) (lT x.2))⟩
  show gQ (dH W (dR W n r)) (dX (dR W n r)) (dE W W.length)=_
  rw [mK,e];rfl
theorem yl2{W:Str}{n:Nat}{r:List Pc}{x:Way}(hd:depR r<n)(h8:depR r<=16)(ho:okR r)(h:iL (dR W n r) W.length=some x):setR true 0 r x.2 ⟨#[]⟩=some ([],W):=by
 have g:Good W (fun cs t=>setR true 0 r cs ⟨#[]⟩=some ([],t)) (dR W n r):=yJ (n:=n) hd ho (by omega)
 obtain⟨t,ht,hp⟩:=g.hit _ (zY h)
 have e:t=W:=hp.1.trans (zo4 W)
 rw [<-e];exact ht
theorem yl3{W:Str}{n:Nat}{r:List Pc}{C:List Int}(hd:depR r<n)(h8:depR r<=16)(ho:okR r)(h:setR true 0 r C ⟨#[]⟩=some ([],W)):∃x,iL (dR W n r) W.length=some x/\HT.lexLt C x.2=false:=by
 have g:Good W (fun cs t=>setR true 0 r cs ⟨#[]⟩=some ([],t)) (dR W n r):=yJ (n:=n) hd ho (by omega)
 have b:kI W (fun cs t=>setR true 0 r cs ⟨#[]⟩=some ([],t)) (dR W n r):=ya7 (n:=n) hd ho (by omega)
 obtain⟨y,hy,hn⟩:=b C W W.length h ⟨(zo4 W).symm,Z9 _⟩
 exact⟨y,qE g.nd hy,uY.mp hn⟩
theorem zo5:∀a b:List Pc,depR (a++b)=max (depR a) (depR b)
 |[],b=>by show depR b=max 0 (depR b);omega
 |p::a,b=>by
  show max (dD p) (depR (a++b))=max (max (dD p) (depR a)) (depR b)
  rw [zo5 a b];omega
structure Tw(p p':Pc):Prop where
 ok:okP p'
 dep:dD p'<=dD p+2
 len:(bS p').length<=2*(bS p).length+7
def tw0(p:Pc):Pc:= .group [p]
def tw1(p:Pc):Pc:= .either [[p],[p]]
def tw2(p:Pc):Pc:= .either [eD,[p],[.group [p]]]
def tw3(p:Pc)(v:Int):Pc:= .either [[p,.leaf (.stop v)],[p]]
theorem xd6{p:Pc}(h:okP p){v:Int}(v0:0<=v)(v1:v<=40):Tw p p/\Tw p (tw0 p)/\Tw p (tw1 p)/\Tw p (tw2 p)/\Tw p (tw3 p v):=by
 have hor:eR (.word "or"):=⟨by decide+kernel,by decide+kernel,by decide+kernel⟩
 have hst:eR (.stop v):=⟨v0,v1⟩
 refine⟨⟨h,by omega,by omega⟩,⟨?_,?_,?_⟩,⟨?_,?_,?_⟩,⟨?_,?_,?_⟩,⟨?_,?_,?_⟩⟩
 ·simp [tw0,okP,okR,h]
 ·simp [tw0,dD,depR]
 ·simp [tw0,bS,toksR];omega
 ·simp [tw1,okP,okRs,okR,h]
 ·simp [tw1,dD,depRs,depR]
 ·simp [tw1,bS,toksRows,toksMore,toksR];omega
 ·simp [tw2,okP,okRs,okR,h,eD,hor]
 ·simp [tw2,dD,depRs,depR,eD]
 ·simp [tw2,bS,toksRows,toksMore,toksR,eD];omega
 ·simp [tw3,okP,okRs,okR,h,hst]
 ·simp [tw3,dD,depRs,depR]
 ·simp [tw3,bS,toksRows,toksMore,toksR];omega
theorem ys9(p:Pc):∃b ds k,pcD p= .tup (.str k::ds)/\dIn (.str k) (.lst true [.str "word",.str "gap",.str "end",.str "stop"])=some (.bl b):=by
 cases p with
 |group r=>exact⟨false,_,"group",rfl,by kernel_rfl⟩
 |hang n r=>exact⟨false,_,"hang",rfl,by kernel_rfl⟩
 |either rs=>exact⟨false,_,"either",rfl,by kernel_rfl⟩
 |leaf l=>
  cases l with
  |word x=>exact⟨true,_,"word",rfl,by kernel_rfl⟩
  |gap x=>exact⟨true,_,"gap",rfl,by kernel_rfl⟩
  |fin=>exact⟨true,_,"end",rfl,by kernel_rfl⟩
  |stop k=>exact⟨true,_,"stop",rfl,by kernel_rfl⟩
section
variable{GM:tz6}{S:D}
abbrev eqT(c:Int):tz4:=fB (f2 dEq (f2 cP (aB 4) (fC (.int 8))) (fC (.int c)))
abbrev ltT:tz4:=fB (f2 dLt (aB 3) (fC (.int 12)))
def zq5(GM:tz6):tz1:=(aV (aS 4 (aJ (aL GM (aA (aB 0) (aA (aB 3) (aA (fC (.int 61)) aD))))))
 (aV (aS 5 (aJ (aR (f2 dIx (aB 1) (aB 3)))))
 (aV (aS 6 (aJ (fOr (f2 dIn (f2 dIx (aB 5) (fC (.int 0))) (cE (fKs [.str "word",.str "gap",.str "end",.str "stop"]))) (f2 dLt (aL cM (aA (aB 1) aD)) (fC (.int 4))))))
 (aV (fIf (aX (bV (eqT 1) ltT))
  (aS 5 (aJ (aT (aA (fC (.str "group")) (aA (aT (aA (aR (aB 5)) aD)) aD)))))
  (fIf (aX (bV (eqT 0) (bV ltT (fT (aB 6)))))
  (aS 5 (aJ (aT (aA (fC (.str "either")) (aA (aT (aA (aT (aA (aR (aB 5)) aD)) (aA (aT (aA (aR (aB 5)) aD)) aD))) aD)))))
  (fIf (aX (bV (eqT 2) (bV ltT (fT (aB 6)))))
  (aS 5 (aJ (aT (aA (fC (.str "either")) (aA (aT (aA (aT (aA (aT (aA (fC (.str "word")) (aA (fC (.str "or")) aD))) aD)) (aA (aT (aA (aR (aB 5)) aD)) (aA (aT (aA (aT (aA (fC (.str "group")) (aA (aT (aA (aR (aB 5)) aD)) aD))) aD)) aD)))) aD)))))
  (fIf (aX (bV (eqT 3) (bV ltT (fT (aB 6)))))
  (aS 5 (aJ (aT (aA (fC (.str "either")) (aA (aT (aA (aT (aA (aR (aB 5)) (aA (aT (aA (fC (.str "stop")) (aA (f2 cP (f2 eA (aB 4) (fC (.int 8))) (fC (.int 6))) aD))) aD))) (aA (aT (aA (aR (aB 5)) aD)) aD))) aD)))))
  cF))))
 (cU (dO 2 bR (aA (aR (aB 5)) aD) dN))))))
theorem yl4{r done:List Pc}{p:Pc}{k:Nat}{x4 x5 x6:Option D}(hM:MxH GM S)(hk:k<=900)(hd:done.length<=900)(hp:(pcsD r)[k]? =some (pcD p))(ho:okP p):
  ∃p' y4 y5 y6,zq5 GM [some S,some (.tup (pcsD r)),some (.lst true (pcsD done)),some (.int (k:Int)),x4,x5,x6]=some (.nx,[some S,some (.tup (pcsD r)),some (.lst true (pcsD (done++[p']))),some (.int (k:Int)),y4,y5,y6])/\Tw p p'/\(12<=k->p'=p):=by
 obtain⟨a,qa,ha⟩:=hM (k:Int) 61 (by omega) (by omega) (by decide) (by decide)
 have pi:=jJ p
 obtain⟨pb,ds,kn,ek,eb⟩:=ys9 p
 have s1:aS 4 (aJ (aL GM (aA (aB 0) (aA (aB 3) (aA (fC (.int 61)) aD))))) [some S,some (.tup (pcsD r)),some (.lst true (pcsD done)),some (.int (k:Int)),x4,x5,x6]=some (.nx,[some S,some (.tup (pcsD r)),some (.lst true (pcsD done)),some (.int (k:Int)),some (.int a),x5,x6]):=bF (aZ (aE rfl (aE rfl (aE rfl rfl))) qa)
 have s2:aS 5 (aJ (aR (f2 dIx (aB 1) (aB 3)))) [some S,some (.tup (pcsD r)),some (.lst true (pcsD done)),some (.int (k:Int)),some (.int a),x5,x6]=some (.nx,[some S,some (.tup (pcsD r)),some (.lst true (pcsD done)),some (.int (k:Int)),some (.int a),some (pcD p),x6]):=bF (cB (aN (x:= .tup (pcsD r)) rfl rfl (lP hp)) pi)
 obtain⟨pl,s3⟩:∃pl:Bool,aS 6 (aJ (fOr (f2 dIn (f2 dIx (aB 5) (fC (.int 0))) (cE (fKs [.str "word",.str "gap",.str "end",.str "stop"]))) (f2 dLt (aL cM (aA (aB 1) aD)) (fC (.int 4))))) [some S,some (.tup (pcsD r)),some (.lst true (pcsD done)),some (.int (k:Int)),some (.int a),some (pcD p),x6]=some (.nx,[some S,some (.tup (pcsD r)),some (.lst true (pcsD done)),some (.int (k:Int)),some (.int a),some (pcD p),some (.bl pl)]):=by
  have e1:f2 dIn (f2 dIx (aB 5) (fC (.int 0))) (cE (fKs [.str "word",.str "gap",.str "end",.str "stop"])) [some S,some (.tup (pcsD r)),some (.lst true (pcsD done)),some (.int (k:Int)),some (.int a),some (pcD p),x6]=some (.bl pb):=aN (x:= .str kn) (y:= .lst true [.str "word",.str "gap",.str "end",.str "stop"]) (aN (x:=pcD p) rfl rfl (by rw [ek];exact lN _ _)) rfl eb
  have e2:f2 dLt (aL cM (aA (aB 1) aD)) (fC (.int 4)) [some S,some (.tup (pcsD r)),some (.lst true (pcsD done)),some (.int (k:Int)),some (.int a),some (pcD p),x6]=some (.bl (decide (((pcsD r).length:Int)<4))):=aN (aZ (aE rfl rfl) rfl) rfl rfl
  cases pb with
  |true=>exact⟨true,bF (by unfold fOr;rw [e1];rfl)⟩
  |false=>exact⟨_,bF (by unfold fOr;rw [e1];exact e2)⟩
 generalize hq:[some S,some (D.tup (pcsD r)),some (.lst true (pcsD done)),some (.int (k:Int)),some (.int a),some (pcD p),some (D.bl pl)]=q at s3
 have v5:aR (aB 5) q=some (pcD p):=cB (by rw [<-hq];rfl) pi
 have v4:aB 4 q=some (.int a):=by rw [<-hq];rfl
 have te:∀c,eqT c q=some (decide (a % 8=c)):=fun c=>dJ (aN (aN v4 rfl ((eP _ _).trans (if_pos (by decide)))) rfl rfl)
 have tl:ltT q=some (decide ((k:Int)<12)):=dJ (aN (by rw [<-hq];rfl) rfl rfl)
 have t6:fT (aB 6) q=some pl:=jA (by rw [<-hq];rfl)
 have t3:∀c,bV (eqT c) (bV ltT (fT (aB 6))) q=some (decide (a % 8=c)&&(decide ((k:Int)<12)&&pl)):=fun c=>qF (te c) (qF tl t6)
 have m0:=Zu (a/8) (show(6:Int)≠0 by decide)
 have m1:=Zr (a/8) (show(0:Int)<6 by decide)
 obtain⟨w0,w1,w2,w3,w4⟩:=xd6 ho m0 (show a/8 % 6<=40 by omega)
 have one:aT (aA (aR (aB 5)) aD) q=some (.tup (pcsD [p])):=cW (aE v5 rfl) (pcs_imm [p]) (Z3 rfl)
 have grp:aT (aA (fC (.str "group")) (aA (aT (aA (aR (aB 5)) aD)) aD)) q=some (pcD (tw0 p)):=cW (aE rfl (aE one rfl)) (jJ (tw0 p)) (Z3 rfl)
 have st:aT (aA (fC (.str "stop")) (aA (f2 cP (f2 eA (aB 4) (fC (.int 8))) (fC (.int 6))) aD)) q=some (bK (.stop (a/8 % 6))):=cW (aE rfl (aE (aN (aN v4 rfl ((iQ _ _).trans (if_pos (by decide)))) rfl ((eP _ _).trans (if_pos (by decide)))) rfl)) rfl (Z3 rfl)
 have orr:aT (aA (aT (aA (fC (.str "word")) (aA (fC (.str "or")) aD))) aD) q=some (.tup (pcsD eD)):=rfl
 have e1:aT (aA (fC (.str "either")) (aA (aT (aA (aT (aA (aR (aB 5)) aD)) (aA (aT (aA (aR (aB 5)) aD)) aD))) aD)) q=some (pcD (tw1 p)):=cW (aE rfl (aE (cW (ds:=rowsD [[p],[p]]) (aE one (aE one rfl)) (rows_imm _) (Z3 rfl)) rfl)) (jJ (tw1 p)) (Z3 rfl)
 have e2:aT (aA (fC (.str "either")) (aA (aT (aA (aT (aA (aT (aA (fC (.str "word")) (aA (fC (.str "or")) aD))) aD)) (aA (aT (aA (aR (aB 5)) aD)) (aA (aT (aA (aT (aA (fC (.str "group")) (aA (aT (aA (aR (aB 5)) aD)) aD))) aD)) aD)))) aD)) q=some (pcD (tw2 p)):=cW (aE rfl (aE (cW (ds:=rowsD [eD,[p],[tw0 p]]) (aE orr (aE one (aE (cW (ds:=pcsD [tw0 p]) (aE grp rfl) (pcs_imm _) (Z3 rfl)) rfl))) (rows_imm _) (Z3 rfl)) rfl)) (jJ (tw2 p)) (Z3 rfl)
 have e3:aT (aA (fC (.str "either")) (aA (aT (aA (aT (aA (aR (aB 5)) (aA (aT (aA (fC (.str "stop")) (aA (f2 cP (f2 eA (aB 4) (fC (.int 8))) (fC (.int 6))) aD))) aD))) (aA (aT (aA (aR (aB 5)) aD)) aD))) aD)) q=some (pcD (tw3 p (a/8 % 6))):=cW (aE rfl (aE (cW (ds:=rowsD [[p,.leaf (.stop (a/8 % 6))],[p]]) (aE (cW (ds:=pcsD [p,.leaf (.stop (a/8 % 6))]) (aE v5 (aE st rfl)) (pcs_imm _) (Z3 rfl)) (aE one rfl)) (rows_imm _) (Z3 rfl)) rfl)) (jJ (tw3 p (a/8 % 6))) (Z3 rfl)
 have hz:(pcsD done).length<sizeLine:=by rw [lM];exact sz1 (by omega)
 have fin:∀p',cU (dO 2 bR (aA (aR (aB 5)) aD) dN) (q.set 5 (some (pcD p')))=some (.nx,[some S,some (.tup (pcsD r)),some (.lst true (pcsD (done++[p']))),some (.int (k:Int)),some (.int a),some (pcD p'),some (.bl pl)]):=fun p'=>by
  have e:aA (aR (aB 5)) aD (q.set 5 (some (pcD p')))=some [pcD p']:=aE (cB (by rw [<-hq];rfl) (jJ p')) rfl
  unfold cU dO
  rw [e,<-hq]
  show((if (pcsD done).length<sizeLine then some (D.non,D.lst true (pcsD done++[pcD p'])) else none).bind _).bind _=_
  rw [if_pos hz,qA];rfl
 have same:q.set 5 (some (pcD p))=q:=by rw [<-hq];rfl
 have out:∀{f:tz1} {p':Pc},f q=some (.nx,q.set 5 (some (pcD p')))->aV f (cU (dO 2 bR (aA (aR (aB 5)) aD) dN)) q=some (.nx,[some S,some (.tup (pcsD r)),some (.lst true (pcsD (done++[p']))),some (.int (k:Int)),some (.int a),some (pcD p'),some (.bl pl)]):=fun h=>(aK h).trans (fin _)
 have t1:=qF (te 1) tl
 have n1:∀x:Bool,(x&&decide ((k:Int)<12))=true->∀p':Pc,12<=k->p'=p:=fun x h p' hk=>by
  have:=Yo (YR.mp h).2
  omega
 have n2:∀x:Bool,(x&&(decide ((k:Int)<12)&&pl))=true->∀p':Pc,12<=k->p'=p:=fun x h p' hk=>by
  have:=Yo (YR.mp (YR.mp h).2).1
  omega
 cases c1:(decide (a % 8=1)&&decide ((k:Int)<12)) with
 |true=>
  rw [c1] at t1
  exact⟨tw0 p,_,_,_,(aK s1).trans ((aK s2).trans ((aK s3).trans (out ((bG t1).trans (bF grp))))),w1,n1 _ c1 _⟩
 | false=>
  rw [c1] at t1
  have b1:=fun f g=>dI (f:=f) (g:=g) (bZ t1)
  have t20:=t3 0
  cases c2:(decide (a % 8=0)&&(decide ((k:Int)<12)&&pl)) with
  |true=>
   rw [c2] at t20
   exact⟨tw1 p,_,_,_,(aK s1).trans ((aK s2).trans ((aK s3).trans (out ((b1 _ _).trans ((bG t20).trans (bF e1)))))),w2,n2 _ c2 _⟩
  | false=>
   rw [c2] at t20
   have b2:=fun f g=>dI (f:=f) (g:=g) (bZ t20)
   have t22:=t3 2
   cases c3:(decide (a % 8=2)&&(decide ((k:Int)<12)&&pl)) with
   |true=>
    rw [c3] at t22
    exact⟨tw2 p,_,_,_,(aK s1).trans ((aK s2).trans ((aK s3).trans (out ((b1 _ _).trans ((b2 _ _).trans ((bG t22).trans (bF e2))))))),w3,n2 _ c3 _⟩
   | false=>
    rw [c3] at t22
    have b3:=fun f g=>dI (f:=f) (g:=g) (bZ t22)
    have t23:=t3 3
    cases c4:(decide (a % 8=3)&&(decide ((k:Int)<12)&&pl)) with
    |true=>
     rw [c4] at t23
     exact⟨tw3 p (a/8 % 6),_,_,_,(aK s1).trans ((aK s2).trans ((aK s3).trans (out ((b1 _ _).trans ((b2 _ _).trans ((b3 _ _).trans ((bG t23).trans (bF e3)))))))),w4,n2 _ c4 _⟩
    |false=>
     rw [c4] at t23
     refine⟨p,_,_,_,(aK s1).trans ((aK s2).trans ((aK s3).trans (out ((b1 _ _).trans ((b2 _ _).trans ((b3 _ _).trans ((bH t23).trans ?_))))))),w0,fun _=>rfl⟩
     rw [same]
theorem yt0{n a b:Nat}{r:List Pc}{p:Pc}(h:RowOk n a r)(ho:okP p)(hd:dD p<=n)(hl:(bS p).length<=b):RowOk n (a+b) (r++[p]):=by
 refine⟨?_,?_,?_⟩
 ·rw [vW];exact⟨h.ok,ho,trivial⟩
 ·rw [zo5];have:=h.dep;show max _ (max (dD p) 0)<=n;omega
 ·rw [mG,Z2]
  have:=h.len
  show _+(bS p++[]).length<=_
  rw [Zh];omega
theorem ze3{r:List Pc}{n:Nat}(hM:MxH GM S):∀(ps pre done:List Pc) (x3 x4 x5 x6:Option D) (w:Nat),r=pre++ps->okR ps->depR ps<=n->pre.length+ps.length<=900->done.length<=pre.length->RowOk (n+2) w done->
  ∃done' q,dC 3 (zq5 GM) (eS ((pre.length:Nat):Int) ps.length) [some S,some (.tup (pcsD r)),some (.lst true (pcsD done)),x3,x4,x5,x6]=some (.nx,some S::some (.tup (pcsD r))::some (.lst true (pcsD done'))::q)/\RowOk (n+2) (w+2*(toksR ps).length+7*(12-pre.length)) done'
 |[],pre,done,x3,x4,x5,x6,w,_,_,_,_,_,hr=>⟨done,_,rfl,hr.ok,hr.dep,ZD hr.len (by omega)⟩
 | p::ps,pre,done,x3,x4,x5,x6,w,e,ho,hd,hl,hdl,hr=>by
  rw [Z4] at hl
  have hp:(pcsD r)[pre.length]? =some (pcD p):=by
   rw [e,qA,ZW (by rw [lM];exact Z9 _),lM,Nat.sub_self];rfl
  rw [depR] at hd
  obtain⟨p',y4,y5,y6,q,tw,same⟩:=yl4 (x4:=x4) (x5:=x5) (x6:=x6) (done:=done) hM (by omega) (by omega) hp ho.1
  have tl:(bS p').length<=2*(bS p).length+(7*(12-pre.length)-7*(12-(pre.length+1))):=by
   by_cases c:12<=pre.length
   ·rw [same c];omega
   ·have:=tw.len;omega
  have h2:=yt0 hr tw.ok (by have:=tw.dep;omega) tl
  obtain⟨done',z,q2,h3⟩:=ze3 (r:=r) (n:=n) hM ps (pre++[p]) (done++[p']) (some (.int (pre.length:Int))) y4 y5 y6 _ (by rw [e];simp) ho.2 (by omega) (by rw [Z2];show _+1+_<=_;omega) (by rw [Z2,Z2];show _+1<=_+1;omega) h2
  rw [Z2] at q2
  refine⟨done',z,?_,⟨h3.ok,h3.dep,ZD h3.len ?_⟩⟩
  ·rw [Z4,yE,dC]
   show((zq5 GM [some S,some (.tup (pcsD r)),some (.lst true (pcsD done)),some (.int (pre.length:Int)),x4,x5,x6]).bind _)=_
   rw [q]
   exact q2
  ·rw [toksR,Z2,Z2]
   show _+_+7*(12-(pre.length+1))<=_
   omega
theorem zo6:∀r:List Pc,r.length<=(toksR r).length
 |[]=>Z9 _
 | p::r=>by
  have h:=zo6 r
  have h1:1<=(bS p).length:=by
   cases p with
   |leaf l=>exact Z9 _
   |group q=>rw [bS,Z4];omega
   |hang m q=>rw [bS,Z4];omega
   |either qs=>rw [bS,Z4];omega
  show r.length+1<=(bS p++toksR r).length
  rw [Z2];omega
abbrev ym2(GM:tz6):tz6:=gP 2 5 (zA GM)
theorem yt1{r:List Pc}{n w:Nat}(hM:MxH GM S)(hr:RowOk n w r)(hw:w<=800):∃r',ym2 GM [S,.tup (pcsD r)]=some (.tup (pcsD r'))/\RowOk (n+2) (2*w+84) r':=by
 have hlen:=ZD (zo6 r) hr.len
 obtain⟨d',q,e,h⟩:=ze3 (GM:=GM) (S:=S) (r:=r) (n:=n) hM r [] [] none none none none 0 rfl hr.ok hr.dep (by show 0+_<=_;omega) (Z9 _) ⟨trivial,ZI _,Z9 _⟩
 have s1:aS 2 (aJ (cE aD)) [some S,some (.tup (pcsD r)),none,none,none,none,none]=some (.nx,[some S,some (.tup (pcsD r)),some (.lst true (pcsD [])),none,none,none,none]):=rfl
 have er:iA (aA (aL cM (aA (aB 1) aD)) aD) [some S,some (.tup (pcsD r)),some (.lst true (pcsD [])),none,none,none,none]=some (eS ((0:Nat):Int) r.length):=by
  unfold iA
  rw [aE (d:= .int (r.length:Int)) (aZ (aE rfl rfl) (by show some (D.int ((pcsD r).length:Int))=_;rw [lM])) (show aD _=some [] from rfl),Z7]
  exact yq3 (by omega)
 refine⟨d',hX rfl (dQ s1 (dQ (nC er e) ⟨_,bY (aZ (aE (d:= .lst true (pcsD d')) rfl rfl) (if_pos (pcs_imm d')))⟩)),h.ok,h.dep,ZD h.len ?_⟩
 have:=hr.len
 show 0+_+7*(12-0)<=_
 omega
end
theorem yP:∀C:List Int,D.datas (bD C)=some (C.map PyData.int)
 |[]=>rfl
 |c::C=>by
  show(D.data (.int c)).bind (fun p=>(D.datas (bD C)).map (p::·))=_
  rw [yP C];rfl
theorem zo7:∀C:List Int,PyData.canLayAll0 (C.map PyData.int)=true
 |[]=>rfl
 |c::C=>by show(PyData.canLay0 (.int c)&&PyData.canLayAll0 (C.map PyData.int))=true;rw [zo7 C];rfl
theorem yQ:∀C:List Int,PyData.depthAll (C.map PyData.int)=0
 |[]=>rfl
 |c::C=>by show max (PyData.depth (.int c)) (PyData.depthAll (C.map PyData.int))=0;rw [yQ C];rfl
theorem xd7(xs:List D):za3 [.tup xs,.ty "tuple"]=some (.bl true):=by simp [za3,dTy,yR]
theorem xd8(l b c:Nat):∃k:Nat,nJ [.int ((l:Int)+(b:Int)),.int (c:Int)]=some (.int (k:Int))/\k<=c:=by
 by_cases z:(c:Int)<(l:Int)+(b:Int)
 ·exact⟨c,by show some (D.int (if (c:Int)<(l:Int)+(b:Int) then(c:Int) else(l:Int)+(b:Int)))=_;rw [if_pos z],Z9 _⟩
 ·exact⟨l+b,by show some (D.int (if (c:Int)<(l:Int)+(b:Int) then(c:Int) else(l:Int)+(b:Int)))=_;rw [if_neg z];rfl,by omega⟩
section
variable{GM:tz6}{xs:List D}
abbrev yb9(GM:tz6):tz6:=gP 1 0 (ze5 GM (yw5 GM) (yu8 GM pG) (ym2 GM))
theorem xd9(hM:∀j s:Int,0<=j->j<1000->0<=s->s<1000->∃a,GM [.con xs,.int j,.int s]=some (.int a)/\0<=a):∃r,yb9 GM [.con xs]=some (.tup (pcsD r))/\RowOk 12 300 r:=by
 obtain⟨a,qa,_⟩:=hM 2 57 (by decide) (by decide) (by decide) (by decide)
 have row:∀c:Nat,c<=24->∃r,aL (yu8 GM pG) (aA (aB 0) (aA (fC (.int 0)) (aA (aL nJ (aA (f2 cA (aL cM (aA (aB 0) aD)) (fC (.int 3))) (aA (fC (.int (c:Int))) aD))) (aA (fC (.int 3)) aD)))) [some (.con xs)]=some (.tup (pcsD r))/\RowOk 3 (4*c) r:=fun c hc=>by
  obtain⟨k,hk,k1⟩:=xd8 xs.length 3 c
  obtain⟨r,qr,hr⟩:=xj6 (GM:=GM) (GL:=pG) (S:= .con xs) (nest:=3) (a:=0) (many:=k) (fun m hm=>zv4 hm) (fun j s hj hs=>hM j s (by omega) (by omega) (by omega) (by omega)) (by decide) (by omega) (by decide)
  refine⟨r,aZ (ds:=[.con xs,.int ((0:Nat):Int),.int (k:Int),.int ((3:Nat):Int)]) (aE rfl (aE rfl (aE ?_ (aE rfl rfl)))) qr,hr.ok,hr.dep,ZD hr.len (by omega)⟩
  exact aZ (aE (aN (aZ (aE rfl rfl) rfl) rfl rfl) (aE rfl rfl)) hk
 have t:fB (f2 dEq (f2 cP (aL GM (aA (aB 0) (aA (fC (.int 2)) (aA (fC (.int 57)) aD)))) (fC (.int 4))) (fC (.int 1))) [some (.con xs)]=some (decide (a % 4=1)):=dJ (aN (aN (aZ (aE rfl (aE rfl (aE rfl rfl))) qa) rfl ((eP _ _).trans (if_pos (by decide)))) rfl rfl)
 by_cases z:a % 4=1
 ·rw [Zl z] at t
  obtain⟨r,qr,hr⟩:=row 12 (by decide)
  obtain⟨r',q,h⟩:=yb1 (GM:=GM) (S:= .con xs) hM hr
  exact⟨r',hX rfl (sC ⟨_,(bG t).trans (bY (aZ (aE rfl (aE qr rfl)) q))⟩),h.ok,h.dep,ZD h.len (by decide)⟩
 ·rw [Zc z] at t
  obtain⟨r,qr,hr⟩:=row 24 (by decide)
  obtain⟨r',q,h⟩:=yt1 (GM:=GM) (S:= .con xs) hM hr (by decide)
  exact⟨r',hX rfl (dQ (bH t) ⟨_,bY (aZ (aE rfl (aE qr rfl)) q)⟩),h.ok,ZD h.dep (by decide),ZD h.len (by decide)⟩
end
theorem zv5{i:Nat}{f:tz1}{P:PSt->Prop}:∀(ds:List D) (p:PSt),P p->(∀d∈ds,∀p,P p->∃p',f (p.set i (some d))=some (.nx,p')/\P p')->∃p',dC i f ds p=some (.nx,p')/\P p'
 |[],p,hp,_=>⟨p,rfl,hp⟩
 |d::ds,p,hp,h=>by
  obtain⟨p1,e1,h1⟩:=h d Z0 p hp
  obtain⟨p2,e2,h2⟩:=zv5 (i:=i) (f:=f) ds p1 h1 fun d' hd=>h d' (Z1 _ hd)
  refine⟨p2,?_,h2⟩
  rw [dC,e1]
  exact e2
theorem zo8:∀A B:List Int,PyData.eqvAll (A.map PyData.int) (B.map PyData.int)=decide (A=B)
 |[],[]=>rfl
 |[],_::_=>rfl
 |_::_,[]=>rfl
 |a::A,b::B=>by
  show(PyData.eqv (.int a) (.int b)&&PyData.eqvAll (A.map PyData.int) (B.map PyData.int))=_
  rw [zo8 A B]
  show((a==b)&&decide (A=B))=_
  rw [Yh]
  simp
theorem yt2(A B:List Int):eqB (.tup (bD A)) (.tup (bD B))=some (decide (A=B)):=by
 have e:∀c:List Int,D.data (.tup (bD c))=some (.tuple (c.map PyData.int)):=fun c=>by rw [D.data,yP];rfl
 have c1:∀c:List Int,PyData.canLay0 (.tuple (c.map PyData.int))=true:=zo7
 have d:PyData.depth (.tuple (A.map PyData.int))<=60:=by
  show PyData.depthAll (A.map PyData.int)+1<=60
  rw [yQ];decide
 have q:PyData.eqv (.tuple (A.map PyData.int)) (.tuple (B.map PyData.int))=decide (A=B):=zo8 A B
 show vD (.tup (bD A)) (.tup (bD B))=_
 unfold vD
 rw [e,e]
 show(if (PyData.canLay0 _&&PyData.canLay0 _&&decide (PyData.depth _<=60))=true then some (PyData.eqv _ _) else none)=_
 rw [c1,c1,Zl d,q];rfl
def nbh:List Int->List Int->Bool
 |x::a,y::b=>if x=y then nbh a b else decide (x<y)
 |_,_=>false
theorem zv6:∀{a b:List Int},zh8 a b->HT.lexLt b a=false->a=b\/nbh a b=true
 |[],[],_,_=> .inl rfl
 |[],y::b,h,_=>by have:=h.1 (y::b) rfl;cases this
 |x::a,[],h,_=>by have:=h.2 (x::a) rfl;cases this
 | x::a,y::b,h,e=>by
  have e':(if y=x then HT.lexLt b a else decide (y<x))=false:=e
  show _\/(if x=y then nbh a b else decide (x<y))=true
  by_cases c:x=y
  ·subst c
   rw [if_pos rfl] at e'|-
   rcases zv6 (a:=a) (b:=b) ⟨fun z hz=>h.1 z (by rw [hz];rfl),fun z hz=>h.2 z (by rw [hz];rfl)⟩ e' with z|z
   ·exact .inl (by rw [z])
   ·exact .inr z
  ·rw [if_neg c]
   rw [if_neg (fun z=>c z.symm)] at e'
   have:=YA e'
   exact .inr (Zl (by omega))
def sL:tz1:=fIf (aX (fB (f2 dNe (f2 dIx (aB 0) (aB 2)) (f2 dIx (aB 1) (aB 2))))) (cI (aJ (f2 dLt (f2 dIx (aB 0) (aB 2)) (f2 dIx (aB 1) (aB 2))))) cF
theorem zv7:∀(a b p q:List Int) (x2:Option D),p.length=q.length->nbh a b=true->∃z,dC 2 sL (eS (p.length:Int) (min a.length b.length)) [some (.tup (bD (p++a))),some (.tup (bD (q++b))),x2]=some (.ret (.bl true),z)
 |[],b,p,q,x2,_,h=>by rw [nbh] at h;cases h;simp
 |x::a,[],p,q,x2,_,h=>by rw [nbh] at h;cases h;simp
 | x::a,y::b,p,q,x2,hl,h=>by
  have h':(if x=y then nbh a b else decide (x<y))=true:=h
  have g:∀(u v:List Int) (i:Int),(bD (u++i::v))[u.length]? =some (.int i):=fun u v i=>by
   unfold bD
   rw [Zi,ZW (Z9 _),Nat.sub_self];rfl
  have i0:f2 dIx (aB 0) (aB 2) [some (.tup (bD (p++x::a))),some (.tup (bD (q++y::b))),some (.int (p.length:Int))]=some (.int x):=aN (x:= .tup (bD (p++x::a))) rfl rfl (lP (g p a x))
  have i1:f2 dIx (aB 1) (aB 2) [some (.tup (bD (p++x::a))),some (.tup (bD (q++y::b))),some (.int (p.length:Int))]=some (.int y):=aN (x:= .tup (bD (q++y::b))) rfl rfl (lP (by rw [hl];exact g q b y))
  have t:fB (f2 dNe (f2 dIx (aB 0) (aB 2)) (f2 dIx (aB 1) (aB 2))) [some (.tup (bD (p++x::a))),some (.tup (bD (q++y::b))),some (.int (p.length:Int))]=some (!decide (x=y)):=dJ (aN i0 i1 rfl)
  rw [show min (x::a).length (y::b).length=min a.length b.length+1 by simp only [Z4];omega,yE]
  by_cases c:x=y
  ·rw [if_pos c] at h'
   rw [Zl c] at t
   obtain⟨z,e⟩:=zv7 a b (p++[x]) (q++[y]) (some (.int (p.length:Int))) (by rw [Z2,Z2,hl];rfl) h'
   rw [Ze,Ze,Z2] at e
   refine⟨z,?_⟩
   rw [dC]
   show((sL [some (.tup (bD (p++x::a))),some (.tup (bD (q++y::b))),some (.int (p.length:Int))]).bind _)=_
   rw [show sL [some (.tup (bD (p++x::a))),some (.tup (bD (q++y::b))),some (.int (p.length:Int))]=some (.nx,[some (.tup (bD (p++x::a))),some (.tup (bD (q++y::b))),some (.int (p.length:Int))]) from bH t]
   exact e
  ·rw [if_neg c] at h'
   rw [Zc c] at t
   refine⟨[some (.tup (bD (p++x::a))),some (.tup (bD (q++y::b))),some (.int (p.length:Int))],?_⟩
   rw [dC]
   show((sL [some (.tup (bD (p++x::a))),some (.tup (bD (q++y::b))),some (.int (p.length:Int))]).bind _)=_
   rw [show sL [some (.tup (bD (p++x::a))),some (.tup (bD (q++y::b))),some (.int (p.length:Int))]=some (.ret (.bl true),[some (.tup (bD (p++x::a))),some (.tup (bD (q++y::b))),some (.int (p.length:Int))]) from(bG t).trans (bY (aN i0 i1 (by
    show some (D.bl (decide (x<y)))=_
    rw [h'])))];rfl
abbrev yc0:tz6:=gP 2 1 rH
theorem xe0{a b:List Int}(ha:a.length<=900)(h:a=b\/nbh a b=true):yc0 [.tup (bD a),.tup (bD b)]=some (.bl true):=by
 have t:fB (f2 dEq (aB 0) (aB 1)) [some (.tup (bD a)),some (.tup (bD b)),none]=some (decide (a=b)):=dJ (aN rfl rfl (by unfold dEq;rw [yt2];rfl))
 by_cases c:a=b
 ·rw [Zl c] at t
  exact hX rfl (sC ⟨_,(bG t).trans (bY rfl)⟩)
 ·rw [Zc c] at t
  have hn:nbh a b=true:=h.resolve_left c
  obtain⟨z,e⟩:=zv7 a b [] [] none rfl hn
  have er:iA (aA (aL nJ (aA (aL cM (aA (aB 0) aD)) (aA (aL cM (aA (aB 1) aD)) aD))) aD) [some (.tup (bD a)),some (.tup (bD b)),none]=some (eS ((0:Nat):Int) (min a.length b.length)):=by
   have l1:aL cM (aA (aB 0) aD) [some (.tup (bD a)),some (.tup (bD b)),none]=some (.int (a.length:Int)):=aZ (aE rfl rfl) (by show some (D.int ((bD a).length:Int))=_;rw [nU])
   have l2:aL cM (aA (aB 1) aD) [some (.tup (bD a)),some (.tup (bD b)),none]=some (.int (b.length:Int)):=aZ (aE rfl rfl) (by show some (D.int ((bD b).length:Int))=_;rw [nU])
   have mn:nJ [.int (a.length:Int),.int (b.length:Int)]=some (.int ((min a.length b.length:Nat):Int)):=by
    show some (D.int (if (b.length:Int)<(a.length:Int) then(b.length:Int) else(a.length:Int)))=_
    by_cases z:(b.length:Int)<(a.length:Int)
    ·rw [if_pos z,Nat.min_eq_right (by omega)]
    ·rw [if_neg z,Nat.min_eq_left (by omega)]
   unfold iA
   rw [aE (aZ (aE l1 (aE l2 rfl)) mn) (show aD _=some [] from rfl),Z7]
   exact yq3 (by omega)
  have s:fS 2 (iA (aA (aL nJ (aA (aL cM (aA (aB 0) aD)) (aA (aL cM (aA (aB 1) aD)) aD))) aD)) sL [some (.tup (bD a)),some (.tup (bD b)),none]=some (.ret (.bl true),z):=by
   unfold fS
   rw [er]
   exact e
  exact hX rfl (dQ (bH t) (sC ⟨z,s⟩))
section
variable{GM GC:tz6}{xs:List D}
abbrev xm3(k n:Nat)(GM GC:tz6):tz6:=gP 1 4 (ym0 (yb9 GM) (wI (pN GC GM) k) (zi0 n) yc0)
theorem yl5{r:List Pc}:lO (fun cs t=>setR true 0 r cs ⟨#[]⟩=some ([],t)):=fun c x t t' h1 h2=>by
 have h3:setR true 0 r (c++x) ⟨#[]⟩=some ([],t'):=h2
 rw [setR_more x (show setR true 0 r c ⟨#[]⟩=some ([],t) from h1),ZV] at h3
 cases h3
 exact⟨rfl,rfl⟩
theorem yb2{k n:Nat}(hk:12<k)(hn:12<n)(hS:D.imms xs=true)(hM:∀j s:Int,0<=j->j<1000->0<=s->s<1000->∃a,GM [.con xs,.int j,.int s]=some (.int a)/\0<=a)(hC:∀j:Int,0<=j->j<1000->∃a,GC [.con xs,.int j]=some (.int a)):xm3 k n GM GC [.con xs]=some (.bl true):=by
 obtain⟨r,qr,hr⟩:=xd9 (GM:=GM) (xs:=xs) hM
 have hdp:=hr.dep
 have h16:depR r<=16:=by omega
 have l8:(toksR r).length<=800:=ZD hr.len (by decide)
 have s1:aS 1 (aJ (aL (yb9 GM) (aA (aB 0) aD))) [some (.con xs),none,none,none,none]=some (.nx,[some (.con xs),some (.tup (pcsD r)),none,none,none]):=bF (aZ (aE rfl rfl) qr)
 obtain⟨p',e,x2,x3,x4,rfl⟩:=zv5 (i:=2) (f:=aV (aS 3 (aJ (aL (wI (pN GC GM) k) (aA (aB 0) (aA (aB 1) (aA (f2 cA (fC (.int 1)) (f2 gO (fC (.int 50)) (aB 2))) aD))))))
  (aV (aS 4 (aJ (aL (zi0 n) (aA (aB 1) (aA (f2 dIx (aB 3) (fC (.int 0))) aD)))))
  (fIf (aX (nE (jC (fT (aL za3 (aA (aB 4) (aA (fC (.ty "tuple")) aD))))) (jC (fT (aL yc0 (aA (aB 4) (aA (f2 dIx (aB 3) (fC (.int 1))) aD)))))))
   (cI (aJ (fC (.bl false))))
   cF))) (P:=fun p=>∃x2 x3 x4,p=[some (.con xs),some (.tup (pcsD r)),x2,x3,x4]) (eS 0 4) [some (.con xs),some (.tup (pcsD r)),none,none,none] ⟨_,_,_,rfl⟩ (fun d hd p ⟨x2,x3,x4,hp⟩=>by
  subst hp
  unfold eS at hd
  obtain⟨j,hj,rfl⟩:=Yg.mp hd
  have hj':=Yx.mp hj
  obtain⟨C,t,qd,hs,cl,tl⟩:=yk5 (GH:=pN GC GM) (S:= .con xs) (n:=k) (r:=r) (salt:=1+50*(0+(j:Int))) hS (xo2 hM hC) (by omega) h16 hr.ok l8 (by omega) (by omega)
  obtain⟨y,ey,ly⟩:=yl3 (W:=t) (n:=n) (by omega) h16 hr.ok hs
  have qb:=xd5 (W:=t) (n:=n) tl (by omega) h16 hr.ok l8
  rw [ey] at qb
  have hy:=yl2 (W:=t) (n:=n) (by omega) h16 hr.ok ey
  have yl:y.2.length<=900:=by
   have:=setR_len hy
   rw [ZR] at this
   omega
  have nq:=xe0 yl (zv6 (yl5.apart hy hs) ly)
  have m:f2 gO (fC (.int 50)) (aB 2) [some (.con xs),some (.tup (pcsD r)),some (.int (0+(j:Int))),x3,x4]=some (.int (50*(0+(j:Int)))):=aN rfl rfl (by
   show(if L2.nW 50 (0+(j:Int))=true then some (D.int (50*(0+(j:Int)))) else none)=_
   rw [if_pos (by unfold L2.nW;simp)])
  have a1:aS 3 (aJ (aL (wI (pN GC GM) k) (aA (aB 0) (aA (aB 1) (aA (f2 cA (fC (.int 1)) (f2 gO (fC (.int 50)) (aB 2))) aD))))) [some (.con xs),some (.tup (pcsD r)),some (.int (0+(j:Int))),x3,x4]=some (.nx,[some (.con xs),some (.tup (pcsD r)),some (.int (0+(j:Int))),some (.tup [.str t,.tup (bD C)]),x4]):=bF (aZ (aE rfl (aE rfl (aE (aN rfl m rfl) rfl))) qd)
  have i0:∀x4,f2 dIx (aB 3) (fC (.int 0)) [some (.con xs),some (.tup (pcsD r)),some (.int (0+(j:Int))),some (.tup [.str t,.tup (bD C)]),x4]=some (.str t):=fun _=>aN (x:= .tup [.str t,.tup (bD C)]) rfl rfl (lN _ _)
  have i1:∀x4,f2 dIx (aB 3) (fC (.int 1)) [some (.con xs),some (.tup (pcsD r)),some (.int (0+(j:Int))),some (.tup [.str t,.tup (bD C)]),x4]=some (.tup (bD C)):=fun _=>aN (x:= .tup [.str t,.tup (bD C)]) rfl rfl (fJ _ _ _)
  have a2:aS 4 (aJ (aL (zi0 n) (aA (aB 1) (aA (f2 dIx (aB 3) (fC (.int 0))) aD)))) [some (.con xs),some (.tup (pcsD r)),some (.int (0+(j:Int))),some (.tup [.str t,.tup (bD C)]),x4]=some (.nx,[some (.con xs),some (.tup (pcsD r)),some (.int (0+(j:Int))),some (.tup [.str t,.tup (bD C)]),some (.tup (bD y.2))]):=bF (aZ (aE rfl (aE (i0 _) rfl)) qb)
  exact⟨_,(aK a1).trans ((aK a2).trans (bH (mJ (gY (b:=true) (jA (aZ (ds:=[.tup (bD y.2),.ty "tuple"]) (aE rfl (aE rfl rfl)) (xd7 _)))) (gY (b:=true) (jA (aZ (aE rfl (aE (i1 _) rfl)) nq)))))),_,_,_,rfl⟩)
 exact hX rfl (dQ s1 (dQ (nC (ds:=eS 0 4) rfl e) ⟨_,bY rfl⟩))
end
end My
namespace My
open PySem PySem.Spec PyProof.Rows L2 L3
variable{P:Program}{w:World}{K:tz0}{mg:tzA}{base:Heap}{U:tz9}
abbrev vN:List D->Option (List Int):=D.ints
theorem tJ:∀ns:List Int,vN (ns.map .int)=some ns
 |[]=>rfl
 |n::ns=>by show(D.ints (ns.map .int)).map (n::·)=_;rw [show D.ints (ns.map .int)=some ns from tJ ns];rfl
def yc1:tz6
 |[.con xs,.int k,.int s]=>match vN xs with
  |some ns=>if ns.length<=63/\(0<=k/\k<1000000)/\(0<=s/\s<1000000) then some (.int (tR ns k s)) else none
  |none=>none
 |_=>none
theorem yt3{ns:List Int}(h:ns.length<=63)(k s:Int)(hk:0<=k)(hk1:k<1000)(hs:0<=s)(hs1:s<1000):∃m,yc1 [.con (ns.map .int),.int k,.int s]=some (.int m)/\0<=m:=by
 refine⟨tR ns k s,?_,(zr2 ns k s).1⟩
 show(match vN (ns.map .int) with|some ns=>if ns.length<=63/\(0<=k/\k<1000000)/\(0<=s/\s<1000000) then some (D.int (tR ns k s)) else none|none=>none)=_
 rw [tJ]
 exact if_pos ⟨h,⟨hk,by omega⟩,hs,by omega⟩
theorem xq5{k:Nat}{f:Addr}{fd:FuncData}{ps:List Str}(F:FnOk P w K mg base CX0 k f fd ps (zv8 K)):FnOk P w K mg base CX0 k f fd ps (SpP 3 K U yc1):=by
 refine F.imp fun vs H Q E ⟨_,ds,fp,d,r,e,q⟩=> ?_
 unfold yc1 at e
 split at e
 ·rename_i xs k s
  split at e
  ·rename_i ns hns
   obtain⟨hc,e⟩:=bL e
   cases e
   obtain⟨v1,us,f,g,rfl,r1,r2,rfl⟩:=r.split
   obtain⟨v2,us2,f2,g2,rfl,r3,r4,rfl⟩:=r2.split
   obtain⟨v3,rfl,r5⟩:=r4.one_inv
   rw [r3.is_int,r5.is_int]
   obtain⟨a,vs,rfl,hS,hs⟩:=r1.con_inv
   rw [vT hs hns] at hS
   exact⟨a,ns,k,s,rfl,hS.l,hc.1,hc.2.1,hc.2.2,q _ H [] (SameK.refl H) (fun _ ha=>absurd ha (by simp)) Zf (.int _)⟩
  ·cases e
 ·cases e
def zi1(K:tz0):Sp:=fun vs H Q _=>∃(a:Addr) (ns:List Int),vs=[.ref a]/\SqF K H a (ns.map V.int)/\ns.length<=63/\∀H',Q (.bl true) H'
theorem ze4{H:Hp}:∀ns:List Int,Reps K U H (ns.map V.int) (ns.map .int) []
 |[]=> .nil
 |n::ns=> .cons (f:=[]) (g:=[]) (.int n) (ze4 ns)
theorem xq6{k:Nat}{f:Addr}{fd:FuncData}{ps:List Str}{g:tz6}(F:FnOk P w K mg base CX0 k f fd ps (SpP 1 K U g))(h:∀ns:List Int,ns.length<=63->g [.con (ns.map .int)]=some (.bl true)):FnOk P w K mg base CX0 k f fd ps (zi1 K):=
 F.imp fun vs H Q E ⟨a,ns,e,hS,hl,q⟩=>e▸⟨rfl,[.con (ns.map .int)],[],.bl true,.cons (f:=[]) (g:=[]) (.con hS (ze4 ns)) .nil,h ns hl,fun v H' fv _ _ _ r=>by cases r;exact q H'⟩
def Cur:Nat->(List Value->Prop)->Prop
 |0,P=>P []
 |n+1,P=>∀a,Cur n fun us=>P (a::us)
theorem za0{n:Nat}:∀{P:List Value->Prop},Cur n P->∀us:List Value,us.length=n->P us:=by
 induction n with
 |zero=>intro P h us hl;cases Xa hl;exact h
 |succ n ih=>
  intro P h us hl
  cases us with
  |nil=>cases hl
  |cons a us=>exact ih (h a) us (Nat.succ.inj hl)
structure FzT(K:tz0)(x:Str)(st:Stmt)(f:Addr)(fd:FuncData):Prop where
 a:PySem.W.nsIn K mainGlobals x=some (some (.ref f))
 F:Fun K x x st f fd
structure MzT(K:tz0)(C:Addr)(m q:Str)(st:Stmt)(f:Addr)(fd:FuncData):Prop where
 i:PySem.W.findIn K (.ref C) m=some (some (.ref f))
 s:PySem.W.isFn K (.ref f)=true
 F:Fun K m q st f fd
structure CzT(K:tz0)(x:Str)(C:Addr):Prop where
 a:PySem.W.nsIn K mainGlobals x=some (some (.ref C))
 g:PySem.W.plainGet K C Str.empty=true
 d:PySem.W.hasDictIn K C=true
 o:PySem.W.plainOver K C=true
 s:PySem.W.findIn K (.ref C) "__setattr__"=some (some (.builtin "object.__setattr__"))
 m:PySem.W.makesIn K C=true
 k:PySem.W.keepIn K (.ref C)=true
abbrev BiT(x q:Str)(st:Stmt)(ps:List Str):Prop:=∀(kV doc pm:Value) (an:Option Addr) (cdv ct:Value) (us:List Value),us.length=ps.length->bindArgs (PySem.W.fnOf x q (sE st) (lU st) (bA st) .none kV doc pm an cdv ct) ⟨us,[]⟩=pure (ps.zip us)
theorem eU{N ps:List Str}{h:Heap}{x:Str}{st:Stmt}{f:Addr}{fd:FuncData}(_:FnScope N ps (bA st))(X:K.In h)(G:h.Ns mainGlobals mg)(a:FzT K x st f fd)(hb:BiT x x st ps:=by exact fun _ _ _ _ _ _=>za0 (by(repeat intro _);exact rfl)):Dn K mg x st ps f fd:=
 ⟨a.F,a.F.binds hb,YZ X G a.a⟩
theorem zg2{x:Str}{C:Addr}(e:U x=C)(c:CzT K x C):Cls K (U x):=by rw [e];exact⟨c.g,c.d,c.o,c.s⟩
theorem zo9{x y:Str}{C:Addr}(e:U x=C)(h:PySem.W.findIn K (.ref C) y=some none):cY K (U x) y:=by rw [e];exact h
theorem yt4{N ps:List Str}{x m q:Str}{C:Addr}{st:Stmt}{f:Addr}{fd:FuncData}(_:FnScope N ps (bA st))(e:U x=C)(c:CzT K x C)(a:MzT K C m q st f fd)(hb:BiT m q st ps:=by exact fun _ _ _ _ _ _=>za0 (by(repeat intro _);exact rfl)):Mn K U x m q st ps f fd:=
 ⟨a.F,a.F.binds hb,zg2 e c,by rw [e];exact⟨a.i,a.s,a.F.kp⟩⟩
theorem yt5{N ps:List Str}{h:Heap}{x q:Str}{C:Addr}{st:Stmt}{f:Addr}{fd:FuncData}(_:FnScope N ps (bA st))(X:K.In h)(G:h.Ns mainGlobals mg)(e:U x=C)(c:CzT K x C)(a:MzT K C "__init__" q st f fd)(hb:BiT "__init__" q st ps:=by exact fun _ _ _ _ _ _=>za0 (by(repeat intro _);exact rfl)):Kn K mg U x q st ps f fd:=
 ⟨a.F,a.F.binds hb,by rw [e];exact⟨c.m,a.i,a.s,c.k⟩,by rw [e];exact YZ X G c.a⟩
theorem _root_.L2.FnOk.up{CX:CXT}{k k':Nat}{f:Addr}{fd:FuncData}{ps:List Str}{sp:Sp}(h:FnOk P w K mg base CX k f fd ps sp)(hk:k<=k':=by decide):FnOk P w K mg base CX k' f fd ps sp:=h.mono hk
theorem xq7{l:PySem.W.OpenLaw}{q:Program}{loose:List Str}{XP:(tzA)->Heap->Prop}{YP:World->Heap->Prop}{d:DefRec}{K:Params->tz0}{lev:Nat}(hn:l.most=some 63)(hdf:d.params.defaults=[])(hr:Room lev callerA)
  (hY:∀(w:World) (h:Heap),YP w h->(K w.params).In h)
  (F:∀(w:World) (mg:tzA) (fa:Addr) (h:Heap),(K w.params).In h->h.Ns mainGlobals mg->mg d.name=some (.ref fa)->
   ∃fd:FuncData,(∀(s:Shared) (u:Value),BindsTo s fd ⟨[u],[]⟩ [("_law_script",u)])/\∀base:Heap,(K w.params).In base->base.Ns mainGlobals mg->FnOk l.prog w (K w.params) mg base CX0 lev fa fd ["_law_script"] (zi1 (K w.params))):
  PySem.W.WalkO q loose XP YP l.row.toRowW d [] (fun f vs=>PySem.call f vs):=
 L2.yx8 (n:=63) (k:=lev) (x:="_law_script") (CX:=fun _=>CX0) (sp:=fun w=>zi1 (K w.params)) hn (by decide) hdf hr hY F (fun _ H a ns hl hO hS=>⟨a,ns,rfl,by
  rcases hS with (h|h)|h
  ·rcases hO a with z|⟨o,xs,z⟩<;>rw [h] at z<;>cases z
  ·exact .inl h
  ·exact .inr h,hl,fun _=>rfl⟩) fun _ _ _ _ _ z=>z
end My
namespace My
open PySem PySem.Spec PyProof.Rows L2 L3
variable{P:Program}{w:World}{K:tz0}{mg:tzA}{base:Heap}{U:tz9}
def zi2:tz6
 |[.con xs,.int k]=>match vN xs with
  |some ns=>some (.int (nX ns k))
  |none=>none
 |_=>none
theorem yl6(ns:List Int)(k:Int):zi2 [.con (ns.map .int),.int k]=some (.int (nX ns k)):=by
 show(match vN (ns.map .int) with|some ns=>some (D.int (nX ns k))|none=>none)=_
 rw [tJ]
theorem xo4{k:Nat}{f:Addr}{fd:FuncData}{ps:List Str}(F:FnOk P w K mg base CX0 k f fd ps (zp7 K)):FnOk P w K mg base CX0 k f fd ps (SpP 2 K U zi2):=by
 refine F.imp fun vs H Q E ⟨_,ds,fp,d,r,e,q⟩=> ?_
 unfold zi2 at e
 split at e
 ·rename_i xs k
  split at e
  ·rename_i ns hns
   cases e
   obtain⟨v1,us,f,g,rfl,r1,r2,rfl⟩:=r.split
   obtain⟨v3,rfl,r5⟩:=r2.one_inv
   rw [r5.is_int]
   obtain⟨a,vs,rfl,hS,hs⟩:=r1.con_inv
   rw [vT hs hns] at hS
   exact⟨a,ns,k,rfl,hS.l,q _ H [] (SameK.refl H) (fun _ ha=>absurd ha (by simp)) Zf (.int _)⟩
  ·cases e
 ·cases e
end My
namespace My
open PySem PySem.Spec PyProof.Rows L2 L3
theorem xj8{l:PySem.W.OpenLaw}{w:World}{K:tz0}{h:Heap}{mg:tzA}{fa:Addr}(X:K.In h)(G:h.Ns mainGlobals mg)(hfa:mg "law"=some (.ref fa))
  (kc:FzT K "first_place" jF g9 gv)
  (kl:FzT K "holds_rows" jO ir g8)
  (jx:FzT K "takes_choice" iM gq gd)
  (mh:FzT K "ways" nY lh kx)
  (lb:FzT K "new_line" lE jf ja)
  (lq:FzT K "writing" mT j5 jo)
  (kr:FzT K "ends_line" kR jb iq)
  (jp:FzT K "column_behind" iE gj f9)
  (ke:FzT K "with_choice" jG g6 gs)
  (jy:FzT K "behind_plain" iN gu gf)
  (jq:FzT K "behind_holder" iF ge f7)
  (km:FzT K "behind_row" st_p_behind_row cm cj)
  (jr:FzT K "behind_pieces" iG gi f8)
  (lc:FzT K "lines_of" lF jg jc)
  (ko:FzT K "choices_of" jP iu ib)
  (lr:FzT K "_law_cell_at" kA j0 jh)
  (l6:FzT K "_law_mixed" iC bo bc)
  (mi:FzT K "_law_word" rE lj ky)
  (mj:FzT K "_law_leaf" oE i5 ia)
  (mm:FzT K "_law_shut" rF ll kz)
  (mw:FzT K "_law_row" tT l3 lm)
  (l0:FzT K "_law_choose" nN kg j3)
  (l7:FzT K "_law_inner" pD k7 kh)
  (mx:FzT K "_law_set" st_l_set jt i6)
  (l9:FzT K "_law_drawn" pE la kj)
  (ma:FzT K "_law_twins" pF k8 ki)
  (ls:FzT K "_law_wrapped" mY j4 jk)
  (mo:FzT K "_law_some" rG lp k9)
  (kq:FzT K "_law_not_behind" jQ iw ic)
  (lu:FzT K "law" zq0 nu m8)
  (z0:PySem.W.nsIn K mainGlobals "len"=some none)
  (z1:PySem.W.nsIn K mainGlobals "enumerate"=some none)
  (z2:PySem.W.nsIn K mainGlobals "max"=some none)
  (z3:PySem.W.nsIn K mainGlobals "range"=some none)
  (z4:PySem.W.nsIn K mainGlobals "tuple"=some none)
  (z5:PySem.W.nsIn K mainGlobals "min"=some none)
  (z6:PySem.W.nsIn K mainGlobals "isinstance"=some none)
  (g0:PySem.W.nsIn K mainGlobals "HOLDERS"=some (some (.ref fm)))
  (me:K.lookup fm=some ⟨.type "tuple",m9,.seq #[.str "group" na,.str "hang" ng,.str "either" nh] nj,nk⟩)
  (lx:CzT K "Place" iy)
  (lf:MzT K iy "__init__" "Place.__init__" st_Place_init dk c6)
  (mq:PySem.W.findIn K (.ref iy) "broken"=some none)
  (mr:PySem.W.findIn K (.ref iy) "margin"=some none)
  (i8:CzT K "Front" fj)
  (lg:MzT K fj "__init__" "Front.__init__" st_Front_init be a0)
  (lz:MzT K fj "add" "Front.add" st_Front_add bn bf)
  (kf:MzT K fj "add_all" "Front.add_all" st_Front_add_all g7 gt)
  (my:PySem.W.findIn K (.ref fj) "steps"=some none)
  (mz:PySem.W.findIn K (.ref fj) "best"=some none)
  (g5:CzT K "AlongText" c5)
  (jz:MzT K c5 "__init__" "AlongText.__init__" st_AlongText_init gx gh)
  (gm:MzT K c5 "state_behind" "AlongText.state_behind" st_AlongText_state_behind ck ci)
  (m6:PySem.W.findIn K (.ref c5) "text"=some none)
  :∃fd:FuncData,(∀(s:Shared) (v:Value),BindsTo s fd ⟨[v],[]⟩ [("_law_script",v)])/\∀base:Heap,K.In base->base.Ns mainGlobals mg->FnOk l.prog w K mg base CX0 46 fa fd ["_law_script"] (zi1 K):=by
 have e:=hfa.symm.trans (YZ X G lu.a)
 cases e
 have bg:=eU pY X G kc
 have bp:=eU qS X G kl
 have a6:=eU oR X G jx
 have ee:=eU qT X G mh
 have bw:=eU tY X G lb
 have cc:=eU pZ X G lq
 have b0:=eU rW X G kr
 have ax:=eU nS X G jp
 have bh:=eU gN X G ke
 have a9:=eU fE X G jy
 have ay:=eU dU X G jq
 have ar:=eU gC X G km
 have az:=eU nT X G jr
 have b7:=eU tZ X G lc
 have bq:=eU hV X G ko
 have b5:=eU uN X G lr
 have ai:=eU iZ X G l6
 have en:=eU iU X G mi
 have b9:=eU uR X G mj
 have de:=eU fP X G mm
 have eo:=eU jV X G mw
 have ca:=eU gL X G l0
 have dg:=eU mH X G l7
 have b4:=eU sS X G mx
 have di:=eU oX X G l9
 have dj:=eU eZ X G ma
 have cg:=eU fA X G ls
 have eu:=eU zd0 X G mo
 have bu:=eU mI X G kq
 have l5:=eU rX X G lu
 obtain⟨U,hU⟩:∃U,U=(kap [("Place",iy),("Front",fj),("AlongText",c5)]):=⟨_,rfl⟩
 have i9:U "Place"=iy:=by rw [hU];simp [kap,gD]
 have ao:=zg2 i9 lx
 have cb:=yt5 uA X G i9 lx lf
 have au:=zo9 i9 mq
 have bj:=zo9 i9 mr
 have fk:U "Front"=fj:=by rw [hU];simp [kap,gD]
 have ac:=zg2 fk i8
 have a7:=yt5 uB X G fk i8 lg
 have ah:=yt4 uS fk i8 lz
 have bi:=yt4 lL fk i8 kf
 have a8:=zo9 fk my
 have aj:=zo9 fk mz
 have d9:U "AlongText"=c5:=by rw [hU];simp [kap,gD]
 have b8:=zg2 d9 g5
 have ce:=yt5 oS X G d9 g5 jz
 have ak:=yt4 gJ d9 g5 gm
 have gn:=zo9 d9 m6
 have aa:=ZX X G z0
 have ie:=ZX X G z1
 have l4:=ZX X G z2
 have av:=ZX X G z3
 have aw:=ZX X G z4
 have i7:=ZX X G z5
 have gz:=ZX X G z6
 have jd:=YZ X G g0
 have je:∀H,Rep K U H (.ref fm) (.tup [(.str "group"),(.str "hang"),(.str "either")]) []:=fun H=>yo9 (ys:=[("group",_),("hang",_),("either",_)]) me (Z3 rfl) H
 obtain⟨oc,od,kV,doc,pm,an,cdv,ct,osl,el,_,_⟩:=lu.F.ex
 refine⟨m8,fun s v=>by rw [el];exact .of_eq rfl,fun base KB _=> ?_⟩
 have H1:=zl6 (P:=l.prog) (w:=w) (base:=base) (n:=0) b5 aa
 have H2:=zz0 (n:=1) ai b5 H1 aa l4
 have al:=xq5 (U:=U) H2
 have cw:=xo4 (U:=U) H1
 have j9:=yh8 (P:=l.prog) (w:=w) (base:=base) (U:=U) (n:=0) en av
 have et:=yh9 (n:=1) b9 en j9.up
 have ij:=zl8 (n:=2) cg ai al.up b9 et.up av
 have i4:=yi0 (P:=l.prog) (w:=w) (base:=base) (U:=U) (n:=0) de aw aa
 have jv:=yq1 (n:=2) eo ai al.up de i4.up b9 et.up av aw aa
 have jl:=zz3 (n:=2) dj ai al.up av aw aa
 have kb:=yi1 (n:=3) eu ai al.up cg ij.up eo jv.up dj jl.up i7 aa
 have gl:=zr3 (n:=2) ca b5 cw.up ai al.up aa
 have m7:∀n,FnOk l.prog w K mg base CX0 (2*n+3) _ _ ["_law_script","_law_row_here","_law_flat","_law_hang","_law_state"] (SpE 5 K U (bX [false,false,false,false,true]) (nP (pN zi2 yc1) n)):=fun n=>by
  induction n with
  |zero=>exact FnOk.noneE (ps:=["_law_script","_law_row_here","_law_flat","_law_hang","_law_state"])
  |succ n ih=>exact yq2 (n:=2*n+4) b4 dg (zz1 (n:=2*n+3) dg b4 ih ca (gl.mono (by omega)) aa) aa
 have dh:=m7 13
 have jn:=zz2 (n:=29) di b4 dh.up aw
 have am:=zf1 (P:=l.prog) (w:=w) (base:=base) (U:=U) (n:=0) a7 ac a8 aj
 have dc:=wL (P:=l.prog) (w:=w) (base:=base) (U:=U) (n:=0) ce b8 gn
 have aq:=zl9 (P:=l.prog) (w:=w) (base:=base) (U:=U) (mg:=mg) (n:=0) ah ac aj
 have ej:=yA (P:=l.prog) (w:=w) (base:=base) (U:=U) (n:=0) bp jd je
 have dq:=ze8 (P:=l.prog) (w:=w) (base:=base) (U:=U) (n:=0) bw
 have il:=zl7 (n:=1) cc bw dq.up ao au bj
 have gc:=zS (P:=l.prog) (w:=w) (base:=base) (U:=U) (n:=0) b0
 have cv:=uO (n:=1) ax b0 gc.up aa
 have bz:=oY (n:=2) ak cc il.up ax cv.up b8 gn aa
 have da:=wK (n:=2) a9 a7 am.up ak bz.up ah aq.up ac aj a8
 have bv:=zf0 (P:=l.prog) (w:=w) (base:=base) (U:=U) (n:=0) cb ao au bj
 have j7:=yh7 (n:=1) ee cb bv.up ao au bj
 have c8:=wJ (P:=l.prog) (w:=w) (base:=base) (U:=U) (n:=0) a6 ao au
 have dw:=wY (n:=1) bh a7 am.up ah aq.up ac aj a8
 have d6:=wZ (n:=1) bi ah aq.up ac aj
 have ku:∀n,FnOk l.prog w K mg base CX0 (3*n+4) _ _ ["front","row","place"] (SpP 3 K U (tU n)):=fun n=>by
  induction n with
  |zero=>exact FnOk.noneP (ps:=["front","row","place"])
  |succ n ih=>exact yB (n:=3*n+6) ar bp (ej.mono (by omega)) ay (uP (n:=3*n+4) ay a7 (am.mono (by omega)) ee (j7.mono (by omega)) a6 (c8.mono (by omega)) bh (dw.mono (by omega)) bi (d6.mono (by omega)) ar (ih.mono (by omega)) ac a8 ie) a9 (da.mono (by omega))
 have b6:=ku 13
 have d8:=wX (n:=1) bg cb bv.up
 have cr:=uQ (n:=43) az ar b6.up bg d8.up
 have gy:=ze9 (P:=l.prog) (w:=w) (base:=base) (U:=U) (n:=0) b7
 have fg:=yC (n:=43) bq a7 am.up ce dc.up ah aq.up az cr.up b7 gy.up ac aj aa
 have fh:=yD (P:=l.prog) (w:=w) (base:=base) (U:=U) (n:=0) bu av i7 aa
 have nr:=xi0 (n:=45) l5 eu kb.up di jn.up bq fg.up bu fh.up av gz aw
 exact xq6 nr fun ns hl=>yb2 (by decide) (by decide) (lT ns) (fun j s h0 h1 h2 h3=>yt3 hl j s h0 h1 h2 h3) (fun j _ _=>⟨_,yl6 ns j⟩)
end My
open PySem PySem.W PyProof.Rows
set_option maxRecDepth 100000 in
set_option maxHeartbeats 0 in
theorem PySem.Challenge.cw_linepress_k24_no_earlier_choices_holds : PySem.Challenge.rw_linepress_k24_no_earlier_choices.Holds := by
 w_on;o_law;k_head;(case hw=>w_witness2)
 k_fill
 refine My.xq7 (lev:=46) (l:=PySem.Challenge.rw_linepress_k24_no_earlier_choices) rfl rfl ⟨rfl,by decide,by decide⟩ (fun w h Y=>PySem.W.kIn_of Y) ?F
 case F=>
  intro w mg fa h KX G hmg
  apply My.xj8 KX G hmg
  all_goals first
   |(refine' My.FzT.mk ?a (L2.yf1 ?b ?c ?d);(case a=>k_is);(case b=>k_is);(case c=>k_is);(case d=>k_is))
   |(refine' My.MzT.mk ?a ?e (L2.yf1 ?b ?c ?d);(case a=>k_is);(case e=>k_is);(case b=>k_is);(case c=>k_is);(case d=>k_is))
   |(refine' My.CzT.mk ?a ?_ ?_ ?_ ?_ ?_ ?_;(case a=>k_is);all_goals k_is)
   |(refine' My.vz_mk ?a ?b;(case a=>k_is);(case b=>exact⟨_,rfl⟩))
   |k_is
   |rfl
   |kit_is
   |k_exc
   |kernel_rfl
#print axioms PySem.Challenge.cw_linepress_k24_no_earlier_choices_holds

