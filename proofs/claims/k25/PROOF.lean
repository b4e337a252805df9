import PyProof.Rows.All
import Wide.All
import OpenK.AllK
import Wide.FinOn
import Lean
import PyProof.EqAt
import PyProof.EqKinds
import PyProof.TupleCall
import PySem.Challenge.RW_linepress_k25_other_texts
set_option Elab.async false
set_option genSizeOfSpec false
set_option genInjectivity false
def PySem.W.Fast.tw16721530056212484763:=()
def PySem.W.Fast.tw3753965193836060725:=()
def PySem.W.Fast.tw2481955853907050661:=()
def PySem.W.Fast.tw15448454727150196392:=()
def PySem.W.Fast.tw9610213997239281744:=()
def PySem.W.Fast.tw8082838094765705948:=()
def PySem.W.Fast.tw8972710219239574902:=()
def PySem.W.Fast.tw1432169474035450539:=()
def PySem.W.Fast.tw11073573504151926484:=()
def PySem.W.Fast.tw10227112970005485746:=()
def PySem.W.Fast.tw4809884135613846731:=()
def PySem.W.Fast.tw4287930424548224571:=()
def PySem.W.Fast.tw8007795366883955967:=()
def PySem.W.Fast.tw15660147494812928155:=()
def PySem.W.Fast.tw14912151164345363559:=()
def PySem.W.Fast.tw29021408424351385:=()
def PySem.W.Fast.tw12719249335296262297:=()
def PySem.W.Fast.tw9861041082049340041:=()
def PySem.W.Fast.tw18088410102012088178:=()
def PySem.W.Fast.tw13616250064922884326:=()
def PySem.W.Fast.tw7716644831503074804:=()
def PySem.W.Fast.tw6396502325177881541:=()
def PySem.W.Fast.tw768934979751604216:=()
def PySem.W.Fast.tw4748966553273868704:=()
def PySem.W.Fast.tw1406564815514396257:=()
def PySem.W.Fast.tw11479614939505325916:=()
def PySem.W.Fast.tw13973033858437785547:=()
def PySem.W.Fast.tw18257193340488255329:=()
def PySem.W.Fast.tw2387433640582486185:=()
def PySem.W.Fast.tw6497185536011770358:=()
def PySem.W.Fast.tw841164085272989701:=()
def PySem.W.Fast.tw8472303746536478028:=()
def PySem.W.Fast.tw16635975574135461919:=()
def PySem.W.Fast.tw6850296403529300697:=()
def PySem.W.Fast.tw4323078934568314789:=()
def PySem.W.Fast.tw2230586970731199616:=()
def PySem.W.Fast.tw15587793131746610958:=()
def PySem.W.Fast.tw8556047996045682484:=()
def PySem.W.Fast.tw6100370111100496244:=()
def PySem.W.Fast.tw10489058110740892367:=()
def PySem.W.Fast.tw1923600989358974213:=()
def PySem.W.Fast.tw9440091763862672425:=()
def PySem.W.Fast.tw14783496012056830282:=()
def PySem.W.Fast.tw12638158918030635313:=()
def PySem.W.Fast.tw17154781006874945564:=()
def PySem.W.Fast.tw5844103414340264788:=()
def PySem.W.Fast.tw3651974825205008741:=()
set_option linter.all false
set_option maxRecDepth 100000
set_option maxHeartbeats 1000000
abbrev NDb(x:PySem.Str):Prop:=(x==("__debug__":PySem.Str))=false
def Z0:=@List.mem_cons_self
def Z1:=@List.mem_cons_of_mem
def Z2:=@Nat.le_of_ble_eq_true
def Z3:=@List.length_append
def Z4:=@List.length_cons
def Z5:=@decide_eq_false
def Z6:=@Option.bind_some
def Z7:=@List.getElem?_eq_some_iff
def Z8:=@Bool.false_ne_true
def Z9:=@Nat.le_refl
def Za:=@List.mem_cons
def Zb:=@List.map_cons
def Zc:=@List.length_map
def Zd:=@List.mem_append_right
def Ze:=@decide_eq_true
def Zf:=@List.nodup_nil
def Zg:=@PySem.wpAny_bind
def Zh:=@List.append_nil
def Zi:=@List.getElem?_map
def Zj:=@List.append_assoc
def Zk:=@PySem.Heap.get?_push_of_some
def Zl:=@Option.map_eq_some_iff
def Zm:=@List.size_toArray
def Zn:=@List.getElem?_eq_getElem
def Zo:=@PySem.Heap.lt_size
def Zp:=@List.nodup_cons
def Zq:=@Nat.le_trans
def Zr:=@Int.emod_lt_of_pos
def Zs:=@List.getElem?_set_ne
def Zt:=@Int.emod_nonneg
def Zu:=@List.mem_append_left
def Zv:=@PySem.Heap.get?_push_size
def Zw:=@Nat.lt_of_lt_of_le
def Zx:=@List.getElem?_set_self
def Zy:=@List.lookup_cons
def Zz:=@List.nodup_append
def ZA:=@Option.some.inj
def ZB:=@List.mem_singleton
def ZC:=@PySem.Paired.length
def ZD:=@PySem.wpAny_pure
def ZE:=@List.mem_append
def ZF:=@Array.length_toList
def ZG:=@Bool.and_eq_true
def ZH:=@Nat.zero_le
def ZI:=@Nat.ne_of_lt
def ZJ:=@PySem.PassesOwn.never
def ZK:=@PySem.W.kia_one
def ZL:=@List.length_nil
def ZM:=@List.not_mem_nil
def ZN:=@List.getElem?_append_left
def ZO:=@List.drop_eq_getElem_cons
def ZP:=@PySem.boot_len
def ZQ:=@decide_eq_true_eq
def ZR:=@PySem.W.mg_none_of
def ZS:=@congrArg
def ZT:=@List.mem_of_getElem?
def ZU:=@List.cons_append
def ZV:=@Bool.false_eq_true
def ZW:=@if_true
def ZX:=@List.map_append
def ZY:=@PySem.wpAny_truthy_bool
def ZZ:=@PySem.sizeLine_eq
def Y2:=@List.nil_append
def Y3:=@List.length_range
def Y4:=@Nat.lt_irrefl
def Y5:=@beq_eq_false_iff_ne
def Y6:=@PySem.mem_of_lookup
def Y7:=@List.replicate_succ
def Y8:=@PySem.wpAny_mono
def Y9:=@Int.le_refl
def Ya:=@Ne.symm
def Yb:=@List.zip_cons_cons
def Yc:=@List.mem_map
def Yd:=@PyProof.Rows.callWith_type1
def Ye:=@PySem.wpAny_Call_Name_kw
def Yf:=@PySem.wpAny_passesOwn
def Yg:=@List.getElem?_append_right
def Yh:=@PySem.wpAny_loadPart'
def Yi:=@List.length_take
def Yj:=@Bool.eq_iff_iff
def Yk:=@List.find?_cons
def Yl:=@Nat.not_lt_zero
def Ym:=@Nat.lt_of_le_of_lt
def Yn:=@List.getElem?_replicate
def Yo:=@List.getElem?_cons_succ
def Yp:=@List.append_cancel_left
def Yq:=@List.flatten_cons
def Yr:=@List.sublist_cons_self
def Ys:=@of_decide_eq_true
def Yt:=@Nat.zero_add
def Yu:=@List.map_map
def Yv:=@PySem.wpAny_getItem_str_slice
def Yw:=@List.perm_append_comm
def Yx:=@beq_iff_eq
def Yy:=@decide_eq_decide
def Yz:=@if_false
def YA:=@List.mem_map_of_mem
def YB:=@List.mem_range
def YC:=@PySem.W.callWith_K
def YD:=@PySem.wpAny_execs_nil
def YE:=@PySem.F.args_tuple_add_2
def YF:=@List.any_cons
def YG:=@PyProof.Rows.boot_tuple
def YH:=@PySem.Calls.spliced_cons
def YI:=@PySem.F.entry_tuple_add
def YJ:=@or_false
def YK:=@Bool.not_eq_true
def YL:=@Option.join_some
def YM:=@Nat.le_of_lt
def YN:=@PySem.F.slot_tuple_add
def YO:=@PySem.wpAny_newObj_type
def YQ:=@PySem.wpAny_holding
def YR:=@List.length_replicate
def YS:=@List.getElem?_eq_none
def YT:=@Array.toList_extract
def YU:=@List.getElem?_of_mem
def YV:=@Bool.and_eq_true_iff
def YW:=@List.filterMap_cons
def YX:=@PySem.wpAny_Name
def YY:=@PySem.W.plainGet_of
def YZ:=@PySem.typeIs_str
def X0:=@PySem.Calls.callWith_builtin
def X1:=@ne_true_of_eq_false
def X2:=@List.reverse_append
def X3:=@List.length_reverse
def X4:=@PySem.post_val_or_str
def X5:=@PySem.W.mg_of
def X6:=@PySem.wpAny_isTrue_Compare1
def X7:=@of_decide_eq_false
def X8:=@List.zip_nil_left
def X9:=@List.map_nil
def Xa:=@Option.isSome_map
def Xb:=@Nat.add_zero
def Xc:=@Int.toNat_natCast
def Xd:=@Nat.lt_succ_self
def Xe:=@List.length_drop
def Xf:=@List.nil_sublist
def Xg:=@List.drop_length
def Xh:=@Array.toList_inj
def Xi:=@Nat.le_add_right
def Xj:=@List.eq_nil_of_length_eq_zero
def Xk:=@PySem.Calls.Constant_str
def Xl:=@List.of_mem_zip
def Xm:=@PySem.call_meets
def Xn:=@PySem.tupleKind_room_in1
def Xo:=@PySem.F.args_str_split_2
def Xp:=@Int.ediv_nonneg
def Xq:=@List.takeWhile_append_of_pos
def Xr:=@PySem.F.slot_str_startswith
def Xs:=@PySem.F.type_str_startswith
def Xt:=@Bool.false_and
def Xu:=@Int.fdiv_eq_ediv_of_nonneg
def Xv:=@PySem.Calls.spliced_nil
def Xw:=@PySem.codeAny_mono
def Xx:=@PySem.F.entry_str_split
def Xy:=@PySem.Txt.slice_le
def Xz:=@List.drop_zero
def XA:=@Bool.and_false
def XB:=@List.sublist_append_right
def XC:=@PySem.wpAny_execs_cons
def XD:=@PySem.noFill_tuple_add
def XE:=@List.all_cons
def XF:=@PySem.F.slot_str_split
def XG:=@List.sublist_append_left
def XH:=@List.set_eq_of_length_le
def XI:=@PySem.wpAny_call_entry
def XJ:=@PySem.F.args_tuple_lt_2
def XL:=@PySem.F.plainAttrs_list
def XM:=@Nat.ne_of_gt
def XN:=@PySem.W.cellsFrom_some
def XO:=@PySem.F.entry_tuple_lt
def XQ:=@List.append_eq_nil_iff
def XR:=@PySem.F.plainAttrs_str
def XS:=@Option.map_eq_none_iff
def XT:=@PySem.W.methodCall_KW
def XU:=@PySem.F.slot_tuple_lt
def XV:=@List.length_singleton
def XW:=@Array.getElem?_toList
def XX:=@PySem.Calls.Name_function_global
def XY:=@Int.le_of_lt_add_one
def XZ:=@List.dropLast_cons₂
def W0:=@PySem.wpAny_standAt
def W1:=@List.mem_filterMap
def W2:=@PySem.W.kitx_tuple
def W3:=@PySem.AutoSeq1.sub_tuple_tuple
def W4:=@List.zip_nil_right
def W5:=@PySem.seq_tuple_add
def W6:=@PySem.W.kitx_list
def W7:=@PySem.W.kitx_dict
def W8:=@PySem.wpAny_callSpecial?_slot
def W9:=@Nat.le_succ_of_le
namespace L2
open PySem PySem.Spec PyProof.Rows
abbrev Key:=Sum Int Str
abbrev _root_.tz9:=Str->Addr
abbrev _root_.tz0:=PySem.W.Frag
abbrev _root_.tzA:=Str->Option Value
abbrev _root_.tzB:=List (Addr×Obj)
def uU:Key->Value->Bool
 | .inl k,v=>Value.isInt k v
 | .inr x,v=>Value.isStrOf x v
def xx8(w:World):Key->Int
 | .inl k=>hashInt k
 | .inr x=>hashStr w x
theorem fH:∀{k:Key} {v:Value},uU k v=true->(∃i t,k=Sum.inl i/\v=Value.int i t)\/(∃x t,k=Sum.inr x/\v=Value.str x t)
 | .inl i,v,h=>by
  obtain⟨t,e⟩:=Value.isInt_shape (k:=i) (v:=v) h
  exact .inl ⟨i,t,rfl,e⟩
 | .inr x,v,h=>by
  obtain⟨t,e⟩:=Value.isStrOf_shape (x:=x) (v:=v) h
  exact .inr ⟨x,t,rfl,e⟩
theorem yi2(i:Int)(t:Tok):uU (.inl i) (.int i t)=true:=by simp [uU,Value.isInt]
theorem yi3(x:Str)(t:Tok):uU (.inr x) (.str x t)=true:=by simp [uU,Value.isStrOf]
theorem xl6(a b:Int):decide ((Sum.inl a:Key)=Sum.inl b)=(a==b):=by
 by_cases e:a=b
 ·subst e;simp
 ·have h:¬(Sum.inl a:Key)=Sum.inl b:=fun q=>e (Sum.inl.inj q)
  rw [Z5 h]
  exact(Y5.mpr e).symm
theorem xl7(a b:Str):decide ((Sum.inr a:Key)=Sum.inr b)=decide (a=b):=by
 by_cases e:a=b
 ·subst e;simp
 ·have h:¬(Sum.inr a:Key)=Sum.inr b:=fun q=>e (Sum.inr.inj q)
  rw [Z5 h,Z5 e]
theorem xl8(a:Int)(b:Str):decide ((Sum.inl a:Key)=Sum.inr b)=false:=Z5 (fun q=>nomatch q)
theorem xl9(a:Str)(b:Int):decide ((Sum.inr a:Key)=Sum.inl b)=false:=Z5 (fun q=>nomatch q)
def fD(prog:Program)(w:World):PySem.KeyKind prog w Key where
 is:=uU
 hash:=xx8 w
 inj:=fun v a b ha hb=>by
  rcases fH ha with ⟨i,t,rfl,rfl⟩|⟨x,t,rfl,rfl⟩
  ·rcases fH hb with ⟨j,u,rfl,e⟩|⟨y,u,rfl,e⟩
   ·injection e with e1 _;rw [e1]
   ·exact nomatch e
  ·rcases fH hb with ⟨j,u,rfl,e⟩|⟨y,u,rfl,e⟩
   ·exact nomatch e
   ·injection e with e1 _;rw [e1]
 byValue:=fun k v h=>by
  rcases fH h with ⟨i,t,rfl,rfl⟩|⟨x,t,rfl,rfl⟩<;>rfl
 pyHash:=fun hv h=>by
  rcases fH hv with ⟨i,t,rfl,rfl⟩|⟨x,t,rfl,rfl⟩
  ·exact wpAny_pyHash_int h
  ·exact wpAny_pyHash_str h
 eqBool:=fun hu hv h=>by
  rcases fH hu with ⟨i,t,rfl,rfl⟩|⟨x,t,rfl,rfl⟩
  ·rcases fH hv with ⟨j,u,rfl,rfl⟩|⟨y,u,rfl,rfl⟩
   ·rw [xl6] at h;exact wpAny_eqBool_int h
   ·rw [xl8] at h;exact SeqAt.EqAt.int_str i t y u _ _ _ _ h
  ·rcases fH hv with ⟨j,u,rfl,rfl⟩|⟨y,u,rfl,rfl⟩
   ·rw [xl9] at h;exact SeqAt.EqAt.str_int x t j u _ _ _ _ h
   ·rw [xl7] at h;exact wpAny_eqBool_str h
 «strs»:=fun k x t v h=>by
  rcases fH h with ⟨i,u,rfl,e⟩|⟨y,u,rfl,e⟩
  ·exact nomatch e
  ·injection e with e1 _
   subst e1
   cases v<;>rfl
theorem zw1(prog:Program)(w:World)(i:Int)(t:Tok):(fD prog w).is (.inl i) (.int i t)=true:=yi2 i t
theorem zw2(prog:Program)(w:World)(x:Str)(t:Tok):(fD prog w).is (.inr x) (.str x t)=true:=yi3 x t
set_option genInjectivity true in
inductive V where
 |non|bl (b:Bool)|int (i:Int)|str (x:Str)|byt (b:Array UInt8)|flt (b:UInt64)|ref (a:Addr)|ty (n:String)
 deriving DecidableEq
def cL:V->Value->Prop
 | .non,u=>u=Value.none
 | .bl b,u=>u=Value.bool b
 | .int i,u=>∃t,u=Value.int i t
 | .str x,u=>∃t,u=Value.str x t
 | .byt b,u=>∃t,u=Value.bytes b t
 | .flt b,u=>∃t,u=Value.float b t
 | .ref a,u=>u=Value.ref a
 | .ty n,u=>u=Value.type n
abbrev bT:List V->List Value->Prop:=Paired cL
theorem bT.length{xs:List V}{us:List Value}(r:bT xs us):xs.length=us.length:=ZC r
theorem bT.get:∀{xs:List V} {us:List Value} {i:Nat} {x:V},bT xs us->xs[i]? =some x->∃u,us[i]? =some u/\cL x u
 |_,_,_,_,.nil,e=>by simp at e
 |_,_,0,_,.cons r _,e=>by simp at e;subst e;exact⟨_,rfl,r⟩
 |_,_,i+1,x,.cons _ t,e=>by
  obtain⟨u,h1,h2⟩:=bT.get (i:=i) (x:=x) t (by simpa using e)
  exact⟨u,by simpa using h1,h2⟩
theorem bT.set{x:V}{u:Value}(r:cL x u):∀{xs:List V} {us:List Value} (i:Nat),bT xs us->bT (xs.set i x) (us.set i u)
 |_,_,_,.nil=> .nil
 |_,_,0,.cons _ t=> .cons r t
 |_,_,i+1,.cons q t=> .cons q (bT.set r i t)
theorem bT.append:∀{xs ys:List V} {us ws:List Value},bT xs us->bT ys ws->bT (xs++ys) (us++ws)
 |_,_,_,_,.nil,s=>s
 |_,_,_,_,.cons r t,s=> .cons r (bT.append t s)
theorem bT.take:∀{xs:List V} {us:List Value} (n:Nat),bT xs us->bT (xs.take n) (us.take n)
 |_,_,0,_=> .nil
 |_,_,_+1,.nil=> .nil
 |_,_,n+1,.cons r t=> .cons r (bT.take n t)
theorem bT.drop:∀{xs:List V} {us:List Value} (n:Nat),bT xs us->bT (xs.drop n) (us.drop n)
 |_,_,0,r=>r
 |_,_,_+1,.nil=> .nil
 |_,_,n+1,.cons _ t=>bT.drop n t
def jR:Option V->Option Value->Prop
 |some v,some u=>cL v u
 |none,none=>True
 |_,_=>False
def KV{U:Type}:List (U×V)->List (U×Value)->Prop:=Paired fun(p:U×V) (q:U×Value)=>p.1=q.1/\cL p.2 q.2
def kV:Key->V
 | .inl i=> .int i
 | .inr x=> .str x
inductive HO where
 |lst (xs:List V)
 |tup (xs:List V)
 |dK (kvs:List (Key×V))|dT (kvs:List (List Key×V))
 |set (S:Int->Bool) (n:Nat)
 |ins (C dx:Addr) (fs:List (Str×V))
 |own (x:Addr)
 |xd (fs:List (Str×V))
 |met (f x:Addr)
 |rng (lo hi:Int)
 |frz (o:Obj) (u:HO)
 |tbl (ps:Array Value)
 |ext (φ:Heap->Prop)
abbrev Hp:=Addr->Option HO
def upd(H:Hp)(a:Addr)(o:HO):Hp:=fun b=>if b=a then some o else H b
theorem bX{H:Hp}{a:Addr}{o:HO}:upd H a o a=some o:=by unfold upd;rw [if_pos rfl]
theorem bA{H:Hp}{a b:Addr}{o:HO}(h:b≠a):upd H a o b=H b:=by unfold upd;rw [if_neg h]
theorem xu0{H:Hp}{a b:Addr}{o u:HO}(h:H a=some o)(h':H b=some u)(d:o≠u):a≠b:=by
 intro e;subst e;rw [h] at h';exact d (ZA h')
theorem lH{H:Hp}{a b:Addr}{o:HO}(h:H a=some o)(h':H b=none):a≠b:=by
 intro e;subst e;rw [h] at h';cases h'
section
variable(P:Program)(w:World)
def dH(H:Hp)(h:Heap)(a:Addr):HO->Prop
 | .lst xs=>xs.length<=sizeLine/\∃(its:List Value) (n:Nat),bT xs its/\h.get? a=some {cls:= .type "list",data:= .seq its.toArray n}
 | .tup xs=>xs.length<=sizeLine/\∃its:List Value,bT xs its/\IsTup h a its.toArray
 | .dK kvs=>kvs.length<=sizeLine/\(a==sysModules)=false/\∃vs,KV kvs vs/\h.DictOf (fD P w) a vs
 | .dT kvs=>kvs.length<=sizeLine/\(a==sysModules)=false/\∃xs:List (List Key×Addr×Value),
   Paired (fun(p:List Key×V) (q:List Key×Addr×Value)=>p.1=q.1/\H q.2.1=some (.tup (p.1.map kV))/\cL p.2 q.2.2) kvs xs/\
   ∃o es ep,h.get? a=some o/\o.ExactDict/\o.data= .dict es ep/\es.toList=xs.map (entryOfKey (tupleKind (fD P w)))/\(xs.map (·.1)).Nodup
 | .set S n=>h.SetOf (intKind P w) a S n
 | .ins C dx fs=>H dx=some (.own a)/\fs.length<=1000/\dx≠a/\h.get? a=some (PySem.W.instObj C dx)/\
   ∃mA,h.Ns1 dx mA/\(∀f,jR (fs.lookup f) (mA f))/\PySem.Within mA (fs.map (·.1))
 | .own _=>∃o,h.get? a=some o
 | .xd fs=>∃mA,h.Ns1 a mA/\∀f,jR (fs.lookup f) (mA f)
 | .rng lo hi=>∃t u v,h.get? a=some {cls:= .type "range",data:= .fields #[.int lo t,.int hi u,.int 1 v]}
 | .frz o u=>h.get? a=some o/\dH H h a u
 | .tbl ps=>h.get? a=some {cls:= .none,data:= .fields ps}
 | .met f x=>h.get? a=some (PySem.W.methodObj (.ref f) (.ref x))
 | .ext φ=>φ h/\(∃o,h.get? a=some o)/\∀h1 h2:Heap,φ h1->(∀o,h1.get? a=some o->h2.get? a=some o)->φ h2
def HOk(H:Hp)(h:Heap):Prop:=∀a o,H a=some o->dH P w H h a o
end
section
variable{P:Program}{w:World}{H H':Hp}{h h':Heap}{a:Addr}{o:HO}
theorem dH.lt(x:dH P w H h a o):a<h.objs.size:=by
 cases o with
 |lst xs=>obtain⟨_,_,_,_,e⟩:=x;exact Zo e
 |tup xs=>obtain⟨_,_,_,p⟩:=x;exact p.lt
 |dK kvs=>obtain⟨_,_,_,_,o,_,_,e,_⟩:=x;exact Zo e
 |dT kvs=>obtain⟨_,_,_,_,o,_,_,e,_⟩:=x;exact Zo e
 |set S n=>obtain⟨o,_,_,_,e,_⟩:=x;exact Zo e
 |ins C dx fs=>obtain⟨_,_,_,e,_⟩:=x;exact Zo e
 |own y=>obtain⟨_,e⟩:=x;exact Zo e
 |xd fs=>obtain⟨_,⟨_,_,_,e,_⟩,_⟩:=x;exact Zo e
 |rng lo hi=>obtain⟨_,_,_,e⟩:=x;exact Zo e
 |frz ob u=>obtain⟨e,_⟩:=x;exact Zo e
 |tbl ps=>exact Zo (show h.get? a=some _ from x)
 |met f y=>exact Zo (show h.get? a=some _ from x)
 |ext φ=>obtain⟨_,⟨_,e⟩,_⟩:=x;exact Zo e
theorem Paired.mapP{α β:Type}{F G:α->β->Prop}:∀{l₁:List α} {l₂:List β},Paired F l₁ l₂->(∀a b,F a b->G a b)->Paired G l₁ l₂
 |_,_,.nil,_=> .nil
 |_,_,.cons r t,f=> .cons (f _ _ r) (Paired.mapP t f)
theorem dH.stay(x:dH P w H h a o)(k:∀b u,(b=a\/H b=some (.own a))->h.get? b=some u->h'.get? b=some u)
  (ho:∀b,H b=some (.own a)->H' b=some (.own a)) (ht:∀b xs,H b=some (.tup xs)->H' b=some (.tup xs)):dH P w H' h' a o:=by
 induction o with
 |lst xs=>obtain⟨z,its,n,r,e⟩:=x;exact⟨z,its,n,r,k _ _ (.inl rfl) e⟩
 |tup xs=>obtain⟨z,its,r,ob,e,c⟩:=x;exact⟨z,its,r,ob,k _ _ (.inl rfl) e,c⟩
 |dK kvs=>obtain⟨z,y,vs,r,ob,es,ep,e,c⟩:=x;exact⟨z,y,vs,r,ob,es,ep,k _ _ (.inl rfl) e,c⟩
 |dT kvs=>
  obtain⟨z,y,xs,r,ob,es,ep,e,c⟩:=x
  exact⟨z,y,xs,Paired.mapP r fun p q z=>⟨z.1,ht _ _ z.2.1,z.2.2⟩,ob,es,ep,k _ _ (.inl rfl) e,c⟩
 |set S n=>obtain⟨ob,es,ep,t,e,c⟩:=x;exact⟨ob,es,ep,t,k _ _ (.inl rfl) e,c⟩
 |ins C dx fs=>
  obtain⟨d,z,ne,e,mA,⟨od,es,ep,e2,c⟩,r⟩:=x
  exact⟨ho _ d,z,ne,k _ _ (.inl rfl) e,mA,⟨od,es,ep,k _ _ (.inr d) e2,c⟩,r⟩
 |own y=>obtain⟨ob,e⟩:=x;exact⟨ob,k _ _ (.inl rfl) e⟩
 |xd fs=>obtain⟨mA,⟨od,es,ep,e,c⟩,r⟩:=x;exact⟨mA,⟨od,es,ep,k _ _ (.inl rfl) e,c⟩,r⟩
 |rng lo hi=>obtain⟨t,u,v,e⟩:=x;exact⟨t,u,v,k _ _ (.inl rfl) e⟩
 |frz ob u ih=>obtain⟨e,q⟩:=x;exact⟨k _ _ (.inl rfl) e,ih q⟩
 |tbl ps=>
  have e:h.get? a=some {cls:= .none,data:= .fields ps}:=x
  show h'.get? a=some {cls:= .none,data:= .fields ps}
  exact k a _ (.inl rfl) e
 |met f y=>
  have e:h.get? a=some (PySem.W.methodObj (.ref f) (.ref y)):=x
  show h'.get? a=some (PySem.W.methodObj (.ref f) (.ref y))
  exact k a _ (.inl rfl) e
 |ext φ=>obtain⟨p,⟨o,e⟩,st⟩:=x;exact⟨st _ _ p fun o q=>k _ _ (.inl rfl) q,⟨o,k _ _ (.inl rfl) e⟩,st⟩
theorem HOk.lt(x:HOk P w H h)(e:H a=some o):a<h.objs.size:=(x a o e).lt
theorem HOk.fresh(x:HOk P w H h)(e:h.objs.size<=a):H a=none:=by
 cases q:H a with
 |none=>rfl
 |some u=>exact absurd (Zw (x.lt q) e) (Y4 _)
theorem HOk.kept(x:HOk P w H h)(k:∀b u,h.get? b=some u->h'.get? b=some u):HOk P w H h':=fun a o e=>
 (x a o e).stay (fun b u _ q=>k b u q) (fun _ q=>q) fun _ _ q=>q
theorem HOk.laid(x:HOk P w H h)(k:∀b u,h.get? b=some u->h'.get? b=some u)(hp:h.objs.size<=a)(new:dH P w (upd H a o) h' a o):HOk P w (upd H a o) h':=fun b u e=>by
 have hn:=x.fresh hp
 by_cases hb:b=a
 ·subst hb;rw [bX] at e;cases e;exact new
 ·rw [bA hb] at e
  exact(x b u e).stay (fun c v _ q=>k c v q) (fun c q=>by rw [bA (lH q hn)];exact q) fun c xs q=>by rw [bA (lH q hn)];exact q
end
def Rd(H:Hp)(a:Addr)(u:HO):Prop:=H a=some u\/∃o,H a=some (.frz o u)
theorem Rd.ok{P:Program}{w:World}{H:Hp}{h:Heap}{a:Addr}{u:HO}(r:Rd H a u)(x:HOk P w H h):dH P w H h a u:=by
 rcases r with r|⟨o,r⟩
 ·exact x a u r
 ·obtain⟨_,q⟩:=x a _ r
  exact q
def Mut:Option HO->Prop
 |some (.lst _)=>True
 |some (.dK _)=>True
 |some (.dT _)=>True
 |some (.set _ _)=>True
 |some (.ins _ _ _)=>True
 |some (.ext _)=>True
 |_=>False
section
variable{P:Program}{w:World}{H:Hp}{h h':Heap}{x e:Addr}{o':HO}
theorem HOk.write(ok:HOk P w H h)(mu:Mut (H x))(he:e=x\/H e=some (.own x))(k:∀b u,b≠e->h.get? b=some u->h'.get? b=some u)(heo:∃u,h'.get? e=some u)
  (new:dH P w (upd H x o') h' x o'):HOk P w (upd H x o') h':=fun b u q=>by
 have nown:∀c y,H c=some (.own y)->c≠x:=fun c y r z=>by subst z;rw [r] at mu;exact mu
 have ntup:∀c xs,H c=some (.tup xs)->c≠x:=fun c xs r z=>by subst z;rw [r] at mu;exact mu
 by_cases hb:b=x
 ·subst hb;rw [bX] at q;cases q;exact new
 ·rw [bA hb] at q
  by_cases hbe:b=e
  ·have q':H b=some (.own x):=by
    rcases he with z|z
    ·exact absurd (hbe.trans z) hb
    ·rw [hbe];exact z
   rw [q] at q';cases q'
   obtain⟨v,hv⟩:=heo
   exact⟨v,by rw [hbe];exact hv⟩
  ·refine(ok b u q).stay (fun c v hc r=>k c v ?_ r) (fun c r=>by rw [bA (nown c b r)];exact r) fun c xs r=>by rw [bA (ntup c xs r)];exact r
   rcases hc with rfl|hc
   ·exact hbe
   ·rintro rfl
    rcases he with z|z
    ·exact nown c b hc z
    ·rw [hc] at z;cases z;exact hb rfl
end
structure Un(fs ex:List Addr)(H H':Hp)(h h':Heap):Prop where
 keep:∀b o,h.get? b=some o->H b=none->b∉fs->b∉ex->h'.get? b=some o
 slot:∀b o,h.get? b=some o->H b=none->b∈fs->b∉ex->∃sl,h'.get? b=some {o with slots:=sl}
 free:∀b o,h.get? b=some o->H b=none->b∉ex->H' b=none
 there:∀b o,h.get? b=some o->b∉ex->∃o',h'.get? b=some o'
 tups:∀b xs,H b=some (.tup xs)->H' b=some (.tup xs)
 frzs:∀b o u,H b=some (.frz o u)->H' b=some (.frz o u)
 tbls:∀b ps,H b=some (.tbl ps)->∃more,H' b=some (.tbl (ps++more))
section
variable{fs fs' ex ex':List Addr}{H H1 H2:Hp}{h h1 h2 h':Heap}{a x e:Addr}{o:HO}
theorem Un.any(u:Un fs ex H H1 h h1){b:Addr}{ob:Obj}(q:h.get? b=some ob)(n:H b=none)(hx:b∉ex):∃sl,h1.get? b=some {ob with slots:=sl}:=by
 by_cases hb:b∈fs
 ·exact u.slot b ob q n hb hx
 ·exact⟨ob.slots,u.keep b ob q n hb hx⟩
theorem Un.kept(k:∀b u,h.get? b=some u->h'.get? b=some u):Un fs ex H H h h':=
 ⟨fun b ob q _ _ _=>k b ob q,fun b ob q _ _ _=>⟨ob.slots,k b ob q⟩,fun _ _ _ n _=>n,fun b ob q _=>⟨ob,k b ob q⟩,fun _ _ q=>q,fun _ _ _ q=>q,fun _ ps q=>⟨#[],by rw [q];simp⟩⟩
theorem Un.refl:Un fs ex H H h h:=Un.kept fun _ _ q=>q
theorem Un.laid(k:∀b u,h.get? b=some u->h'.get? b=some u)(hp:h.objs.size<=a)(hn:H a=none):Un fs ex H (upd H a o) h h' where
 keep:=fun b u q _ _ _=>k b u q
 slot:=fun b u q _ _ _=>⟨u.slots,k b u q⟩
 free:=fun b u q n _=>by rw [bA (ZI (Zw (Zo q) hp))];exact n
 there:=fun b u q _=>⟨u,k b u q⟩
 tups:=fun b xs q=>by rw [bA (lH q hn)];exact q
 frzs:=fun b u xs q=>by rw [bA (lH q hn)];exact q
 tbls:=fun b ps q=>⟨#[],by rw [bA (lH q hn),q];simp⟩
theorem Un.write(mu:Mut (H x))(he:e=x\/H e=some (.own x))(k:∀b u,b≠e->h.get? b=some u->h'.get? b=some u)(heo:∃u,h'.get? e=some u):Un fs ex H (upd H x o) h h':=by
 have hx:∀b,H b=none->b≠x:=fun b n z=>by subst z;rw [n] at mu;exact mu
 have hb:∀b,H b=none->b≠e:=fun b n z=>by
  subst z
  rcases he with r|r
  ·exact hx b n r
  ·rw [n] at r;cases r
 have hm:∀b u,H b=some u->¬Mut (some u)->b≠x:=fun b u q nm z=>by subst z;rw [q] at mu;exact nm mu
 refine⟨fun b u q n _ _=>k b u (hb b n) q,fun b u q n _ _=>⟨u.slots,k b u (hb b n) q⟩,fun b u q n _=>by rw [bA (hx b n)];exact n,fun b u q _=> ?_,
  fun b xs q=>by rw [bA (hm b _ q fun z=>z)];exact q,fun b u xs q=>by rw [bA (hm b _ q fun z=>z)];exact q,fun b ps q=>⟨#[],by rw [bA (hm b _ q fun z=>z),q];simp⟩⟩
 by_cases hbe:b=e
 ·subst hbe;exact heo
 ·exact⟨u,k b u hbe q⟩
end
def trk(h:Heap)(H:Hp):List Addr:=(List.range h.objs.size).filter fun a=>(H a).isSome
def uV(h:Heap)(H:Hp):Heap:=PySem.W.hideAll h (trk h H)
theorem yi4(h:Heap)(H:Hp):(uV h H).objs.size=h.objs.size:=PySem.W.hideAll_size _ _
theorem ys4{h:Heap}{H:Hp}{b:Addr}{o:Obj}(e:h.get? b=some o)(n:H b=none):(uV h H).get? b=some o:=
 PySem.W.hideAll_get _ e fun hm=>by
  have q:(H b).isSome=true:=(List.mem_filter.mp hm).2
  rw [n] at q;simp at q
theorem xd9{h:Heap}{H:Hp}{b:Addr}{o:Obj}(e:(uV h H).get? b=some o):h.get? b=some o/\H b=none:=by
 have e':h.get? b=some o:=PySem.W.of_hideAll (trk h H) e
 refine⟨e',?_⟩
 cases q:H b with
 |none=>rfl
 |some x=>
  have hm:b∈trk h H:=List.mem_filter.mpr ⟨YB.mpr (Zo e'),by simp [q]⟩
  have z:(uV h H).get? b=none:=PySem.W.hideAll_none (trk h H) hm
  rw [z] at e;cases e
structure Mod(K:tz0)(mg:tzA)(base:Heap):Prop where
 kin:K.In base
 glob:base.Ns mainGlobals mg
 blt:∃mb,base.Ns builtinsNs mb/\∀x:Str,x≠"__name__"->mb x=bootBuiltins x
 nolimit:base.NoLimit
structure Cx where
 prog:Program
 w:World
 K:tz0
 mg:tzA
 base:Heap
 A:Around
 N:List Str
 s₀:Shared
 H₀:Hp
 env:Env
 outer:List Env
 stack:List Env
 ex:List Addr
 fn:Str->Bool
 calm:Bool
 pn:tzB
 xe:Value->Shared->Prop
def frs(l:List Env):List Addr:=l.filterMap (·.frame)
abbrev Cx.fs(X:Cx):List Addr:=frs X.outer
def Vis(sc:Scope)(x:Str):Prop:=sc.names.lookup x=some .local\/sc.names.lookup x=some .cell\/sc.names.lookup x=some .free
def Loc(sc:Scope)(x:Str):Prop:=sc.names.lookup x=some .local\/sc.names.lookup x=some .cell
def xx9(env:Env)(h:Heap)(m:tzA)(x:Str)(u:Value):Prop:=
 (env.kindOf x=some .local/\m x=some u)\/((env.kindOf x=some .cell\/env.kindOf x=some .free)/\∃c,env.cells.lookup x=some c/\h.IsCell c (some u))
structure Cx.Ok(X:Cx):Prop where
 mod:Mod X.K X.mg X.base
 kind:X.env.scope.kind= .function
 glob:X.env.globals=mainGlobals
 blt:X.env.builtins=builtinsNs
 above:X.s₀.heap.objs.size<=X.env.locals
 inj:∀x y c,X.env.cells.lookup x=some c->X.env.cells.lookup y=some c->x=y
 has:∀x,(X.env.kindOf x=some .cell\/X.env.kindOf x=some .free)->∃c,X.env.cells.lookup x=some c
 cab:∀x c,X.fn x=true->X.env.cells.lookup x=some c->X.s₀.heap.objs.size<=c
 hd:X.calm=true->X.A.handled=none
 frames:X.A.frames=some X.stack
 stk:X.stack=X.outer\/(X.stack=X.env::X.outer/\X.env.frame=some X.env.locals)
 exf:∀b∈X.ex,b≠X.env.locals/\∀x c,X.env.cells.lookup x=some c->c≠b
 bs:∀b o,X.base.get? b=some o->X.s₀.heap.get? b=some o/\X.H₀ b=none
 bsz:X.base.objs.size<=X.s₀.heap.objs.size
 noex:∀b o,X.base.get? b=some o->b∉X.ex
 exfs:∀b∈X.ex,b∉X.fs
 funs:X.s₀.heap.FunFrames X.base X.outer
 frf:∀b∈X.fs,X.H₀ b=none
structure Inv(X:Cx)(pins:tzB)(σ:List (Option V))(H:Hp)(s:Shared):Prop where
 ok:X.Ok
 os:s.os=X.s₀.os
 bare:AllBare s.gens
 base:Un X.fs X.ex X.H₀ H X.s₀.heap s.heap
 loc:∃m,s.heap.Ns X.env.locals m/\∀(i:Nat) (x:Str) (v:V),X.N[i]? =some x->σ[i]? =some (some v)->Vis X.env.scope x->∃u,cL v u/\xx9 X.env s.heap m x u
 cell:∀x c,X.env.cells.lookup x=some c->∃v,s.heap.IsCell c v
 free:H X.env.locals=none
 freeC:∀x c,X.env.cells.lookup x=some c->H c=none
 pin:∀p∈X.pn++pins,s.heap.get? p.1=some p.2/\H p.1=none/\p.1≠X.env.locals/\p.1∉X.fs/\∀v,p.2.data≠ .cell v
 hok:HOk X.prog X.w H s.heap
 len:σ.length=X.N.length
section
variable{X:Cx}{pins:tzB}{σ:List (Option V)}{H H':Hp}{s:Shared}{h':Heap}
theorem Cx.Ok.nofr(ok:X.Ok){b:Addr}{o:Obj}(e:X.base.get? b=some o):b∉X.fs:=fun hb=>by
 have:=(ok.funs.mem hb).1
 rw [e] at this;cases this
theorem Inv.bs(I:Inv X pins σ H s):∀b o,X.base.get? b=some o->s.heap.get? b=some o/\H b=none:=fun b o e=>
 ⟨I.base.keep b o (I.ok.bs b o e).1 (I.ok.bs b o e).2 (I.ok.nofr e) (I.ok.noex b o e),I.base.free b o (I.ok.bs b o e).1 (I.ok.bs b o e).2 (I.ok.noex b o e)⟩
theorem Inv.bk(I:Inv X pins σ H s):∀b o,X.base.get? b=some o->s.heap.get? b=some o:=fun b o e=>(I.bs b o e).1
theorem Inv.mod(I:Inv X pins σ H s):Mod X.K X.mg X.base:=I.ok.mod
theorem Inv.kIn(I:Inv X pins σ H s):X.K.In s.heap:=I.ok.mod.kin.keeps I.bk
theorem Inv.lt(I:Inv X pins σ H s):X.env.locals<s.heap.objs.size:=let ⟨_,hn,_⟩:=I.loc;hn.lt
theorem Inv.sz(I:Inv X pins σ H s):X.s₀.heap.objs.size<=s.heap.objs.size:=Zq I.ok.above (YM I.lt)
theorem Inv.nofs(I:Inv X pins σ H s){a:Addr}(h:s.heap.objs.size<=a):a∉X.fs:=fun hb=>by
 obtain⟨_,o,ho,_⟩:=I.ok.funs.mem hb
 exact absurd (Zw (Zo ho) (Zq I.sz h)) (Y4 _)
theorem Inv.cne(I:Inv X pins σ H s):∀x c,X.env.cells.lookup x=some c->c≠X.env.locals:=fun x c e z=>by
 obtain⟨v,o,ho,hd⟩:=I.cell x c e
 obtain⟨m,⟨o',es,ep,ho',hd',_⟩,_⟩:=I.loc
 rw [z,ho'] at ho;cases ho;rw [hd'] at hd;cases hd
theorem Inv.funs(I:Inv X pins σ H s):s.heap.FunFrames X.base X.outer:=by
 have all:∀(l:List Env),(∀b∈frs l,b∈X.fs)->X.s₀.heap.FunFrames X.base l->s.heap.FunFrames X.base l:=by
  intro l
  induction l with
  |nil=>intro _ _;trivial
  |cons env r ih=>
   intro hs hl
   obtain⟨hk,⟨L,o,hf,hn,ho,hd⟩,hr⟩:=hl
   have hL:L∈X.fs:=hs L (by unfold frs;rw [YW,hf];exact Z0)
   obtain⟨sl,e⟩:=I.base.slot L o ho (I.ok.frf L hL) hL fun z=>I.ok.exfs L z hL
   exact⟨hk,⟨L,_,hf,hn,e,hd⟩,ih (fun b hb=>hs b (by unfold frs;rw [YW,hf];exact Z1 _ hb)) hr⟩
 exact all X.outer (fun _ hb=>hb) I.ok.funs
theorem Inv.stack(I:Inv X pins σ H s):s.heap.FunFrames X.base X.stack:=by
 rcases I.ok.stk with e|⟨e,hf⟩
 ·rw [e];exact I.funs
 ·rw [e]
  obtain⟨m,hn,_⟩:=I.loc
  refine .cons (by rw [I.ok.kind];decide) hf hn ?_ I.funs
  exact Heap.get?_none_of_le (Zq I.ok.bsz I.ok.above)
theorem Inv.stkSub(I:Inv X pins σ H s):∀b∈frs X.stack,b∈X.env.locals::X.fs:=fun b hb=>by
 rcases I.ok.stk with e|⟨e,hf⟩
 ·rw [e] at hb;exact Z1 _ hb
 ·rw [e] at hb
  unfold frs at hb
  rw [YW,hf] at hb
  exact hb
theorem Inv.stkFree(I:Inv X pins σ H s):∀b∈frs X.stack,H b=none:=fun b hb=>by
 rcases Za.mp (I.stkSub b hb) with e|hb
 ·rw [e];exact I.free
 ·obtain⟨_,o,ho,_⟩:=I.ok.funs.mem hb
  exact I.base.free b o ho (I.ok.frf b hb) fun z=>I.ok.exfs b z hb
theorem Inv.step{g':Array GenState}{t':Nat}{d':Drawn}{ch:List Addr}(I:Inv X pins σ H s)
  (hch:∀b∈ch,(b∈X.ex\/X.s₀.heap.objs.size<=b)/\b≠X.env.locals/\(∀x c,X.env.cells.lookup x=some c->c≠b)/\∀p∈X.pn++pins,p.1≠b)
  (keep:∀b o,b≠X.env.locals->b∉X.fs->b∉ch->s.heap.get? b=some o->H b=none->h'.get? b=some o)
  (slot:∀b o,b≠X.env.locals->b∈X.fs->b∉ch->s.heap.get? b=some o->H b=none->∃sl,h'.get? b=some {o with slots:=sl}) (free:∀b o,b∉ch->s.heap.get? b=some o->H b=none->H' b=none)
  (there:∀b o,b∉ch->s.heap.get? b=some o->∃o',h'.get? b=some o')
  (tups:∀b xs,H b=some (.tup xs)->H' b=some (.tup xs)) (frzs:∀b o u,H b=some (.frz o u)->H' b=some (.frz o u)) (tbls:∀b ps,H b=some (.tbl ps)->∃more,H' b=some (.tbl (ps++more)))
  (ns:∀m,s.heap.Ns X.env.locals m->h'.Ns X.env.locals m) (hok:HOk X.prog X.w H' h') (hg:AllBare g'):
  Inv X pins σ H' {s with heap:=h',gens:=g',drawn:=d',toks:=t'}:=by
 have neL:∀b o,X.s₀.heap.get? b=some o->b≠X.env.locals:=fun b o e=>ZI (Zw (Zo e) I.ok.above)
 have neC:∀b o,X.s₀.heap.get? b=some o->b∉X.ex->b∉ch:=fun b o e hx hb=>by
  rcases(hch b hb).1 with z|z
  ·exact hx z
  ·exact absurd (Zw (Zo e) z) (Y4 _)
 have cellK:∀x c,X.env.cells.lookup x=some c->∀v,s.heap.IsCell c v->h'.IsCell c v:=fun x c e v ⟨o,ho,hd⟩=>by
  have nch:c∉ch:=fun z=>(hch c z).2.2.1 x c e rfl
  by_cases hc:c∈X.fs
  ·obtain⟨sl,q⟩:=slot c o (I.cne x c e) hc nch ho (I.freeC x c e)
   exact⟨_,q,hd⟩
  ·exact⟨o,keep c o (I.cne x c e) hc nch ho (I.freeC x c e),hd⟩
 refine⟨I.ok,I.os,hg,⟨fun b o e n hb hx=> ?_,fun b o e n hb hx=> ?_,fun b o e n hx=> ?_,fun b o e hx=> ?_,fun b xs e=>tups b xs (I.base.tups b xs e),fun b o xs e=>frzs b o xs (I.base.frzs b o xs e),fun b ps e=> ?_⟩,?_,fun x c e=> ?_,?_,fun x c e=> ?_,fun p hp=> ?_,hok,I.len⟩
 ·exact keep b o (neL b o e) hb (neC b o e hx) (I.base.keep b o e n hb hx) (I.base.free b o e n hx)
 ·obtain⟨sl,e1⟩:=I.base.slot b o e n hb hx
  obtain⟨sl',e2⟩:=slot b _ (neL b o e) hb (neC b o e hx) e1 (I.base.free b o e n hx)
  exact⟨sl',e2⟩
 ·obtain⟨o',e1⟩:=I.base.there b o e hx
  exact free b o' (neC b o e hx) e1 (I.base.free b o e n hx)
 ·obtain⟨o',e1⟩:=I.base.there b o e hx
  exact there b o' (neC b o e hx) e1
 ·obtain⟨m1,e1⟩:=I.base.tbls b ps e
  obtain⟨m2,e2⟩:=tbls b _ e1
  exact⟨m1++m2,by rw [e2,Array.append_assoc]⟩
 ·obtain⟨m,hn,hl⟩:=I.loc
  refine⟨m,ns m hn,fun i x v e1 e2 e3=> ?_⟩
  obtain⟨u,r,l⟩:=hl i x v e1 e2 e3
  refine⟨u,r,?_⟩
  rcases l with l|⟨k,c,e,z⟩
  ·exact .inl l
  ·exact .inr ⟨k,c,e,cellK x c e _ z⟩
 ·obtain⟨v,z⟩:=I.cell x c e
  exact⟨v,cellK x c e v z⟩
 ·obtain⟨m,⟨o,_,_,ho,_⟩,_⟩:=I.loc
  exact free _ o (fun z=>(hch _ z).2.1 rfl) ho I.free
 ·obtain⟨v,o,ho,hd⟩:=I.cell x c e
  exact free c o (fun z=>(hch c z).2.2.1 x c e rfl) ho (I.freeC x c e)
 ·obtain⟨e,n,ne,nf,d⟩:=I.pin p hp
  have nch:p.1∉ch:=fun z=>(hch p.1 z).2.2.2 p hp rfl
  exact⟨keep p.1 p.2 ne nf nch e n,free p.1 p.2 nch e n,ne,nf,d⟩
theorem Inv.un{t':Nat}(I:Inv X pins σ H s)(u:Un X.fs [] H H' s.heap h')(hok:HOk X.prog X.w H' h'):Inv X pins σ H' {s with heap:=h',toks:=t'}:=by
 obtain⟨m,⟨o,es,ep,ho,r⟩,_⟩:=id I.loc
 obtain⟨sl,hL⟩:=u.any ho I.free (by simp)
 exact I.step (g':=s.gens) (d':=s.drawn) (ch:=[]) (fun _ z=>nomatch z) (fun b o _ hb _ e n=>u.keep b o e n hb (by simp)) (fun b o _ hb _ e n=>u.slot b o e n hb (by simp)) (fun b o _ e n=>u.free b o e n (by simp)) (fun b o _ e=>u.there b o e (by simp)) u.tups u.frzs u.tbls (fun m' hm=>by
  obtain⟨o',es',ep',ho',r'⟩:=hm
  rw [ho] at ho';cases ho'
  exact⟨_,es',ep',hL,r'⟩) hok I.bare
theorem Inv.call{g':Array GenState}{t':Nat}{d':Drawn}{ch:List Addr}(I:Inv X pins σ H s)(u:Un (frs X.stack) ch H H' s.heap h')(hok:HOk X.prog X.w H' h')(hg:AllBare g')
  (hch:∀b∈ch,(b∈X.ex\/X.s₀.heap.objs.size<=b)/\b≠X.env.locals/\(∀x c,X.env.cells.lookup x=some c->c≠b)/\∀p∈X.pn++pins,p.1≠b):
  Inv X pins σ H' {s with heap:=h',gens:=g',drawn:=d',toks:=t'}:=by
 obtain⟨m,⟨o,es,ep,ho,r⟩,_⟩:=id I.loc
 obtain⟨sl,hL⟩:=u.any ho I.free fun z=>(hch _ z).2.1 rfl
 exact I.step (ch:=ch) hch (fun b o hL hb hc e n=>u.keep b o e n (fun z=>(Za.mp (I.stkSub b z)).elim hL hb) hc) (fun b o _ _ hc e n=>u.any e n hc) (fun b o hc e n=>u.free b o e n hc) (fun b o hc e=>u.there b o e hc) u.tups u.frzs u.tbls (fun m' hm=>by
  obtain⟨o',es',ep',ho',r'⟩:=hm
  rw [ho] at ho';cases ho'
  exact⟨_,es',ep',hL,r'⟩) hok hg
theorem Inv.turned{t':Nat}{it:Addr}(I:Inv X pins σ H s)(k:∀b o,b≠it->s.heap.get? b=some o->h'.get? b=some o)(hn:H it=none)(hL:it≠X.env.locals)
  (h1:it∈X.ex\/X.s₀.heap.objs.size<=it) (h2:∀x c,X.env.cells.lookup x=some c->c≠it) (h3:∀p∈X.pn++pins,p.1≠it):Inv X pins σ H {s with heap:=h',toks:=t'}:=by
 have nit:∀b u,H b=some u->b≠it:=fun b u e z=>by rw [z,hn] at e;cases e
 refine I.step (g':=s.gens) (d':=s.drawn) (ch:=[it]) (fun b hb=> ?_) (fun b o _ _ hc e _=>k b o (fun z=>hc (by simp [z])) e) (fun b o _ _ hc e _=>⟨o.slots,k b o (fun z=>hc (by simp [z])) e⟩) (fun _ _ _ _ n=>n)
  (fun b o hc e=>⟨o,k b o (fun z=>hc (by simp [z])) e⟩) (fun _ _ e=>e) (fun _ _ _ e=>e) (fun b ps e=>⟨#[],by rw [e];simp⟩) (fun m hm=> ?_) (fun b u e=> ?_) I.bare
 ·have e:b=it:=by simpa using hb
  subst e
  exact⟨h1,hL,h2,h3⟩
 ·obtain⟨o,es,ep,ho,r⟩:=hm
  exact⟨o,es,ep,k _ o (Ya hL) ho,r⟩
 ·refine(I.hok b u e).stay (fun c v hc q=>k c v ?_ q) (fun _ q=>q) fun _ _ q=>q
  rcases hc with z|z
  ·rw [z];exact nit b u e
  ·exact nit c _ z
theorem Inv.tok(I:Inv X pins σ H s)(t:Nat):Inv X pins σ H {s with toks:=t}:=I.un (h':=s.heap) (t':=t) Un.refl I.hok
theorem Inv.kept{t':Nat}(I:Inv X pins σ H s)(k:∀b u,s.heap.get? b=some u->h'.get? b=some u):Inv X pins σ H {s with heap:=h',toks:=t'}:=I.un (Un.kept k) (I.hok.kept k)
theorem Inv.laid{a:Addr}{o:HO}{t':Nat}(I:Inv X pins σ H s)(k:∀b u,s.heap.get? b=some u->h'.get? b=some u)(hp:s.heap.objs.size<=a)(new:dH X.prog X.w (upd H a o) h' a o):
  Inv X pins σ (upd H a o) {s with heap:=h',toks:=t'}:=I.un (Un.laid k hp (I.hok.fresh hp)) (I.hok.laid k hp new)
theorem Inv.write{x e:Addr}{o:HO}{t':Nat}(I:Inv X pins σ H s)(mu:Mut (H x))(he:e=x\/H e=some (.own x))(k:∀b u,b≠e->s.heap.get? b=some u->h'.get? b=some u)(heo:∃u,h'.get? e=some u)
  (new:dH X.prog X.w (upd H x o) h' x o):Inv X pins σ (upd H x o) {s with heap:=h',toks:=t'}:=I.un (Un.write mu he k heo) (I.hok.write mu he k heo new)
theorem Inv.pins_of{pins':tzB}(I:Inv X pins σ H s)(h:∀p∈pins',s.heap.get? p.1=some p.2/\H p.1=none/\p.1≠X.env.locals/\p.1∉X.fs/\∀v,p.2.data≠ .cell v):Inv X pins' σ H s:=
 ⟨I.ok,I.os,I.bare,I.base,I.loc,I.cell,I.free,I.freeC,fun p hp=>(ZE.mp hp).elim (fun z=>I.pin p (Zu _ z)) (h p),I.hok,I.len⟩
theorem zn3{N:List Str}(hN:N.Nodup){i j:Nat}{x:Str}(a:N[i]? =some x)(b:N[j]? =some x):i=j:=by
 obtain⟨h1,e1⟩:=Z7.mp a
 obtain⟨h2,e2⟩:=Z7.mp b
 exact(List.getElem_inj hN).mp (e1.trans e2.symm)
theorem yi5{M:Model}{A:Around}{E:Value->Shared->Prop}{i:Nat}{x:Str}{v:V}{u:Value}{Q:Unit->Shared->Prop}(I:Inv X pins σ H s)(hN:X.N.Nodup)(hi:X.N[i]? =some x)(hx:Loc X.env.scope x)(r:cL v u)
  (h:∀s',Inv X pins (σ.set i (some v)) H s'->(∃a,Heap.SameBut a s.heap s'.heap/\(a=X.env.locals\/X.env.cells.lookup x=some a))->Q () s') (hf:X.fn x=true\/X.env.scope.names.lookup x=some .local:=by first|exact .inl rfl|exact .inr rfl|assumption):wpAny M A (storeName X.env x u) Q E s:=by
 obtain⟨m,hn,hl⟩:=id I.loc
 have hcls:(X.env.scope.kind== .class||(X.env.scope.kind== .module&&X.env.locals !=X.env.globals))=false:=by rw [I.ok.kind];rfl
 have hiσ:i<σ.length:=by rw [I.len];exact(Z7.mp hi).1
 have cne:=I.cne
 have tracked:∀{a:Addr} {h':Heap},(∃o,s.heap.get? a=some o/\H a=none)->Heap.SameBut a s.heap h'->HOk X.prog X.w H h':=fun {a h'} ha hs b ob e=>by
  obtain⟨_,_,hfree⟩:=ha
  refine(I.hok b ob e).stay (fun c w' hc q=>(hs.2 c ?_).trans q) (fun _ q=>q) fun _ _ q=>q
  rintro rfl
  rcases hc with rfl|hc
  ·rw [hfree] at e;cases e
  ·rw [hfree] at hc;cases hc
 rcases hx with hk|hk
 ·refine wpAny_storeName_local hk hn (fun h' hn' hs=> ?_) hcls
  obtain⟨oL,_,_,hoL,_⟩:=id hn
  refine h _ ⟨I.ok,I.os,I.bare,⟨fun b o e n hb hx=> ?_,fun b o e n hb hx=> ?_,I.base.free,fun b o e hx=> ?_,I.base.tups,I.base.frzs,I.base.tbls⟩,⟨_,hn',fun j y v' e1 e2 e3=> ?_⟩,fun y c e=> ?_,I.free,I.freeC,fun p hp=> ?_,tracked ⟨oL,hoL,I.free⟩ hs,by simpa using I.len⟩ ⟨_,hs,.inl rfl⟩
  ·exact(hs.2 b (ZI (Zw (Zo e) I.ok.above))).trans (I.base.keep b o e n hb hx)
  ·obtain⟨sl,e1⟩:=I.base.slot b o e n hb hx
   exact⟨sl,(hs.2 b (ZI (Zw (Zo e) I.ok.above))).trans e1⟩
  ·obtain⟨o',e1⟩:=I.base.there b o e hx
   exact⟨o',(hs.2 b (ZI (Zw (Zo e) I.ok.above))).trans e1⟩
  ·by_cases hj:j=i
   ·subst hj
    rw [hi] at e1;cases e1
    rw [Zx hiσ] at e2
    cases e2
    exact⟨u,r,.inl ⟨hk,by simp⟩⟩
   ·rw [Zs (Ya hj)] at e2
    obtain⟨u',r',q⟩:=hl j y v' e1 e2 e3
    refine⟨u',r',?_⟩
    rcases q with ⟨k,e⟩|⟨k,c,e,z⟩
    ·refine .inl ⟨k,?_⟩
     have:y≠x:=fun e=>hj (zn3 hN e1 (e▸hi))
     simp [this,e]
    ·exact .inr ⟨k,c,e,z.sameBut hs (cne y c e)⟩
  ·obtain⟨w',z⟩:=I.cell y c e
   exact⟨w',z.sameBut hs (cne y c e)⟩
  ·obtain⟨e,n,ne,nf,d⟩:=I.pin p hp
   exact⟨(hs.2 p.1 ne).trans e,n,ne,nf,d⟩
 ·have hfn:X.fn x=true:=by
   rcases hf with z|z
   ·exact z
   ·rw [z] at hk;cases hk
  obtain⟨c,hc⟩:=I.ok.has x (.inl hk)
  obtain⟨w',z⟩:=I.cell x c hc
  refine wpAny_storeName_cell I.ok.kind hk hc z (fun h' hc' hs=> ?_)
  obtain⟨oc,hoc,hocd⟩:=id z
  refine h {s with heap:=h'} ⟨I.ok,I.os,I.bare,⟨fun b o e n hb hx=> ?_,fun b o e n hb hx=> ?_,I.base.free,fun b o e hx=> ?_,I.base.tups,I.base.frzs,I.base.tbls⟩,⟨m,hn.sameBut hs (Ya (cne x c hc)),fun j y v' e1 e2 e3=> ?_⟩,fun y c' e=> ?_,I.free,I.freeC,fun p hp=> ?_,tracked ⟨oc,hoc,I.freeC x c hc⟩ hs,by simpa using I.len⟩ ⟨c,hs,.inr hc⟩
  ·exact(hs.2 b (ZI (Zw (Zo e) (I.ok.cab x c hfn hc)))).trans (I.base.keep b o e n hb hx)
  ·obtain⟨sl,e1⟩:=I.base.slot b o e n hb hx
   exact⟨sl,(hs.2 b (ZI (Zw (Zo e) (I.ok.cab x c hfn hc)))).trans e1⟩
  ·obtain⟨o',e1⟩:=I.base.there b o e hx
   exact⟨o',(hs.2 b (ZI (Zw (Zo e) (I.ok.cab x c hfn hc)))).trans e1⟩
  ·by_cases hj:j=i
   ·subst hj
    rw [hi] at e1;cases e1
    rw [Zx hiσ] at e2
    cases e2
    exact⟨u,r,.inr ⟨.inl hk,c,hc,hc'⟩⟩
   ·rw [Zs (Ya hj)] at e2
    obtain⟨u',r',q⟩:=hl j y v' e1 e2 e3
    refine⟨u',r',?_⟩
    rcases q with q|⟨k,c',e,z'⟩
    ·exact .inl q
    ·refine .inr ⟨k,c',e,z'.sameBut hs ?_⟩
     rintro rfl
     exact hj (zn3 hN e1 (I.ok.inj _ _ _ e hc▸hi))
  ·by_cases hcc:c'=c
   ·subst hcc;exact⟨_,hc'⟩
   ·obtain⟨w2,z2⟩:=I.cell y c' e
    exact⟨w2,z2.sameBut hs hcc⟩
  ·obtain⟨e,n,ne,nf,d⟩:=I.pin p hp
   refine⟨(hs.2 p.1 ?_).trans e,n,ne,nf,d⟩
   intro q
   rw [q,hoc] at e
   have q':oc=p.2:=ZA e
   exact d w' (by rw [<-q'];exact hocd)
theorem zn4{M:Model}{A:Around}{E:Value->Shared->Prop}{i:Nat}{x:Str}{v:V}{u:Value}{Q:Unit->Shared->Prop}(I:Inv X pins σ H s)(hN:X.N.Nodup)(hi:X.N[i]? =some x)(hx:Loc X.env.scope x)(r:cL v u)
  (h:∀s',Inv X pins (σ.set i (some v)) H s'->Q () s') (hf:X.fn x=true\/X.env.scope.names.lookup x=some .local:=by first|exact .inl rfl|exact .inr rfl|assumption):wpAny M A (storeName X.env x u) Q E s:=
 yi5 I hN hi hx r (fun s' I' _=>h s' I') hf
theorem Inv.call'{s':Shared}{ch:List Addr}(I:Inv X pins σ H s)(ho:s'.os=s.os)(u:Un (frs X.stack) ch H H' s.heap s'.heap)(hok:HOk X.prog X.w H' s'.heap)(hg:AllBare s'.gens)
  (hch:∀b∈ch,(b∈X.ex\/X.s₀.heap.objs.size<=b)/\b≠X.env.locals/\(∀x c,X.env.cells.lookup x=some c->c≠b)/\∀p∈X.pn++pins,p.1≠b):Inv X pins σ H' s':=by
 obtain⟨h',g',d',t',o'⟩:=s'
 have e:o'=s.os:=ho
 subst e
 exact I.call (g':=g') (t':=t') (d':=d') u hok hg hch
end
abbrev XK:=Value->Option Addr->Hp->Prop
abbrev St:=List (Option V)
abbrev VK:=V->Hp->Prop
abbrev TE:=St->Hp->VK->Prop
abbrev TT:=St->Hp->(Bool->Hp->Prop)->Prop
abbrev TA:=St->Hp->(List V->Hp->Prop)->Prop
structure Ends where
 nx:St->Hp->Prop
 rt:VK
 bk:St->Hp->Prop:=fun _ _=>False
 ct:St->Hp->Prop:=fun _ _=>False
abbrev TS:=Ends->St->Hp->Prop
def EP(X:Cx)(pins:tzB)(σ:St)(Q:VK)(u:Value)(s':Shared):Prop:=∃v H',Inv X pins σ H' s'/\cL v u/\Q v H'
def TP(X:Cx)(pins:tzB)(σ:St)(Q:Bool->Hp->Prop)(b:Bool)(s':Shared):Prop:=∃H',Inv X pins σ H' s'/\Q b H'
def AP(X:Cx)(pins:tzB)(σ:St)(Q:List V->Hp->Prop)(us:List Value)(s':Shared):Prop:=∃vs H',Inv X pins σ H' s'/\bT vs us/\Q vs H'
def SP(X:Cx)(pins:tzB)(D:Ends)(f:Flow)(s':Shared):Prop:=
 match f with
 | .next=>∃σ' H',Inv X pins σ' H' s'/\D.nx σ' H'
 | .brk=>∃σ' H',Inv X pins σ' H' s'/\D.bk σ' H'
 | .cont=>∃σ' H',Inv X pins σ' H' s'/\D.ct σ' H'
 | .ret u=>∃v σ' H',Inv X pins σ' H' s'/\cL v u/\D.rt v H'
def PEd(X:Cx)(e:Expr)(t:TE):Prop:=
 ∀(pins:tzB) (s:Shared) (σ:St) (H:Hp) (Q:VK),Inv X pins σ H s->t σ H Q->wpAny (model X.prog X.w) X.A (eval e X.env) (EP X pins σ Q) X.xe s
structure PE(X:Cx)(e:Expr)(t:TE):Prop where
 go:PEd X e t
instance {X:Cx} {e:Expr} {t:TE}:CoeFun (PE X e t) fun _=>PEd X e t:=⟨PE.go⟩
def PTd(X:Cx)(e:Expr)(t:TT):Prop:=
 ∀(pins:tzB) (s:Shared) (σ:St) (H:Hp) (Q:Bool->Hp->Prop),Inv X pins σ H s->t σ H Q->wpAny (model X.prog X.w) X.A (isTrue e X.env (eval e X.env)) (TP X pins σ Q) X.xe s
structure PT(X:Cx)(e:Expr)(t:TT):Prop where
 go:PTd X e t
instance {X:Cx} {e:Expr} {t:TT}:CoeFun (PT X e t) fun _=>PTd X e t:=⟨PT.go⟩
def PWd(X:Cx)(e:Expr)(t:TT):Prop:=
 ∀(whole:Sem Value) (pins:tzB) (s:Shared) (σ:St) (H:Hp) (Q:Bool->Hp->Prop),Inv X pins σ H s->t σ H Q->wpAny (model X.prog X.w) X.A (isTrue e X.env whole) (TP X pins σ Q) X.xe s
structure PW(X:Cx)(e:Expr)(t:TT):Prop where
 go:PWd X e t
instance {X:Cx} {e:Expr} {t:TT}:CoeFun (PW X e t) fun _=>PWd X e t:=⟨PW.go⟩
theorem PW.pt{X:Cx}{e:Expr}{t:TT}(h:PW X e t):PT X e t:=⟨h _⟩
def PAd(X:Cx)(es:List Expr)(t:TA):Prop:=
 ∀(pos:Pos) (pins:tzB) (s:Shared) (σ:St) (H:Hp) (Q:List V->Hp->Prop),Inv X pins σ H s->t σ H Q->wpAny (model X.prog X.w) X.A (spliced (backTo pos (starEach es X.env))) (AP X pins σ Q) X.xe s
structure PA(X:Cx)(es:List Expr)(t:TA):Prop where
 go:PAd X es t
instance {X:Cx} {es:List Expr} {t:TA}:CoeFun (PA X es t) fun _=>PAd X es t:=⟨PA.go⟩
def PSd(X:Cx)(st:Stmt)(t:TS):Prop:=
 ∀(pins:tzB) (s:Shared) (σ:St) (H:Hp) (D:Ends),Inv X pins σ H s->t D σ H->wpAny (model X.prog X.w) X.A (exec st X.env) (SP X pins D) X.xe s
structure PS(X:Cx)(st:Stmt)(t:TS):Prop where
 go:PSd X st t
instance {X:Cx} {st:Stmt} {t:TS}:CoeFun (PS X st t) fun _=>PSd X st t:=⟨PS.go⟩
def xr4(X:Cx)(st:List Stmt)(t:TS):Prop:=
 ∀(pins:tzB) (s:Shared) (σ:St) (H:Hp) (D:Ends),Inv X pins σ H s->t D σ H->wpAny (model X.prog X.w) X.A (execs st X.env) (SP X pins D) X.xe s
structure PSs(X:Cx)(st:List Stmt)(t:TS):Prop where
 go:xr4 X st t
instance {X:Cx} {st:List Stmt} {t:TS}:CoeFun (PSs X st t) fun _=>xr4 X st t:=⟨PSs.go⟩
theorem thn{α:Type}{t:Sem α}{Q Q':α->Shared->Prop}{M:Model}{A:Around}{E:Value->Shared->Prop}{s:Shared}(h:wpAny M A t Q E s)(hQ:∀a s,Q a s->Q' a s):wpAny M A t Q' E s:=Y8 h hQ fun _ _ x=>x
section
variable{X:Cx}
def xr5(i:Nat):TE:=fun σ H Q=>∃v,σ[i]? =some (some v)/\Q v H
def tC(v:V):TE:=fun _ H Q=>Q v H
theorem sP{i:Nat}{x:Str}{pos:Pos}(hN:X.N[i]? =some x)(hv:Vis X.env.scope x)(hd:NDb x:=by decide)(hcd:(x==("__classdict__":Str))=false:=by decide):PE X (.Name x pos) (xr5 i):=⟨by
 intro pins s σ H Q I h
 obtain⟨v,e,h⟩:=h
 obtain⟨m,hn,hl⟩:=I.loc
 obtain⟨u,r,l⟩:=hl i x v hN e hv
 have fin:EP X pins σ Q u s:=⟨v,H,I,r,h⟩
 rcases l with ⟨hk,hm⟩|⟨hk,c,hc,hcell⟩
 ·exact YX (wpAny_loadName_local I.ok.kind hk hn hm fin) hd
 ·rcases hk with hk|hk
  ·exact YX (wpAny_loadName_cell I.ok.kind hk hc hcell fin) hd
  ·exact YX (wpAny_loadName_free I.ok.kind hk hc hcell fin hcd) hd⟩
theorem hX{i j pos}:PE X (.Constant (.int i) j pos) (tC (.int i)):=⟨fun _ _ _ H _ I h=>wpAny_Constant_int ⟨.int i,H,I.tok _,⟨_,rfl⟩,h⟩⟩
theorem xb7{b j pos}:PE X (.Constant (.bool b) j pos) (tC (.bl b)):=⟨fun _ _ _ H _ I h=>Constant_bool ⟨.bl b,H,I,rfl,h⟩⟩
theorem yi6{j pos}:PE X (.Constant .none j pos) (tC .non):=⟨fun _ _ _ H _ I h=>Constant_none ⟨.non,H,I,rfl,h⟩⟩
theorem yi7{x j pos}:PE X (.Constant (.str x) j pos) (tC (.str x)):=⟨fun _ _ _ H _ I h=>Xk ⟨.str x,H,I.tok _,⟨_,rfl⟩,h⟩⟩
def Gl(X:Cx)(x:Str):Prop:=X.env.kindOf x=some .globalImplicit
theorem wX{E:Value->Shared->Prop}{pins:tzB}{s:Shared}{σ:St}{H:Hp}{x:Str}{u:Value}{pos:Pos}{Q:Value->Shared->Prop}(I:Inv X pins σ H s)(hg:Gl X x)(hm:X.mg x=some u)(h:Q u s)
  (hd:NDb x:=by decide):wpAny (model X.prog X.w) X.A (eval (.Name x pos) X.env) Q E s:=
 XX I.ok.kind hg (Calls.loadGlobal_global (by rw [I.ok.glob];exact I.mod.glob.keeps I.bk) hm h) hd
theorem sQ{E:Value->Shared->Prop}{pins:tzB}{s:Shared}{σ:St}{H:Hp}{x:Str}{u:Value}{pos:Pos}{Q:Value->Shared->Prop}(I:Inv X pins σ H s)(hg:Gl X x)(hm:X.mg x=none)(hv:bootBuiltins x=some u)(h:Q u s)
  (hn:x≠"__name__":=by decide) (hd:NDb x:=by decide):wpAny (model X.prog X.w) X.A (eval (.Name x pos) X.env) Q E s:=by
 obtain⟨mb,h1,h2⟩:=I.mod.blt
 exact XX I.ok.kind hg (Calls.loadGlobal_builtin (by rw [I.ok.glob];exact I.mod.glob.keeps I.bk) hm (by rw [I.ok.blt];exact h1.keeps I.bk) ((h2 x hn).trans hv) h) hd
theorem xe0{x:Str}{v:V}{u:Value}{pos:Pos}(hg:Gl X x)(hm:X.mg x=some u)(r:cL v u)(hd:NDb x:=by decide):PE X (.Name x pos) (tC v):=
 ⟨fun _ _ _ H _ I h=>wX I hg hm ⟨v,H,I,r,h⟩ hd⟩
theorem xe1{x:Str}{v:V}{u:Value}{pos:Pos}(hg:Gl X x)(hm:X.mg x=none)(hv:bootBuiltins x=some u)(r:cL v u)(hn:x≠"__name__":=by decide)(hd:NDb x:=by decide):PE X (.Name x pos) (tC v):=
 ⟨fun _ _ _ H _ I h=>sQ I hg hm hv ⟨v,H,I,r,h⟩ hn hd⟩
variable{a b:Expr}{ta tb:TE}{pos:Pos}
def PC(X:Cx)(op:CmpOp)(a b:Expr)(t:TE):Prop:=
 ∀(pins:tzB) (s:Shared) (σ:St) (H:Hp) (Q:VK),Inv X pins σ H s->t σ H Q->
  wpAny (model X.prog X.w) X.A (eval a X.env) (fun v s₁=>wpAny (model X.prog X.w) X.A (eval b X.env) (fun u s₂=>wpAny (model X.prog X.w) X.A (compareOp op v u) (EP X pins σ Q) X.xe s₂) X.xe s₁) X.xe s
def tB(t:TE):TT:=fun σ H Q=>t σ H fun x H1=>∃c,x= .bl c/\Q c H1
theorem xm0{op:CmpOp}{t:TE}(h:PC X op a b t)(h1:behindInMarks op b=false:=by first|exact nobehind _ (by decide) (by decide)|rfl):PT X (.Compare a [op] [b] pos) (tB t):=⟨by
 intro pins s σ H Q I hw
 refine X6 (thn (h pins s σ H _ I hw) fun v s1 h1=>thn h1 fun u s2 h2=>thn h2 fun c s3 ⟨x,H1,I1,r1,q1⟩=> ?_) h1
 obtain⟨d,rfl,q⟩:=q1
 cases r1
 exact ZY ⟨H1,I1,q⟩⟩
variable{tA tB':TT}{rest:List Expr}
def xy0(t u:TT):TT:=fun σ H Q=>t σ H fun c H1=>if c=true then u σ H1 Q else Q false H1
def tOr(t u:TT):TT:=fun σ H Q=>t σ H fun c H1=>if c=true then Q true H1 else u σ H1 Q
def xy1(t:TT):TT:=fun σ H Q=>t σ H fun c H1=>Q (!c) H1
theorem xe2(ha:PT X a tA):PW X (.BoolOp .And [a] pos) tA:=⟨by
 intro wh pins s σ H Q I h
 refine isTrue_and (thn (ha pins s σ H Q I h) fun c s1 e=> ?_)
 cases c with
 |true=>exact isTrue_and_nil e
 |false=>exact e⟩
theorem yi8(ha:PT X a tA):PW X (.BoolOp .Or [a] pos) tA:=⟨by
 intro wh pins s σ H Q I h
 refine isTrue_or (thn (ha pins s σ H Q I h) fun c s1 e=> ?_)
 cases c with
 |false=>exact isTrue_or_nil e
 |true=>exact e⟩
theorem xm1(ha:PT X a tA)(hb:PW X (.BoolOp .And (b::rest) pos) tB'):PW X (.BoolOp .And (a::b::rest) pos) (xy0 tA tB'):=⟨by
 intro wh pins s σ H Q I h
 refine isTrue_and (thn (ha pins s σ H _ I h) fun c s1 ⟨H1,I1,q1⟩=> ?_)
 cases c with
 |true=>exact hb wh pins s1 σ H1 Q I1 q1
 |false=>exact⟨H1,I1,q1⟩⟩
theorem xb8(ha:PT X a tA)(hb:PW X (.BoolOp .Or (b::rest) pos) tB'):PW X (.BoolOp .Or (a::b::rest) pos) (tOr tA tB'):=⟨by
 intro wh pins s σ H Q I h
 refine isTrue_or (thn (ha pins s σ H _ I h) fun c s1 ⟨H1,I1,q1⟩=> ?_)
 cases c with
 |true=>exact⟨H1,I1,q1⟩
 |false=>exact hb wh pins s1 σ H1 Q I1 q1⟩
theorem yi9(ha:PT X a tA):PT X (.UnaryOp .Not a pos) (xy1 tA):=⟨by
 intro pins s σ H Q I h
 exact isTrue_not (ha pins s σ H (fun c H1=>Q (!c) H1) I h)⟩
def xv6(ta tb:TE):TE:=fun σ H Q=>ta σ H fun x H1=>∃c,x= .bl c/\if c=true then tb σ H1 Q else Q (.bl false) H1
def xy2(ta tb:TE):TE:=fun σ H Q=>ta σ H fun x H1=>∃c,x= .bl c/\if c=true then Q (.bl true) H1 else tb σ H1 Q
theorem yj0{op}{t:TE}(h:PE X a t):PE X (.BoolOp op [a] pos) t:=⟨fun pins s σ H Q I hw=>BoolOp_one (h pins s σ H Q I hw)⟩
theorem yj1(ha:PE X a ta)(hb:PE X (.BoolOp .And (b::rest) pos) tb):PE X (.BoolOp .And (a::b::rest) pos) (xv6 ta tb):=⟨by
 intro pins s σ H Q I h
 refine BoolOp_and (thn (ha pins s σ H _ I h) fun v s1 ⟨x,H1,I1,r1,q1⟩=> ?_)
 obtain⟨c,rfl,q1⟩:=q1
 cases r1
 refine ZY ?_
 cases c with
 |true=>exact hb pins s1 σ H1 Q I1 q1
 |false=>exact⟨.bl false,H1,I1,rfl,q1⟩⟩
theorem xu1(ha:PE X a ta)(hb:PE X (.BoolOp .Or (b::rest) pos) tb):PE X (.BoolOp .Or (a::b::rest) pos) (xy2 ta tb):=⟨by
 intro pins s σ H Q I h
 refine BoolOp_or (thn (ha pins s σ H _ I h) fun v s1 ⟨x,H1,I1,r1,q1⟩=> ?_)
 obtain⟨c,rfl,q1⟩:=q1
 cases r1
 refine ZY ?_
 cases c with
 |false=>exact hb pins s1 σ H1 Q I1 q1
 |true=>exact⟨.bl true,H1,I1,rfl,q1⟩⟩
end
def SqL(K:tz0)(H:Hp)(a:Addr)(xs:List V):Prop:=
 Rd H a (.lst xs)\/
  ∃(o:Obj) (its:Array Value) (n:Nat),K.lookup a=some o/\o.cls= .type "list"/\o.dict=none/\o.data= .seq its n/\its.size<=sizeLine/\bT xs its.toList
def SqT(K:tz0)(H:Hp)(a:Addr)(xs:List V):Prop:=
 Rd H a (.tup xs)\/
  ∃(o:Obj) (its:Array Value) (n:Nat),K.lookup a=some o/\o.cls= .type "tuple"/\o.data= .seq its n/\its.size<=sizeLine/\bT xs its.toList
def xy3:Value->Option V
 | .none=>some .non
 | .bool b=>some (.bl b)
 | .int i _=>some (.int i)
 | .str x _=>some (.str x)
 | .bytes b _=>some (.byt b)
 | .float b _=>some (.flt b)
 | .ref a=>some (.ref a)
 | .type n=>some (.ty n)
 |_=>none
theorem cL.abs{x:V}{u:Value}(r:cL x u):xy3 u=some x:=by
 cases x with
 |non=>cases r;rfl
 |bl _=>cases r;rfl
 |int _=>obtain⟨t,rfl⟩:=r;rfl
 |str _=>obtain⟨t,rfl⟩:=r;rfl
 |byt _=>obtain⟨t,rfl⟩:=r;rfl
 |flt _=>obtain⟨t,rfl⟩:=r;rfl
 |ref _=>cases r;rfl
 |ty _=>cases r;rfl
theorem cL.inj{x y:V}{u:Value}(r:cL x u)(q:cL y u):x=y:=ZA (r.abs.symm.trans q.abs)
theorem bT.inj:∀{xs ys:List V} {us:List Value},bT xs us->bT ys us->xs=ys
 |_,_,_,.nil,.nil=>rfl
 |_,_,_,.cons r t,.cons r' t'=>by rw [r.inj r',bT.inj t t']
section
variable{X:Cx}{pins:tzB}{σ:St}{H:Hp}{s:Shared}{a:Addr}{xs ys:List V}
theorem Inv.list(I:Inv X pins σ H s)(h:SqL X.K H a xs):∃its:List Value,bT xs its/\PlainL s.heap a its.toArray/\xs.length<=sizeLine:=by
 rcases h with h|⟨o,its,n,hk,hc,hd,hs,hz,r⟩
 ·obtain⟨z,its,n,r,e⟩:=h.ok I.hok
  exact⟨its,r,⟨_,n,e,rfl,rfl,rfl⟩,z⟩
 ·refine⟨its.toList,r,⟨o,n,I.kIn a o hk,hc,hd,by simpa using hs⟩,?_⟩
  have e:=r.length
  simp only [ZF] at e
  omega
theorem Inv.tuple(I:Inv X pins σ H s)(h:SqT X.K H a xs):∃its:List Value,bT xs its/\IsTup s.heap a its.toArray/\xs.length<=sizeLine:=by
 rcases h with h|⟨o,its,n,hk,hc,hs,hz,r⟩
 ·obtain⟨z,its,r,p⟩:=h.ok I.hok
  exact⟨its,r,p,z⟩
 ·refine⟨its.toList,r,⟨o,I.kIn a o hk,hc,n,by simpa using hs⟩,?_⟩
  have e:=r.length
  simp only [ZF] at e
  omega
theorem Inv.list_inj(I:Inv X pins σ H s)(h:SqL X.K H a xs)(h':SqL X.K H a ys):xs=ys:=by
 obtain⟨its,r,⟨o,n,e,_,_,d⟩,_⟩:=I.list h
 obtain⟨its',r',⟨o',n',e',_,_,d'⟩,_⟩:=I.list h'
 rw [e] at e';cases e'
 rw [d] at d'
 injection d' with d1 _
 have:its=its':=by simpa using ZS Array.toList d1
 subst this
 exact r.inj r'
theorem Inv.tuple_inj(I:Inv X pins σ H s)(h:SqT X.K H a xs)(h':SqT X.K H a ys):xs=ys:=by
 obtain⟨its,r,⟨o,e,_,n,d⟩,_⟩:=I.tuple h
 obtain⟨its',r',⟨o',e',_,n',d'⟩,_⟩:=I.tuple h'
 rw [e] at e';cases e'
 rw [d] at d'
 injection d' with d1 _
 have:its=its':=by simpa using ZS Array.toList d1
 subst this
 exact r.inj r'
end
abbrev Cx.wish(X:Cx)(E:Value->Shared->Prop):Cx:={X with xe:=E}
abbrev Cx.nox(X:Cx):Cx:=X.wish fun _ _=>False
theorem Cx.Ok.wish{X:Cx}(ok:X.Ok)(E:Value->Shared->Prop):(X.wish E).Ok:=
 ⟨ok.mod,ok.kind,ok.glob,ok.blt,ok.above,ok.inj,ok.has,ok.cab,ok.hd,ok.frames,ok.stk,ok.exf,ok.bs,ok.bsz,ok.noex,ok.exfs,ok.funs,ok.frf⟩
theorem Cx.Ok.unwish{X:Cx}{E:Value->Shared->Prop}(ok:(X.wish E).Ok):X.Ok:=
 ⟨ok.mod,ok.kind,ok.glob,ok.blt,ok.above,ok.inj,ok.has,ok.cab,ok.hd,ok.frames,ok.stk,ok.exf,ok.bs,ok.bsz,ok.noex,ok.exfs,ok.funs,ok.frf⟩
section
variable{X:Cx}{pins:tzB}{σ:St}{H:Hp}{s:Shared}{E:Value->Shared->Prop}
theorem Inv.wish(I:Inv X pins σ H s)(E:Value->Shared->Prop):Inv (X.wish E) pins σ H s:=⟨I.ok.wish E,I.os,I.bare,I.base,I.loc,I.cell,I.free,I.freeC,I.pin,I.hok,I.len⟩
theorem Inv.unwish(I:Inv (X.wish E) pins σ H s):Inv X pins σ H s:=⟨I.ok.unwish,I.os,I.bare,I.base,I.loc,I.cell,I.free,I.freeC,I.pin,I.hok,I.len⟩
theorem SP.unwish{D:Ends}{f:Flow}{s':Shared}(h:SP (X.wish E) pins D f s'):SP X pins D f s':=by
 cases f with
 |next=>obtain⟨σ',H',I,q⟩:=h;exact⟨σ',H',I.unwish,q⟩
 |brk=>obtain⟨σ',H',I,q⟩:=h;exact⟨σ',H',I.unwish,q⟩
 |cont=>obtain⟨σ',H',I,q⟩:=h;exact⟨σ',H',I.unwish,q⟩
 |ret u=>obtain⟨v,σ',H',I,r,q⟩:=h;exact⟨v,σ',H',I.unwish,r,q⟩
theorem PSs.nox{st:List Stmt}{t:TS}(h:PSs X.nox st t):PSs X st t:=⟨fun pins s σ H D I hw=>
 Y8 (h pins s σ H D (I.wish _) hw) (fun _ _ q=>q.unwish) fun _ _ z=>False.elim z⟩
end
section
variable{X:Cx}{st:Stmt}{rest:List Stmt}{t u:TS}{e:Expr}{te:TE}{pos:Pos}
def xv7:TS:=fun D σ H=>D.nx σ H
def xy4(t u:TS):TS:=fun D σ H=>t {D with nx:=u D} σ H
theorem zx2:PSs X [] xv7:=⟨fun _ _ σ H _ I h=>YD ⟨σ,H,I,h⟩⟩
theorem mG(h1:PS X st t)(h2:PSs X rest u):PSs X (st::rest) (xy4 t u):=⟨by
 intro pins s σ H D I h
 refine XC (thn (h1 pins s σ H {D with nx:=u D} I h) fun f s1 q=> ?_)
 cases f with
 |next=>
  obtain⟨σ',H',I',q⟩:=q
  exact h2 pins s1 σ' H' D I' q
 |ret v=>exact q
 |brk=>exact q
 |cont=>exact q⟩
theorem wY(h1:PS X st t):PSs X [st] t:=⟨by
 intro pins s σ H D I h
 refine XC (thn (h1 pins s σ H D I h) fun f s1 q=> ?_)
 cases f with
 |next=>exact YD q
 |ret v=>exact q
 |brk=>exact q
 |cont=>exact q⟩
theorem Inv.quiet{pins:tzB}{σ:St}{H:Hp}{s:Shared}(I:Inv X pins σ H s):interactive X.env=false:=by simp [interactive,I.ok.kind]
def xv8(te:TE):TS:=fun D σ H=>te σ H fun _ H1=>D.nx σ H1
theorem xe3(he:PE X e te)(hs:swapsWith e none pos.line X.env=pure false:=by rfl):PS X (.Expr e pos) (xv8 te):=⟨by
 intro pins s σ H D I h
 exact wpAny_Expr_any (thn (he pins s σ H _ I h) fun v s1 ⟨x,H1,I1,r1,q1⟩=>⟨σ,H1,I1,q1⟩) I.quiet hs⟩
def xy5(te:TE):TS:=fun D σ H=>te σ H D.rt
theorem vM(he:PE X e te):PS X (.Return (some e) pos) (xy5 te):=⟨by
 intro pins s σ H D I h
 exact wpAny_Return_some (thn (he pins s σ H _ I h) fun v s1 ⟨x,H1,I1,r1,q1⟩=>⟨x,σ,H1,I1,r1,q1⟩)⟩
def xy6(c:TT)(t u:TS):TS:=fun D σ H=>c σ H fun b H1=>if b=true then t D σ H1 else u D σ H1
theorem xb9{c:Expr}{a b:List Stmt}{tc:TT}(hc:PT X c tc)(ha:PSs X a t)(hb:PSs X b u):PS X (.If c a b pos) (xy6 tc t u):=⟨by
 intro pins s σ H D I h
 refine wpAny_If (thn (hc pins s σ H _ I h) fun d s1 ⟨H1,I1,q1⟩=> ?_)
 cases d with
 |true=>exact ha pins s1 σ H1 D I1 q1
 |false=>exact hb pins s1 σ H1 D I1 q1⟩
end
abbrev TG:=V->St->Hp->(St->Hp->Prop)->Prop
abbrev TGs:=List V->St->Hp->(St->Hp->Prop)->Prop
def PGd(X:Cx)(target:Expr)(t:TG):Prop:=
 ∀(pins:tzB) (s:Shared) (σ:St) (H:Hp) (v:V) (u:Value) (Q:St->Hp->Prop),Inv X pins σ H s->cL v u->t v σ H Q->
  wpAny (model X.prog X.w) X.A (assign target X.env u) (fun _ s'=>∃σ' H',Inv X pins σ' H' s'/\Q σ' H') X.xe s
structure PG(X:Cx)(target:Expr)(t:TG):Prop where
 go:PGd X target t
instance {X:Cx} {target:Expr} {t:TG}:CoeFun (PG X target t) fun _=>PGd X target t:=⟨PG.go⟩
def xr6(X:Cx)(ts:List Expr)(t:TGs):Prop:=
 ∀(pins:tzB) (s:Shared) (σ:St) (H:Hp) (vs:List V) (us:List Value) (Q:St->Hp->Prop),Inv X pins σ H s->bT vs us->t vs σ H Q->
  wpAny (model X.prog X.w) X.A (assignInOrder ((assignEach ts X.env).map (·.2)) us) (fun _ s'=>∃σ' H',Inv X pins σ' H' s'/\Q σ' H') X.xe s
structure PGs(X:Cx)(ts:List Expr)(t:TGs):Prop where
 go:xr6 X ts t
instance {X:Cx} {ts:List Expr} {t:TGs}:CoeFun (PGs X ts t) fun _=>xr6 X ts t:=⟨PGs.go⟩
abbrev xa2:=V->V->V->Hp->(Hp->Prop)->Prop
def xr7(X:Cx)(t:xa2):Prop:=
 ∀(pins:tzB) (s:Shared) (σ:St) (H:Hp) (o i v:V) (ov iv u:Value) (Q:Hp->Prop),Inv X pins σ H s->cL o ov->cL i iv->cL v u->t o i v H Q->
  wpAny (model X.prog X.w) X.A (setItem ov iv u) (fun _ s'=>∃H',Inv X pins σ H' s'/\Q H') X.xe s
section
variable{X:Cx}{pos:Pos}
def uW(i:Nat):TG:=fun v σ H Q=>Q (σ.set i (some v)) H
theorem kD{i:Nat}{x:Str}(hN:X.N.Nodup)(hi:X.N[i]? =some x)(hx:Loc X.env.scope x)(hf:X.fn x=true\/X.env.scope.names.lookup x=some .local:=by first|exact .inl rfl|exact .inr rfl|assumption):PG X (.Name x pos) (uW i):=⟨by
 intro pins s σ H v u Q I r h
 exact wpAny_assign_Name (zn4 I hN hi hx r (fun s' I'=>⟨_,H,I',h⟩) hf)⟩
def xr8:TGs:=fun vs σ H Q=>vs=[]/\Q σ H
def xd3(t:TG)(u:TGs):TGs:=fun vs σ H Q=>∃v r,vs=v::r/\t v σ H fun σ' H'=>u r σ' H' Q
theorem zx3:PGs X [] xr8:=⟨by
 intro pins s σ H vs us Q I r h
 obtain⟨e,h⟩:=h
 subst e
 cases r
 exact assignInOrder_nil ⟨σ,H,I,h⟩⟩
theorem nT{e:Expr}{es:List Expr}{t:TG}{u:TGs}(h1:PG X e t)(h2:PGs X es u)
  (hs:(assignEach (e::es) X.env).map (·.2)=assign e X.env::(assignEach es X.env).map (·.2):=by rfl):PGs X (e::es) (xd3 t u):=⟨by
 intro pins s σ H vs us Q I r h
 obtain⟨v,vr,e1,h⟩:=h
 subst e1
 cases r with
 |cons r rr=>
  rw [hs]
  refine assignInOrder_cons (thn (h1 pins s σ H _ _ _ I r h) fun _ s1 ⟨σ1,H1,I1,q1⟩=> ?_)
  exact h2 pins s1 σ1 H1 _ _ Q I1 rr q1⟩
def xa3(K:tz0)(n:Nat)(t:TGs):TG:=fun v σ H Q=>∃a xs,v= .ref a/\SqT K H a xs/\xs.length=n/\t xs σ H Q
theorem xm2{es:List Expr}{k:Nat}{t:TGs}{n:Nat}(hc:X.calm=true)(h:PGs X es t)
  (hn:(assignEach es X.env).length=n:=by rfl) (hst:(assignEach es X.env).findIdx? (·.1)=none:=by rfl):PG X (.Tuple es k pos) (xa3 X.K n t):=⟨by
 intro pins s σ H v u Q I r hw
 obtain⟨a,xs,e1,hq,hl,hw⟩:=hw
 subst e1
 cases r
 obtain⟨its,rv,ht,hz⟩:=I.tuple hq
 refine assign_Tuple_tuple (I.ok.hd hc) ht (by simp [hn,<-hl,rv.length]) hst fun h' hx=> ?_
 have I1:Inv X pins σ H {s with heap:=h'}:=I.kept (t':=s.toks) fun b o e=>hx b o (ZI (Zo e)) e
 exact h pins _ σ H xs _ Q I1 (by simpa using rv) hw⟩
def xy7(to ti:TE)(t:xa2):TG:=fun v σ H Q=>to σ H fun o H1=>ti σ H1 fun i H2=>t o i v H2 fun H3=>Q σ H3
theorem xm3{o i:Expr}{to ti:TE}{t:xa2}(ho:PE X o to)(hi:PE X i ti)(hs:xr7 X t)
  (ha:∀v,assign (.Subscript o i pos) X.env v=(do
   let ov<-holding [v] (eval o X.env)
   let iv<-holding [v,ov] (eval i X.env)
   standAt pos
   holding [v,ov,iv] (setItem ov iv v)
   release [v,ov,iv] []):=by intro _;rfl):PG X (.Subscript o i pos) (xy7 to ti t):=⟨by
 intro pins s σ H v u Q I r h
 rw [ha]
 refine Zg (YQ (thn (ho pins s σ H _ I h) fun ov s1 ⟨x,H1,I1,r1,q1⟩=> ?_))
 refine Zg (YQ (thn (hi pins s1 σ H1 _ I1 q1) fun iv s2 ⟨y,H2,I2,r2,q2⟩=> ?_))
 refine Zg (W0 (Zg (YQ (thn (hs pins s2 σ H2 x y v ov iv u _ I2 r1 r2 r q2) fun _ s3 ⟨H3,I3,q3⟩=> ?_))))
 exact wpAny_release ⟨σ,H3,I3,q3⟩⟩
def xr9(te:TE)(g:TG):TS:=fun D σ H=>te σ H fun x H1=>g x σ H1 D.nx
theorem yj2{tg e:Expr}{te:TE}{g:TG}(he:PE X e te)(hg:PG X tg g)(hs:swapsWithSole [tg] e pos.line X.env=pure false:=by rfl)(hw:swappedStores [tg] e X.env=pure none:=by rfl)
  (h1:(assignEach [tg] X.env).map (·.2)=[assign tg X.env]:=by rfl):PS X (.Assign [tg] e pos) (xr9 te g):=⟨by
 intro pins s σ H D I h
 refine wpAny_Assign_stores (thn (he pins s σ H _ I h) fun v s1 ⟨x,H1,I1,r1,q1⟩=> ?_) hs hw
 rw [h1]
 exact thn (hg pins s1 σ H1 x v _ I1 r1 q1) fun _ s2 q=>q⟩
theorem qL{i:Nat}{x:Str}{e:Expr}{te:TE}{pos':Pos}(hN:X.N.Nodup)(hi:X.N[i]? =some x)(hx:Loc X.env.scope x)(he:PE X e te)(hs:swapsWith e (some (.Name x pos')) pos.line X.env=pure false:=by rfl)(hf:X.fn x=true\/X.env.scope.names.lookup x=some .local:=by first|exact .inl rfl|exact .inr rfl|assumption):
  PS X (.Assign [.Name x pos'] e pos) (xr9 te (uW i)):=⟨by
 intro pins s σ H D I h
 refine wpAny_Assign_Name (thn (he pins s σ H _ I h) fun v s1 ⟨y,H1,I1,r1,q1⟩=> ?_) hs
 exact zn4 I1 hN hi hx r1 (fun s2 I2=>⟨_,H1,I2,q1⟩) hf⟩
def xs0(c:TT)(tb:TS):TS:=fun D σ H=>∃W:Nat->St->Hp->Prop,(∃m,W m σ H)/\∀m σ H,W m σ H->
 c σ H fun b H1=>if b=true then ∃N:St->Hp->Prop,(∀σ' H',N σ' H'->∃m',m'<m/\W m' σ' H')/\tb {D with nx:=N,ct:=N,bk:=D.nx} σ H1 else D.nx σ H1
theorem ys5{c:Expr}{body:List Stmt}{tc:TT}{tb:TS}(hp:PassesOwn (model X.prog X.w) X.A X.env X.xe)(hc:PT X c tc)(hb:PSs X body tb):PS X (.While c body [] pos) (xs0 tc tb):=⟨by
 intro pins s σ H D I h
 obtain⟨W,⟨m0,w0⟩,turn⟩:=h
 refine wpAny_While (codeAny_whileLoop (fun n s'=>∃σ' H',Inv X pins σ' H' s'/\W n σ' H') ?_ m0 ⟨σ,H,I,w0⟩)
 rintro n s1 ⟨σ1,H1,I1,w1⟩
 refine Yf hp (thn (hc pins s1 σ1 H1 _ I1 (turn n σ1 H1 w1)) fun b s2 ⟨H2,I2,q2⟩=> ?_)
 cases b with
 | true=>
  obtain⟨N,hN,q2⟩:=q2
  rw [if_pos rfl]
  refine Yf hp (thn (hb pins s2 σ1 H2 _ I2 q2) fun f s3 q3=> ?_)
  cases f with
  |next=>
   obtain⟨σ3,H3,I3,n3⟩:=q3
   obtain⟨m',hm,w3⟩:=hN σ3 H3 n3
   exact⟨m',hm,σ3,H3,I3,w3⟩
  |cont=>
   obtain⟨σ3,H3,I3,n3⟩:=q3
   obtain⟨m',hm,w3⟩:=hN σ3 H3 n3
   exact⟨m',hm,σ3,H3,I3,w3⟩
  |brk=>exact q3
  |ret v=>exact q3
 |false=>
  rw [if_neg Z8]
  exact YD ⟨σ1,H2,I2,q2⟩⟩
end
structure It where
 go:Nat->Hp->Prop
 yld:Nat->Hp->V->Hp->Prop
 stop:Nat->Hp->Prop
def nH(X:Cx)(pins:tzB)(H:Hp)(b:Addr):Prop:=
 H b=none/\b≠X.env.locals/\b∉X.fs/\(b∈X.ex\/X.s₀.heap.objs.size<=b)/\(∀x c,X.env.cells.lookup x=some c->c≠b)/\∀p∈X.pn++pins,p.1≠b
theorem Inv.fpOk{X:Cx}{pins:tzB}{σ:St}{H H':Hp}{s:Shared}{b:Addr}(I:Inv X pins σ H s)(hb:s.heap.objs.size<=b)(hn:H' b=none):nH X pins H' b:=by
 refine⟨hn,XM (Zw I.lt hb),I.nofs hb,.inr (Zq I.sz hb),fun x c e z=> ?_,fun p hp z=> ?_⟩
 ·obtain⟨v,q⟩:=I.cell x c e
  exact absurd (Zw q.lt (by rw [z];exact hb)) (Y4 _)
 ·exact absurd (Zw (Zo (I.pin p hp).1) (by rw [z];exact hb)) (Y4 _)
structure Turn(P:Program)(w:World)(K:tz0)(tg:Expr)(J:It)(fp:List Addr)(it:Addr)(tn:Nat->Heap->Prop):Prop where
 mem:it∈fp
 obj:∀i h,tn i h->∀b∈fp,∃o,h.get? b=some o/\∀v,o.data≠ .cell v
 keep:∀i h h',tn i h->(∀b∈fp,∀o,h.get? b=some o->h'.get? b=some o)->tn i h'
 item:∀(X:Cx),X.prog=P->X.w=w->X.K=K->X.calm=true->∀(i:Nat) (pins:tzB) (s:Shared) (σ:St) (H:Hp) (E:Value->Shared->Prop),Inv X pins σ H s->(∀b∈fp,nH X pins H b)->tn i s.heap->J.go i H->
  wpAny (model P w) X.A (pyNext (.ref it)) (fun r s1=>∃u,r=some u/\
   wpAny (model P w) X.A (letOwnedTupleGo tg (.ref it) u) (fun _ s2=>∃x H',Inv X pins σ H' s2/\cL x u/\J.yld i H x H'/\tn (i+1) s2.heap/\∀b∈fp,H' b=none) E s1) E s
 done:∀(X:Cx),X.prog=P->X.w=w->X.K=K->X.calm=true->∀(i:Nat) (pins:tzB) (s:Shared) (σ:St) (H:Hp) (E:Value->Shared->Prop),Inv X pins σ H s->(∀b∈fp,nH X pins H b)->tn i s.heap->J.stop i H->
  wpAny (model P w) X.A (pyNext (.ref it)) (fun r s1=>r=none/\Inv X pins σ H s1) E s
 self:∀(A:Around) (i:Nat) (s:Shared) (Q:Value->Shared->Prop) (E:Value->Shared->Prop),tn i s.heap->Q (.ref it) s->wpAny (model P w) A (pyIter (.ref it)) Q E s
abbrev TI:=St->Hp->(It->Hp->Prop)->Prop
def PIE(X:Cx)(pins:tzB)(σ:St)(tg:Expr)(R:It->Hp->Prop)(itv:Value)(s2:Shared):Prop:=
 ∃(it:Addr) (fp:List Addr) (tn:Nat->Heap->Prop) (J:It) (H':Hp),itv= .ref it/\Inv X pins σ H' s2/\Turn X.prog X.w X.K tg J fp it tn/\tn 0 s2.heap/\(∀b∈fp,nH X pins H' b)/\R J H'
def PId(X:Cx)(tg iter:Expr)(wi:TI):Prop:=
 ∀(pins:tzB) (s:Shared) (σ:St) (H:Hp) (R:It->Hp->Prop),Inv X pins σ H s->wi σ H R->
  wpAny (model X.prog X.w) X.A (eval iter X.env) (fun v s1=>wpAny (model X.prog X.w) X.A (pyIter v) (PIE X pins σ tg R) X.xe s1) X.xe s
structure PI(X:Cx)(tg iter:Expr)(wi:TI):Prop where
 go:PId X tg iter wi
instance {X:Cx} {tg iter:Expr} {wi:TI}:CoeFun (PI X tg iter wi) fun _=>PId X tg iter wi:=⟨PI.go⟩
theorem yR{M:Model}{A:Around}{E:Value->Shared->Prop}{s:Shared}{tg:Expr}{it:Addr}{u:Value}{o:Obj}{n:String}{vs:Array Value}{Q:Unit->Shared->Prop}(ho:s.heap.get? it=some o)(hc:o.cls= .type n)(hd:o.data= .fields vs)
  (hn:["enumerate","zip","dict_itemiterator","dict_reverseitemiterator","odict_iterator","itertools.zip_longest","itertools.pairwise"].contains n=false) (hQ:Q () s):wpAny M A (letOwnedTupleGo tg (.ref it) u) Q E s:=by
 unfold letOwnedTupleGo
 cases tg<;>first
  |exact ZD hQ
  | (cases u<;>first
    |exact ZD hQ
    | (refine Zg (wpAny_load ho ?_)
       rw [hc,hd]
       show wpAny M A (if (["enumerate","zip","dict_itemiterator","dict_reverseitemiterator","odict_iterator","itertools.zip_longest","itertools.pairwise"].contains n&&vs[0]? ==some (rawInt _))=true then _ else _) Q E s
       rw [if_neg (by intro h;rw [hn,Xt] at h;cases h)]
       exact ZD hQ))
def Itl(K:tz0)(a:Addr):It:=
 ⟨fun i H=>∃xs x,SqL K H a xs/\xs[i]? =some x,fun i H x H'=>H'=H/\∀xs,SqL K H a xs->xs[i]? =some x,fun i H=>∃xs,SqL K H a xs/\xs.length<=i⟩
def Itt(K:tz0)(a:Addr):It:=
 ⟨fun i H=>∃xs x,SqT K H a xs/\xs[i]? =some x,fun i H x H'=>H'=H/\∀xs,SqT K H a xs->xs[i]? =some x,fun i H=>∃xs,SqT K H a xs/\xs.length<=i⟩
def Itr(lo:Int)(n:Nat):It:=⟨fun i _=>i<n,fun i H x H'=>H'=H/\x= .int (lo+i),fun i _=>n<=i⟩
theorem yj3{P:Program}{w:World}{K:tz0}{tg:Expr}(a it:Addr):Turn P w K tg (Itl K a) [it] it (fun i h=>h.IsListIter it a i) where
 mem:=by simp
 obj:=fun i h st b hb=>by
  have e:b=it:=by simpa using hb
  subst e
  obtain⟨o,e,c,d⟩:=st
  exact⟨o,e,fun v z=>by rw [d] at z;cases z⟩
 keep:=fun i h h' st k=>st.at fun o e=>k it (by simp) o e
 item:=by
  intro X hP hw hK hc i pins s σ H E I hf st hg
  subst hP hw hK
  obtain⟨xs,x,hq,hx⟩:=hg
  obtain⟨its,rv,p,hz⟩:=I.list hq
  obtain⟨u,hu,ru⟩:=rv.get hx
  obtain⟨f0,f1,f2,f3,f4,f5⟩:=hf it (by simp)
  refine wpAny_pyNext_list_item st p.isList (x:=u) (by simpa using hu) fun h' st' sb=> ?_
  have I1:Inv X pins σ H {s with heap:=h'}:=I.turned (t':=s.toks) (fun b o hb e=>(sb.2 b hb).trans e) f0 f1 f3 f4 f5
  obtain⟨o,e,c,d⟩:=id st'
  exact⟨u,rfl,yR (s:={s with heap:=h'}) e c d (by decide) ⟨x,H,I1,ru,⟨rfl,fun ys hy=>by rw [I.list_inj hy hq];exact hx⟩,st',fun b hb=>(hf b hb).1⟩⟩
 done:=by
  intro X hP hw hK hc i pins s σ H E I hf st hg
  subst hP hw hK
  obtain⟨xs,hq,hx⟩:=hg
  obtain⟨its,rv,p,hz⟩:=I.list hq
  obtain⟨f0,f1,f2,f3,f4,f5⟩:=hf it (by simp)
  have hl:=rv.length
  exact wpAny_pyNext_list_end (I.ok.hd hc) st p.isList (by simp;omega) fun h' eb=>⟨rfl,I.turned (t':=s.toks) (fun b o hb e=>eb b o hb e) f0 f1 f3 f4 f5⟩
 self:=fun _ _ _ _ _ st h=>wpAny_pyIter_listiter st h
theorem yc0{P:Program}{w:World}{K:tz0}{tg:Expr}(a it:Addr):Turn P w K tg (Itt K a) [it] it (fun i h=>h.IsTupleIter it a i) where
 mem:=by simp
 obj:=fun i h st b hb=>by
  have e:b=it:=by simpa using hb
  subst e
  obtain⟨o,e,c,d⟩:=st
  exact⟨o,e,fun v z=>by rw [d] at z;cases z⟩
 keep:=fun i h h' st k=>st.at fun o e=>k it (by simp) o e
 item:=by
  intro X hP hw hK hc i pins s σ H E I hf st hg
  subst hP hw hK
  obtain⟨xs,x,hq,hx⟩:=hg
  obtain⟨its,rv,p,hz⟩:=I.tuple hq
  obtain⟨u,hu,ru⟩:=rv.get hx
  obtain⟨f0,f1,f2,f3,f4,f5⟩:=hf it (by simp)
  refine wpAny_pyNext_tuple_item st (show s.heap.IsTuple a its.toArray from p) (x:=u) (by simpa using hu) fun h' st' sb=> ?_
  have I1:Inv X pins σ H {s with heap:=h'}:=I.turned (t':=s.toks) (fun b o hb e=>(sb.2 b hb).trans e) f0 f1 f3 f4 f5
  obtain⟨o,e,c,d⟩:=id st'
  exact⟨u,rfl,yR (s:={s with heap:=h'}) e c d (by decide) ⟨x,H,I1,ru,⟨rfl,fun ys hy=>by rw [I.tuple_inj hy hq];exact hx⟩,st',fun b hb=>(hf b hb).1⟩⟩
 done:=by
  intro X hP hw hK hc i pins s σ H E I hf st hg
  subst hP hw hK
  obtain⟨xs,hq,hx⟩:=hg
  obtain⟨its,rv,p,hz⟩:=I.tuple hq
  obtain⟨f0,f1,f2,f3,f4,f5⟩:=hf it (by simp)
  have hl:=rv.length
  exact wpAny_pyNext_tuple_end (I.ok.hd hc) st (show s.heap.IsTuple a its.toArray from p) (by simp;omega) fun h' eb=>⟨rfl,I.turned (t':=s.toks) (fun b o hb e=>eb b o hb e) f0 f1 f3 f4 f5⟩
 self:=fun _ _ _ _ _ st h=>wpAny_pyIter_tupleiter st h
theorem yc1{P:Program}{w:World}{K:tz0}{tg:Expr}(it:Addr)(lo:Int)(n:Nat):Turn P w K tg (Itr lo n) [it] it (fun i h=>IsRangeIter h it (lo+(i:Nat)*1) ((n:Int)-(i:Nat)) 1) where
 mem:=by simp
 obj:=fun i h st b hb=>by
  have e:b=it:=by simpa using hb
  subst e
  exact⟨_,st,fun v z=>by
   have z':Data.fields _=Data.cell v:=z
   cases z'⟩
 keep:=fun i h h' st k=>k it (by simp) _ st
 item:=by
  intro X hP hw hK hc i pins s σ H E I hf st hg
  subst hP hw hK
  obtain⟨f0,f1,f2,f3,f4,f5⟩:=hf it (by simp)
  have W:=Walks.range (prog:=X.prog) (w:=X.w) (I.ok.hd hc) it lo 1 n
  refine W.item i s _ _ hg st fun v h' tk hv st' kk=> ?_
  obtain⟨t,rfl⟩:=hv
  have I1:Inv X pins σ H {s with heap:=h',toks:=tk}:=I.turned (fun b o hb e=>kk b o (by simpa using hb) e) f0 f1 f3 f4 f5
  refine⟨_,rfl,yR (s:={s with heap:=h',toks:=tk}) (n:="range_iterator") st' rfl rfl (by decide) ⟨.int (lo+i),H,I1,⟨t,?_⟩,⟨rfl,rfl⟩,st',fun b hb=>(hf b hb).1⟩⟩
  rw [Int.mul_one]
 done:=by
  intro X hP hw hK hc i pins s σ H E I hf st hg
  subst hP hw hK
  obtain⟨f0,f1,f2,f3,f4,f5⟩:=hf it (by simp)
  exact wpAny_pyNext_range_end (I.ok.hd hc) st (by have:n<=i:=hg;omega) fun h' eb=>⟨rfl,I.turned (t':=s.toks) (fun b o hb e=>eb b o hb e) f0 f1 f3 f4 f5⟩
 self:=fun _ _ _ _ _ st h=>wpAny_pyIter_rangeiter st h
section
variable{X:Cx}{tg:Expr}
theorem zn5{pins:tzB}{σ:St}{H:Hp}{s:Shared}{R:It->Hp->Prop}{E:Value->Shared->Prop}{lo hi:Int}{t u v:Tok}{tk:Nat}(I:Inv X pins σ H s)(h1: -(2^62)<=lo)(h2:lo<2^62)(h3: -(2^62)<=hi)(h4:hi<2^62)
  (q:R (Itr lo (hi-lo).toNat) H):wpAny (model X.prog X.w) X.A (pyIter (.ref s.heap.objs.size)) (PIE X pins σ tg R) E {s with heap:=s.heap.push {cls:= .type "range",data:= .fields #[.int lo t,.int hi u,.int 1 v]},toks:=tk}:=by
 refine wpAny_pyIter_range (IsRange.new ..) (small_one h1 h2 h3 h4) ?_
 have I1:Inv X pins σ H {s with heap:=s.heap.push {cls:= .type "range",data:= .fields #[.int lo t,.int hi u,.int 1 v]},toks:=tk}:=I.kept fun b o e=>Zk _ e
 refine⟨(s.heap.push {cls:= .type "range",data:= .fields #[.int lo t,.int hi u,.int 1 v]}).objs.size,[(s.heap.push {cls:= .type "range",data:= .fields #[.int lo t,.int hi u,.int 1 v]}).objs.size],_,_,H,rfl,
  I1.kept (t':=tk) fun b o e=>Zk _ e,yc1 _ lo (hi-lo).toNat,?_,fun b hb=> ?_,q⟩
 ·have e1:lo+((0:Nat):Int)*1=lo:=by simp
  have e2:(((hi-lo).toNat:Nat):Int)-((0:Nat):Int)=Builtin.Range.rangeSize lo hi 1:=by rw [rangeSize_one];split<;>omega
  show IsRangeIter _ _ (lo+((0:Nat):Int)*1) ((((hi-lo).toNat:Nat):Int)-((0:Nat):Int)) 1
  rw [e1,e2]
  exact Zv _ rfl
 ·have e:b=(s.heap.push {cls:= .type "range",data:= .fields #[.int lo t,.int hi u,.int 1 v]}).objs.size:=by simpa using hb
  subst e
  exact I1.fpOk (Z9 _) (I1.hok.fresh (Z9 _))
def xv9(ta:TA):TI:=fun σ H R=>ta σ H fun vs H1=>∃j:Int,vs=[.int j]/\ -(2^62)<=j/\j<2^62/\R (Itr 0 j.toNat) H1
def xw0(ta:TA):TI:=fun σ H R=>ta σ H fun vs H1=>∃i j:Int,vs=[.int i,.int j]/\(-(2^62)<=i/\i<2^62/\ -(2^62)<=j/\j<2^62)/\R (Itr i (j-i).toNat) H1
theorem yj4{a:Expr}{ta:TA}{p pos:Pos}(hg:Gl X "range")(hm:X.mg "range"=none)(ha:PA X [a] ta)(hs:starEach [a] X.env=[(false,eval a X.env)]:=by rfl):PI X tg (.Call (.Name "range" p) [a] [] pos) (xv9 ta):=⟨by
 intro pins s σ H R I h
 refine Call_ (sQ I hg hm boot_range (Yd (thn (ha pos pins s σ H _ I h) fun us s1 ⟨vs,H1,I1,r1,q1⟩=> ?_) hs rfl))
 obtain⟨j,e,q1,q2,q⟩:=q1
 subst e
 cases r1 with
 |cons r rr=>
  cases rr
  obtain⟨t,rfl⟩:=r
  exact call_range_1 (zn5 I1 (by omega) (by omega) q1 q2 (by simpa using q))⟩
theorem yj5{a b:Expr}{ta:TA}{p pos:Pos}(hg:Gl X "range")(hm:X.mg "range"=none)(ha:PA X [a,b] ta)(hs:starEach [a,b] X.env=[(false,eval a X.env),(false,eval b X.env)]:=by rfl)(hs2:starEach [b] X.env=[(false,eval b X.env)]:=by rfl):
  PI X tg (.Call (.Name "range" p) [a,b] [] pos) (xw0 ta):=⟨by
 intro pins s σ H R I h
 refine Call_ (sQ I hg hm boot_range (Yd (thn (ha pos pins s σ H _ I h) fun us s1 ⟨vs,H1,I1,r1,q1⟩=> ?_) (by rw [hs,hs2]) (by rw [hs2];rfl)))
 obtain⟨i,j,e,⟨q1,q2,q3,q4⟩,q⟩:=q1
 subst e
 cases r1 with
 | cons r rr=>
  cases rr with
  |cons r' rr=>
   cases rr
   obtain⟨t,rfl⟩:=r
   obtain⟨t',rfl⟩:=r'
   exact call_range_2 (zn5 I1 q1 q2 q3 q4 q)⟩
def xy8(wi:TI)(g:TG)(tb:TS):TS:=fun D σ H=>wi σ H fun J H1=>∃W:Nat->Nat->St->Hp->Prop,(∃m,W 0 m σ H1)/\∀i m σ H,W i m σ H->
 (J.stop i H/\D.nx σ H)\/(J.go i H/\∃N:St->Hp->Prop,(∀σ' H',N σ' H'->∃m',m'<m/\W (i+1) m' σ' H')/\∀x H',J.yld i H x H'->g x σ H' fun σ2 H2=>tb {D with nx:=N,ct:=N,bk:=D.nx} σ2 H2)
def tI(fp:List Addr)(h:Heap):tzB:=fp.filterMap fun b=>(h.get? b).map fun o=>(b,o)
theorem pW{fp:List Addr}{h:Heap}{b:Addr}{o:Obj}(hb:b∈fp)(e:h.get? b=some o):(b,o)∈tI fp h:=W1.mpr ⟨b,hb,by rw [e];rfl⟩
theorem yj6{fp:List Addr}{h:Heap}{p:Addr×Obj}(hp:p∈tI fp h):p.1∈fp/\h.get? p.1=some p.2:=by
 obtain⟨b,hb,e⟩:=W1.mp hp
 cases q:h.get? b with
 |none=>rw [q] at e;cases e
 |some o=>
  rw [q] at e
  have e':(b,o)=p:=ZA e
  subst e'
  exact⟨hb,q⟩
theorem Inv.pinned{pins:tzB}{σ:St}{H:Hp}{s:Shared}{fp:List Addr}(I:Inv X pins σ H s)(hf:∀b∈fp,nH X pins H b)(ho:∀b∈fp,∃o,s.heap.get? b=some o/\∀v,o.data≠ .cell v):Inv X (pins++tI fp s.heap) σ H s:=
 I.pins_of fun p hp=>(ZE.mp hp).elim (fun z=>I.pin p (Zd _ z)) fun z=>by
  obtain⟨hb,e⟩:=yj6 z
  obtain⟨f0,f1,f2,_⟩:=hf p.1 hb
  obtain⟨o,e',d⟩:=ho p.1 hb
  rw [e] at e';cases e'
  exact⟨e,f0,f1,f2,d⟩
theorem Inv.unpinned{pins pl:tzB}{σ:St}{H:Hp}{s:Shared}(I:Inv X (pins++pl) σ H s):Inv X pins σ H s:=I.pins_of fun p hp=>I.pin p (Zd _ (Zu _ hp))
theorem zn6{iter:Expr}{body:List Stmt}{wi:TI}{g:TG}{tb:TS}{pos:Pos}(hp:PassesOwn (model X.prog X.w) X.A X.env X.xe)(hc:X.calm=true)(hi:PI X tg iter wi)(hg:PG X tg g)(hb:PSs X body tb)
  (hs:∀x,foldedSetIterable iter X.env x=pure x:=by intro _;rfl):PS X (.For tg iter body [] pos) (xy8 wi g tb):=⟨by
 intro pins s σ H D I h
 refine wpAny_For (thn (hi pins s σ H _ I h) fun v s1 h1=>thn h1 fun itv s2 h2=> ?_) hs
 obtain⟨it,fp,tn,J,H2,e,I2,T,st2,f2,W,⟨m0,w0⟩,turn⟩:=h2
 subst e
 have stat:∀{H':Hp},(∀b∈fp,H' b=none)->∀b∈fp,nH X pins H' b:=fun hn b hb=>⟨hn b hb,(f2 b hb).2⟩
 refine codeAny_forLoop_any (fun n s'=>∃i σ' H',Inv X pins σ' H' s'/\tn i s'.heap/\(∀b∈fp,H' b=none)/\W i n σ' H') ?_ m0 ⟨0,σ,H2,I2,st2,fun b hb=>(f2 b hb).1,w0⟩
 rintro n s3 ⟨i,σ3,H3,I3,st3,fr3,w3⟩
 rcases turn i n σ3 H3 w3 with ⟨stop,qn⟩|⟨go,N,hN,step⟩
 ·refine Yf hp (thn (T.done X rfl rfl rfl hc i pins s3 σ3 H3 X.xe I3 (stat fr3) st3 stop) fun r s4 ⟨hr,I4⟩=> ?_)
  subst hr
  exact YD ⟨σ3,H3,I4,qn⟩
 ·refine Yf hp (thn (T.item X rfl rfl rfl hc i pins s3 σ3 H3 X.xe I3 (stat fr3) st3 go) fun r s4 ⟨u,hr,h4⟩=> ?_)
  subst hr
  refine Yf hp (thn h4 fun _ s5 ⟨x,H5,I5,r5,y5,st5,fr5⟩=> ?_)
  have I5':=I5.pinned (stat fr5) (T.obj _ _ st5)
  refine Yf hp (thn (hg _ s5 σ3 H5 x u _ I5' r5 (step x H5 y5)) fun _ s6 ⟨σ6,H6,I6,q6⟩=> ?_)
  refine Yf hp (thn (hb _ s6 σ6 H6 _ I6 q6) fun f s7 q7=> ?_)
  have again:∀{σ7:St} {H7:Hp},Inv X (pins++tI fp s5.heap) σ7 H7 s7->N σ7 H7->∃m,m<n/\∃i σ' H',Inv X pins σ' H' s7/\tn i s7.heap/\(∀b∈fp,H' b=none)/\W i m σ' H':=fun {σ7 H7} I7 n7=>by
   obtain⟨m',hm,w7⟩:=hN σ7 H7 n7
   refine⟨m',hm,i+1,σ7,H7,I7.unpinned,T.keep _ _ _ st5 fun b hb o e=>(I7.pin (b,o) (Zd _ (Zd _ (pW hb e)))).1,fun b hb=> ?_,w7⟩
   obtain⟨o,e,d⟩:=T.obj _ _ st5 b hb
   exact(I7.pin (b,o) (Zd _ (Zd _ (pW hb e)))).2.1
  cases f with
  |next=>obtain⟨σ7,H7,I7,n7⟩:=q7;exact again I7 n7
  |cont=>obtain⟨σ7,H7,I7,n7⟩:=q7;exact again I7 n7
  |brk=>obtain⟨σ7,H7,I7,q7⟩:=q7;exact⟨σ7,H7,I7.unpinned,q7⟩
  |ret v=>obtain⟨x7,σ7,H7,I7,r7,q7⟩:=q7;exact⟨x7,σ7,H7,I7.unpinned,r7,q7⟩⟩
end
abbrev R2:=V->V->Hp->VK->Prop
def xs1(X:Cx)(f:Value->Value->Sem Value)(r:R2):Prop:=
 ∀(pins:tzB) (s:Shared) (σ:St) (H:Hp) (x y:V) (v u:Value) (Q:VK),Inv X pins σ H s->cL x v->cL y u->r x y H Q->
  wpAny (model X.prog X.w) X.A (f v u) (EP X pins σ Q) X.xe s
structure OpR(X:Cx)(f:Value->Value->Sem Value)(r:R2):Prop where
 go:xs1 X f r
instance {X:Cx} {f:Value->Value->Sem Value} {r:R2}:CoeFun (OpR X f r) fun _=>xs1 X f r:=⟨OpR.go⟩
def UnR(X:Cx)(f:Value->Sem Value)(r:V->Hp->VK->Prop):Prop:=
 ∀(pins:tzB) (s:Shared) (σ:St) (H:Hp) (x:V) (v:Value) (Q:VK),Inv X pins σ H s->cL x v->r x H Q->
  wpAny (model X.prog X.w) X.A (f v) (EP X pins σ Q) X.xe s
def yr8(X:Cx)(f:Value)(r:List V->Hp->VK->Prop):Prop:=
 ∀(pins:tzB) (s:Shared) (σ:St) (H:Hp) (xs:List V) (us:List Value) (Q:VK),Inv X pins σ H s->bT xs us->r xs H Q->
  wpAny (model X.prog X.w) X.A (call f us) (EP X pins σ Q) X.xe s
structure CallR(X:Cx)(f:Value)(r:List V->Hp->VK->Prop):Prop where
 go:yr8 X f r
instance {X:Cx} {f:Value} {r:List V->Hp->VK->Prop}:CoeFun (CallR X f r) fun _=>yr8 X f r:=⟨CallR.go⟩
def xy9(X:Cx)(r:V->Hp->(Bool->Hp->Prop)->Prop):Prop:=
 ∀(pins:tzB) (s:Shared) (σ:St) (H:Hp) (x:V) (v:Value) (Q:Bool->Hp->Prop),Inv X pins σ H s->cL x v->r x H Q->
  wpAny (model X.prog X.w) X.A (truthy v) (TP X pins σ Q) X.xe s
def tOp(r:R2)(ta tb:TE):TE:=fun σ H Q=>ta σ H fun x H1=>tb σ H1 fun y H2=>r x y H2 Q
def tUn(r:V->Hp->VK->Prop)(ta:TE):TE:=fun σ H Q=>ta σ H fun x H1=>r x H1 Q
def rI(C:Int->Int->Prop)(g:Int->Int->V):R2:=fun x y H Q=>∃i j,x= .int i/\y= .int j/\C i j/\Q (g i j) H
def rI0(g:Int->Int->V):R2:=fun x y H Q=>∃i j,x= .int i/\y= .int j/\Q (g i j) H
def rU(g:Int->V):V->Hp->VK->Prop:=fun x H Q=>∃i,x= .int i/\Q (g i) H
section
variable{X:Cx}{a b c:Expr}{ta tb tc:TE}{pos:Pos}
theorem ys6(ha:PE X a ta)(hb:PE X b tb){pins:tzB}{s:Shared}{σ:St}{H:Hp}{R:V->V->Hp->Prop}(I:Inv X pins σ H s)
  (h:ta σ H fun x H1=>tb σ H1 fun y H2=>R x y H2) {Q:Value->Shared->Prop} {f:Value->Value->Sem Value}
  (hf:∀v u s2 x y H2,Inv X pins σ H2 s2->cL x v->cL y u->R x y H2->wpAny (model X.prog X.w) X.A (f v u) Q X.xe s2):
  wpAny (model X.prog X.w) X.A (eval a X.env) (fun v s₁=>wpAny (model X.prog X.w) X.A (eval b X.env) (fun u s₂=>wpAny (model X.prog X.w) X.A (f v u) Q X.xe s₂) X.xe s₁) X.xe s:=by
 refine thn (ha pins s σ H _ I h) fun v s1 ⟨x,H1,I1,r1,q1⟩=> ?_
 refine thn (hb pins s1 σ H1 _ I1 q1) fun u s2 ⟨y,H2,I2,r2,q2⟩=> ?_
 exact hf v u s2 x y H2 I2 r1 r2 q2
theorem fZ{op:Operator}{r:R2}(ho:OpR X (binaryOp op) r)(ha:PE X a ta)(hb:PE X b tb):PE X (.BinOp a op b pos) (tOp r ta tb):=⟨by
 intro pins s σ H Q I h
 exact wpAny_BinOp (ys6 ha hb I h fun v u s2 x y H2 I2 rx ry q=>ho pins s2 σ H2 x y v u Q I2 rx ry q)⟩
theorem xu2{op:UnaryOp}{r:V->Hp->VK->Prop}(ho:UnR X (unaryOp op) r)(ha:PE X a ta):PE X (.UnaryOp op a pos) (tUn r ta):=⟨by
 intro pins s σ H Q I h
 exact UnaryOp_ (thn (ha pins s σ H _ I h) fun v s1 ⟨x,H1,I1,r1,q1⟩=>ho pins s1 σ H1 x v Q I1 r1 q1)⟩
theorem opI{f:Value->Value->Sem Value}{C:Int->Int->Prop}{g:Int->Int->Int}
  (rule:∀(i j:Int) (t u:Tok) (s:Shared) (Q:Value->Shared->Prop) (E:Value->Shared->Prop),C i j->Q (.int (g i j) s.toks) {s with toks:=s.toks+1}->wpAny (model X.prog X.w) X.A (f (.int i t) (.int j u)) Q E s):
  OpR X f (rI C fun i j=> .int (g i j)):=⟨by
 intro pins s σ H x y v u Q I rx ry h
 obtain⟨i,j,rfl,rfl,hc,q⟩:=h
 obtain⟨t,rfl⟩:=rx
 obtain⟨t',rfl⟩:=ry
 exact rule i j t t' s _ _ hc ⟨.int (g i j),H,I.tok _,⟨_,rfl⟩,q⟩⟩
theorem ys7{f:Value->Value->Sem Value}{g:Int->Int->Int}
  (rule:∀(i j:Int) (t u:Tok) (s:Shared) (Q:Value->Shared->Prop) (E:Value->Shared->Prop),Q (.int (g i j) s.toks) {s with toks:=s.toks+1}->wpAny (model X.prog X.w) X.A (f (.int i t) (.int j u)) Q E s):
  OpR X f (rI0 fun i j=> .int (g i j)):=⟨by
 intro pins s σ H x y v u Q I rx ry h
 obtain⟨i,j,rfl,rfl,q⟩:=h
 obtain⟨t,rfl⟩:=rx
 obtain⟨t',rfl⟩:=ry
 exact rule i j t t' s _ _ ⟨.int (g i j),H,I.tok _,⟨_,rfl⟩,q⟩⟩
theorem yc2{f:Value->Value->Sem Value}{g:Int->Int->Bool}
  (rule:∀(i j:Int) (t u:Tok) (s:Shared) (Q:Value->Shared->Prop) (E:Value->Shared->Prop),Q (.bool (g i j)) s->wpAny (model X.prog X.w) X.A (f (.int i t) (.int j u)) Q E s):
  OpR X f (rI0 fun i j=> .bl (g i j)):=⟨by
 intro pins s σ H x y v u Q I rx ry h
 obtain⟨i,j,rfl,rfl,q⟩:=h
 obtain⟨t,rfl⟩:=rx
 obtain⟨t',rfl⟩:=ry
 exact rule i j t t' s _ _ ⟨.bl (g i j),H,I,rfl,q⟩⟩
def xz0(i j:Int):Prop:=0<j/\j<1073741824
def xa4(i j:Int):Prop:=(-(2^64)<i/\i<2^64)\/(-(2^64)<j/\j<2^64)
theorem xa4.ok{i j:Int}(h:xa4 i j):IntMulOk i j:=by
 rcases h with ⟨h1,h2⟩|⟨h1,h2⟩
 ·exact .of_left (intBits_le_64 h1 h2)
 ·exact .of_right (intBits_le_64 h1 h2)
theorem yc3(k:Nat):(0:Int)<=2^k:=by
 rw [two_pow_cast]
 exact Int.natCast_nonneg _
theorem sR:OpR X (binaryOp .Add) (rI0 fun i j=> .int (i+j)):=ys7 fun _ _ _ _ _ _ _ q=>add_int q
theorem xm4:OpR X (binaryOp .Sub) (rI0 fun i j=> .int (i-j)):=ys7 fun _ _ _ _ _ _ _ q=>sub_int q
theorem mV:OpR X (binaryOp .Mult) (rI xa4 fun i j=> .int (i*j)):=opI fun _ _ _ _ _ _ _ hc q=>mul_int q hc.ok
theorem zx4:OpR X (binaryOp .FloorDiv) (rI xz0 fun i j=> .int (i/j)):=opI fun i j _ _ _ _ _ hc q=>by
 have h1:(0:Int)<j:=hc.1
 have h2:j<1073741824:=hc.2
 exact floordiv_int (by omega) (by rw [Xu i (by omega)];exact q) (.inl (PyProof.noPylong_small (by omega)))
theorem yS:OpR X (binaryOp .Mod) (rI (fun _ j=>0<j) fun i j=> .int (i % j)):=opI fun i j _ _ _ _ _ hc q=>by
 have h1:(0:Int)<j:=hc
 exact mod_int' (by omega) (by rw [Int.fmod_eq_emod_of_nonneg i (by omega)];exact q)
theorem xm5:OpR X (binaryOp .RShift) (rI (fun _ j=>0<=j) fun i j=> .int (i/2^j.toNat)):=opI fun i j _ _ _ _ _ hc q=>
 rshift_int hc (by rw [Xu i (yc3 _)];exact q)
theorem yj7:OpR X (binaryOp .BitAnd) (rI0 fun i j=> .int (Builtin.bitAnd i j)):=ys7 fun _ _ _ _ _ _ _ q=>and_int q
theorem unI{f:Value->Sem Value}{g:Int->Int}
  (rule:∀(i:Int) (t:Tok) (s:Shared) (Q:Value->Shared->Prop) (E:Value->Shared->Prop),Q (.int (g i) s.toks) {s with toks:=s.toks+1}->wpAny (model X.prog X.w) X.A (f (.int i t)) Q E s):
  UnR X f (rU fun i=> .int (g i)):=by
 intro pins s σ H x v Q I rx h
 obtain⟨i,rfl,q⟩:=h
 obtain⟨t,rfl⟩:=rx
 exact rule i t s _ _ ⟨.int (g i),H,I.tok _,⟨_,rfl⟩,q⟩
theorem xm6:UnR X (unaryOp .USub) (rU fun i=> .int (-i)):=unI fun _ _ _ _ _ q=>neg_int q
end
def xs2:V->V->Bool
 | .non,.non=>true| .non,.int _=>true| .int _,.non=>true| .non,.bl _=>true| .bl _,.non=>true| .non,.str _=>true| .str _,.non=>true
 | .int _,.int _=>true| .bl _,.bl _=>true| .str _,.str _=>true| .byt _,.byt _=>true
 | .int _,.str _=>true| .str _,.int _=>true| .bl _,.str _=>true| .str _,.bl _=>true
 |_,_=>false
def rEq:R2:=fun x y H Q=>xs2 x y=true/\Q (.bl (decide (x=y))) H
def rNe:R2:=fun x y H Q=>xs2 x y=true/\Q (.bl (!decide (x=y))) H
theorem zx5{i j:Int}:decide (V.int i=V.int j)=(i==j):=by
 rw [Yj]
 simp
theorem yj8{i j:Bool}:decide (V.bl i=V.bl j)=(i==j):=by
 rw [Yj]
 simp
theorem zx6{i j:Str}:decide (V.str i=V.str j)=(i==j):=by
 rw [Yj]
 simp
theorem zx7{i j:Array UInt8}:decide (V.byt i=V.byt j)=(i.toList==j.toList):=by
 rw [Yj]
 cases i
 cases j
 simp
section
variable{X:Cx}{a b c:Expr}{ta tb tc:TE}{pos:Pos}
theorem dF{pins:tzB}{σ:St}{H:Hp}{s:Shared}{Q:VK}{k k':Bool}(I:Inv X pins σ H s)(q:Q (.bl k) H)(e:k=k'):EP X pins σ Q (.bool k') s:=by
 subst e
 exact⟨.bl k,H,I,rfl,q⟩
theorem yc4:OpR X (compareOp .Eq) rEq:=⟨by
 intro pins s σ H x y v u Q I rx ry h
 obtain⟨hs,q⟩:=h
 cases x with
 |non=>
  cases rx
  cases y with
  |non=>cases ry;exact PySem.EqNone.eq_none_none (dF I q (by simp))
  |bl j=>cases ry;exact PySem.EqNone.eq_none_bool (dF I q (by simp))
  |int j=>obtain⟨t',rfl⟩:=ry;exact PySem.EqNone.eq_none_int (dF I q (by simp))
  |str j=>obtain⟨t',rfl⟩:=ry;exact PySem.EqNone.eq_none_str (dF I q (by simp))
  |_=>exact absurd (show false=true from hs) Z8
 |bl i=>
  cases rx
  cases y with
  |non=>cases ry;exact PySem.EqNone.eq_bool_none (dF I q (by simp))
  |bl j=>cases ry;exact eq_bool (dF I q yj8)
  |str j=>obtain⟨t',rfl⟩:=ry;exact PySem.EqMixed.eq_bool_str (dF I q (by simp))
  |_=>exact absurd (show false=true from hs) Z8
 |int i=>
  obtain⟨t,rfl⟩:=rx
  cases y with
  |non=>cases ry;exact PySem.EqNone.eq_int_none (dF I q (by simp))
  |int j=>obtain⟨t',rfl⟩:=ry;exact eq_int (dF I q zx5)
  |str j=>obtain⟨t',rfl⟩:=ry;exact PySem.EqMixed.eq_int_str (dF I q (by simp))
  |_=>exact absurd (show false=true from hs) Z8
 |str i=>
  obtain⟨t,rfl⟩:=rx
  cases y with
  |non=>cases ry;exact PySem.EqNone.eq_str_none (dF I q (by simp))
  |bl j=>cases ry;exact PySem.EqMixed.eq_str_bool (dF I q (by simp))
  |int j=>obtain⟨t',rfl⟩:=ry;exact PySem.EqMixed.eq_str_int (dF I q (by simp))
  |str j=>obtain⟨t',rfl⟩:=ry;exact eq_str (dF I q zx6)
  |_=>exact absurd (show false=true from hs) Z8
 |byt i=>
  obtain⟨t,rfl⟩:=rx
  cases y with
  |byt j=>obtain⟨t',rfl⟩:=ry;exact PySem.W.eq_bytes (dF I q zx7)
  |_=>exact absurd (show false=true from hs) Z8
 |_=>cases y<;>exact absurd (show false=true from hs) Z8⟩
theorem xc0:OpR X (compareOp .NotEq) rNe:=⟨by
 intro pins s σ H x y v u Q I rx ry h
 obtain⟨hs,q⟩:=h
 cases x with
 |non=>
  cases rx
  cases y with
  |non=>cases ry;exact PySem.EqNone.ne_none_none (dF I q (by simp))
  |bl j=>cases ry;exact PySem.EqNone.ne_none_bool (dF I q (by simp))
  |int j=>obtain⟨t',rfl⟩:=ry;exact PySem.EqNone.ne_none_int (dF I q (by simp))
  |str j=>obtain⟨t',rfl⟩:=ry;exact PySem.EqNone.ne_none_str (dF I q (by simp))
  |_=>exact absurd (show false=true from hs) Z8
 |bl i=>
  cases rx
  cases y with
  |non=>cases ry;exact PySem.EqNone.ne_bool_none (dF I q (by simp))
  |bl j=>cases ry;exact ne_bool (dF I q (ZS not yj8))
  |str j=>obtain⟨t',rfl⟩:=ry;exact PySem.EqMixed.ne_bool_str (dF I q (by simp))
  |_=>exact absurd (show false=true from hs) Z8
 |int i=>
  obtain⟨t,rfl⟩:=rx
  cases y with
  |non=>cases ry;exact PySem.EqNone.ne_int_none (dF I q (by simp))
  |int j=>obtain⟨t',rfl⟩:=ry;exact ne_int (dF I q (ZS not zx5))
  |str j=>obtain⟨t',rfl⟩:=ry;exact PySem.EqMixed.ne_int_str (dF I q (by simp))
  |_=>exact absurd (show false=true from hs) Z8
 |str i=>
  obtain⟨t,rfl⟩:=rx
  cases y with
  |non=>cases ry;exact PySem.EqNone.ne_str_none (dF I q (by simp))
  |bl j=>cases ry;exact PySem.EqMixed.ne_str_bool (dF I q (by simp))
  |int j=>obtain⟨t',rfl⟩:=ry;exact PySem.EqMixed.ne_str_int (dF I q (by simp))
  |str j=>obtain⟨t',rfl⟩:=ry;exact ne_str (dF I q (ZS not zx6))
  |_=>exact absurd (show false=true from hs) Z8
 |byt i=>
  obtain⟨t,rfl⟩:=rx
  cases y with
  |byt j=>obtain⟨t',rfl⟩:=ry;exact PySem.W.ne_bytes (dF I q (ZS not zx7))
  |_=>exact absurd (show false=true from hs) Z8
 |_=>cases y<;>exact absurd (show false=true from hs) Z8⟩
theorem xu3:OpR X (compareOp .Lt) (rI0 fun i j=> .bl (decide (i<j))):=yc2 fun _ _ _ _ _ _ _ q=>lt_int q
theorem xu4:OpR X (compareOp .LtE) (rI0 fun i j=> .bl (decide (i<=j))):=yc2 fun _ _ _ _ _ _ _ q=>le_int q
theorem xu5:OpR X (compareOp .Gt) (rI0 fun i j=> .bl (decide (j<i))):=yc2 fun _ _ _ _ _ _ _ q=>gt_int q
theorem xu6:OpR X (compareOp .GtE) (rI0 fun i j=> .bl (decide (j<=i))):=yc2 fun _ _ _ _ _ _ _ q=>ge_int q
theorem xm7:OpR X (compareOp .Is) (fun x y H Q=>y= .non/\Q (.bl (decide (x= .non))) H):=⟨by
 intro pins s σ H x y v u Q I rx ry h
 obtain⟨rfl,q⟩:=h
 cases ry
 refine is_none_gen (dF I q ?_)
 cases x<;>first
  |(cases rx;rfl)
  |(obtain⟨t,rfl⟩:=rx;rfl)⟩
theorem xe4:OpR X (compareOp .IsNot) (fun x y H Q=>y= .non/\Q (.bl (!decide (x= .non))) H):=⟨by
 intro pins s σ H x y v u Q I rx ry h
 obtain⟨rfl,q⟩:=h
 cases ry
 refine isnot_none_gen (dF I q ?_)
 cases x<;>first
  |(cases rx;rfl)
  |(obtain⟨t,rfl⟩:=rx;rfl)⟩
theorem bG(b:Expr){op:CmpOp}(h:op≠ .In:=by decide)(h2:op≠ .NotIn:=by decide):behindInMarks op b=false:=by
 have e1:(op==CmpOp.In)=false:=by cases op<;>first|rfl|exact absurd rfl h
 have e2:(op==CmpOp.NotIn)=false:=by cases op<;>first|rfl|exact absurd rfl h2
 cases b<;>simp [behindInMarks,e1,e2]
theorem xe5{op:CmpOp}{r:R2}(ho:OpR X (compareOp op) r)(ha:PE X a ta)(hb:PE X b tb)(hm:behindInMarks op b=false):PE X (.Compare a [op] [b] pos) (tOp r ta tb):=⟨by
 intro pins s σ H Q I h
 exact wpAny_Compare1 (ys6 ha hb I h fun v u s2 x y H2 I2 rx ry q=>ho pins s2 σ H2 x y v u Q I2 rx ry q) hm⟩
def xd4(t:TE):TT:=fun σ H Q=>t σ H fun x H'=>∃k,x= .bl k/\Q k H'
theorem zx8{op:CmpOp}{r:R2}(ho:OpR X (compareOp op) r)(ha:PE X a ta)(hb:PE X b tb)(hm:behindInMarks op b=false):PT X (.Compare a [op] [b] pos) (xd4 (tOp r ta tb)):=⟨by
 intro pins s σ H Q I h
 refine X6 (thn (ha pins s σ H _ I h) fun v s1 ⟨x,H1,I1,r1,q1⟩=>thn (hb pins s1 σ H1 _ I1 q1) fun u s2 ⟨y,H2,I2,r2,q2⟩=>
  thn (ho pins s2 σ H2 x y v u _ I2 r1 r2 q2) fun c s3 ⟨z,H3,I3,r3,k,e,q3⟩=> ?_) hm
 subst e
 cases r3
 exact ZY ⟨H3,I3,q3⟩⟩
def yr9(r r':R2)(ta tb tc:TE):TE:=fun σ H Q=>ta σ H fun x H1=>tb σ H1 fun y H2=>r x y H2 fun z H3=>∃k,z= .bl k/\
 (if k=true then tc σ H3 fun w' H4=>r' y w' H4 Q else Q (.bl false) H3)
theorem ys8{op op':CmpOp}{r r':R2}(ho:OpR X (compareOp op) r)(ho':OpR X (compareOp op') r')(ha:PE X a ta)(hb:PE X b tb)(hc:PE X c tc)
  (hm:lastMarks [op,op'] [b,c]=false:=by with_unfolding_all rfl):PT X (.Compare a [op,op'] [b,c] pos) (xd4 (yr9 r r' ta tb tc)):=⟨by
 intro pins s σ H Q I h
 refine isTrue_chain (thn (ha pins s σ H _ I h) fun v s1 ⟨x,H1,I1,r1,q1⟩=>test_link (thn (hb pins s1 σ H1 _ I1 q1) fun u s2 ⟨y,H2,I2,r2,q2⟩=>
  thn (ho pins s2 σ H2 x y v u _ I2 r1 r2 q2) fun d s3 ⟨z,H3,I3,r3,k,e,q3⟩=> ?_)) hm
 subst e
 cases r3
 refine ZY ?_
 cases k with
 |false=>
  obtain⟨k',e',q'⟩:=q3
  cases e'
  exact ite_ff ⟨H3,I3,q'⟩
 |true=>
  refine ite_tt (test_last (thn (hc pins s3 σ H3 _ I3 q3) fun w' s4 ⟨z',H4,I4,r4,q4⟩=>thn (ho' pins s4 σ H4 y z' u w' _ I4 r2 r4 q4) fun d' s5 ⟨z2,H5,I5,r5,k2,e2,q5⟩=> ?_))
  subst e2
  cases r5
  exact ZY ⟨H5,I5,q5⟩⟩
def xa5(K:tz0)(x:V)(H:Hp)(k:Bool):Prop:=
 match x with
 | .non=>k=false
 | .bl b=>k=b
 | .int i=>k=(i !=0)
 | .str y=>y.length<=sizeLine/\k=((y.length:Int) !=0)
 | .byt y=>y.size<=sizeLine/\k=((y.size:Int) !=0)
 | .ref p=>(∃xs,SqL K H p xs/\k= !xs.isEmpty)\/(∃xs,SqT K H p xs/\k= !xs.isEmpty)\/∃kvs,H p=some (.dK kvs)/\k= !kvs.isEmpty
 |_=>False
theorem yc5{U:Type}{kvs:List (U×V)}{vs:List (U×Value)}(r:KV kvs vs):(!vs.isEmpty)= !kvs.isEmpty:=by
 cases r<;>rfl
theorem yT{xs:List V}{its:List Value}(r:bT xs its):(!its.toArray.isEmpty)= !xs.isEmpty:=by
 cases r<;>simp
theorem qM:(sizeLine:Nat)<2^63:=by rw [ZZ];decide
theorem xm8:xy9 X (fun x H Q=>∃k,xa5 X.K x H k/\Q k H):=by
 intro pins s σ H x v Q I rx h
 obtain⟨k,e,q⟩:=h
 have hl:=qM
 have hs:sizeLine=16777216:=ZZ
 cases x with
 |non=>
  cases rx
  have e':k=false:=e
  subst e'
  exact truthy_none ⟨H,I,q⟩
 |bl b=>
  cases rx
  have e':k=b:=e
  subst e'
  exact ZY ⟨H,I,q⟩
 |int i=>
  obtain⟨t,rfl⟩:=rx
  have e':k=(i !=0):=e
  subst e'
  exact PySem.P.truthy_int ⟨H,I,q⟩
 |str y=>
  obtain⟨t,rfl⟩:=rx
  obtain⟨hy,e'⟩:y.length<=sizeLine/\k=((y.length:Int) !=0):=e
  subst e'
  exact PySem.P.truthy_str (by omega) ⟨H,I.tok _,q⟩
 |byt y=>
  obtain⟨t,rfl⟩:=rx
  obtain⟨hy,e'⟩:y.size<=sizeLine/\k=((y.size:Int) !=0):=e
  subst e'
  exact PySem.W.truthy_bytes (by omega) ⟨H,I.tok _,q⟩
 | ref p=>
  cases rx
  have e':(∃xs,SqL X.K H p xs/\k= !xs.isEmpty)\/(∃xs,SqT X.K H p xs/\k= !xs.isEmpty)\/∃kvs,H p=some (.dK kvs)/\k= !kvs.isEmpty:=e
  rcases e' with ⟨xs,hx,e'⟩|⟨xs,hx,e'⟩|⟨kvs,hx,e'⟩
  ·subst e'
   obtain⟨its,r,pl,hz⟩:=I.list hx
   have hlen:=r.length
   exact wpAny_truthy_list pl.isList (by simp only [Zm];omega) ⟨H,I.tok _,by rw [yT r];exact q⟩
  ·subst e'
   obtain⟨its,r,pl,hz⟩:=I.tuple hx
   have hlen:=r.length
   exact truthy_tuple pl (by simp only [Zm];omega) ⟨H,I.tok _,by rw [yT r];exact q⟩
  ·subst e'
   obtain⟨hz,hS,vs,r,m⟩:kvs.length<=sizeLine/\(p==sysModules)=false/\∃vs,KV kvs vs/\s.heap.DictOf (fD X.prog X.w) p vs:=I.hok p _ hx
   have hlen:kvs.length=vs.length:=ZC r
   exact wpAny_truthy_dict hS m (by omega) ⟨H,I.tok _,by rw [yc5 r];exact q⟩
 |_=>exact(show False from e).elim
theorem zn7(ha:PE X a ta)(he:∀whole,isTrue a X.env whole=(do let v<-whole;standAt a.pos;holding [v] (truthy v))):
  PT X a (fun σ H Q=>ta σ H fun x H'=>∃k,xa5 X.K x H' k/\Q k H'):=⟨by
 intro pins s σ H Q I h
 exact isTrue_plain (thn (ha pins s σ H _ I h) fun v s1 ⟨x,H1,I1,r1,q1⟩=>xm8 pins s1 σ H1 x v Q I1 r1 q1) (he _)⟩
theorem yc6:OpR X (binaryOp .Add) (fun x y H Q=>∃i j,x= .str i/\y= .str j/\i.length+j.length<=sizeLine/\Q (.str (i++j)) H):=⟨by
 intro pins s σ H x y v u Q I rx ry h
 obtain⟨i,j,rfl,rfl,hz,q⟩:=h
 obtain⟨t,rfl⟩:=rx
 obtain⟨t',rfl⟩:=ry
 exact add_str (fun t' tk=>⟨.str (i++j),H,I.tok _,⟨_,rfl⟩,q⟩) hz⟩
theorem wZ{x:V}{us:List Value}(r:bT [x] us):∃u,us=[u]/\cL x u:=by
 cases r with
 |cons r1 r2=>cases r2;exact⟨_,rfl,r1⟩
theorem zk1{x y:V}{us:List Value}(r:bT [x,y] us):∃u w',us=[u,w']/\cL x u/\cL y w':=by
 cases r with
 |cons r1 r2=>
  cases r2 with
  |cons r3 r4=>cases r4;exact⟨_,_,rfl,r1,r3⟩
theorem yj9(hc:X.calm=true):CallR X (.builtin "max") (fun xs H Q=>∃i j,xs=[.int i,.int j]/\Q (.int (if j>i then j else i)) H):=⟨by
 intro pins s σ H xs us Q I r h
 obtain⟨i,j,rfl,q⟩:=h
 obtain⟨u,w',rfl,⟨t,rfl⟩,⟨t',rfl⟩⟩:=zk1 r
 refine max_two_ints (I.ok.hd hc) fun h' tk k=>⟨_,H,I.kept k,?_,q⟩
 by_cases hj:j>i
 ·rw [if_pos hj,if_pos hj];exact⟨_,rfl⟩
 ·rw [if_neg hj,if_neg hj];exact⟨_,rfl⟩⟩
theorem yk0(hc:X.calm=true):CallR X (.builtin "min") (fun xs H Q=>∃i j,xs=[.int i,.int j]/\Q (.int (if j<i then j else i)) H):=⟨by
 intro pins s σ H xs us Q I r h
 obtain⟨i,j,rfl,q⟩:=h
 obtain⟨u,w',rfl,⟨t,rfl⟩,⟨t',rfl⟩⟩:=zk1 r
 refine min_two_ints (I.ok.hd hc) fun h' tk k=>⟨_,H,I.kept k,?_,q⟩
 by_cases hj:j<i
 ·rw [if_pos hj,if_pos hj];exact⟨_,rfl⟩
 ·rw [if_neg hj,if_neg hj];exact⟨_,rfl⟩⟩
end
structure ObjM(h:Heap)(x dx C:Addr)(mA:tzA):Prop where
 obj:h.get? x=some (PySem.W.instObj C dx)
 ns:h.Ns1 dx mA
 ne:dx≠x
theorem yk1{h:Heap}{dx:Addr}{mA:tzA}(n:h.Ns1 dx mA):∃od,h.get? dx=some od/\∀name,PySem.W.lookIn name od=some (mA name):=by
 obtain⟨o,es,ep,ho,hd,hk,_,hm⟩:=n
 refine⟨o,ho,fun name=> ?_⟩
 have e:=hm name
 unfold nsFind findBy at e
 rw [<-Array.find?_toList] at e
 unfold PySem.W.lookIn
 rw [hd]
 dsimp only
 split
 ·rename_i y q
  rw [q] at e
  exact ZS some e
 ·rename_i q
  rw [q] at e
  have a:es.toList.any (·.refKey)=false:=by
   rw [List.any_eq_false]
   intro y hy
   obtain⟨z,t,hkey⟩:=hk y (Array.mem_toList_iff.mp hy)
   simp [DictEntry.refKey,hkey]
  have a':¬es.toList.any (·.refKey)=true:=by rw [a];exact Z8
  rw [if_neg a']
  exact ZS some e
theorem ObjM.look{h:Heap}{x dx C:Addr}{mA:tzA}(I:ObjM h x dx C mA):∃od,PySem.W.InstAt h x (PySem.W.instObj C dx) C (some od)/\∀name,PySem.W.lookIn name od=some (mA name):=
 let ⟨od,ho,hl⟩:=yk1 I.ns
 ⟨od,⟨I.obj,rfl,rfl,ho⟩,hl⟩
section
variable{prog:Program}{w:World}{A:Around}{E:Value->Shared->Prop}{s:Shared}{K:tz0}{x dx C f:Addr}{mA:tzA}{name:Str}{v:Value}
theorem zx9{expr:Bool}{Q:Value->Shared->Prop}(X:K.In s.heap)(I:ObjM s.heap x dx C mA)(hg:PySem.W.plainGet K C name=true)(hh:PySem.W.hasDictIn K C=true)
  (ha:PySem.W.findIn K (.ref C) name=some none) (hv:mA name=some v) (hv':PySem.W.handedIn v=true) (h:Q v {s with toks:=s.toks+1}):
  wpAny (model prog w) A (getAttr (.ref x) name expr) Q E s:=by
 obtain⟨od,J,hl⟩:=I.look
 exact PySem.W.get_value X J (YY hg).1 (PySem.W.findObj_own hh ha rfl (by rw [hl,hv])) hv' h
theorem zn8{pl:Sem Bool}{Q:Value×List Value->Shared->Prop}(X:K.In s.heap)(I:ObjM s.heap x dx C mA)(hg:PySem.W.plainGet K C name=true)
  (hf:PySem.W.findIn K (.ref C) name=some (some (.ref f))) (ht:PySem.W.isFn K (.ref f)=true) (hv:mA name=none) (h:Q (.ref f,[.ref x]) s):
  wpAny (model prog w) A (getMethod (.ref x) name pl) Q E s:=by
 obtain⟨od,J,hl⟩:=I.look
 exact PySem.W.method_fn X J (YY hg).1 (YY hg).2 hf (Yx.mp ht) (by show(PySem.W.lookIn name od).map (·.isSome)=some false;rw [hl,hv];rfl) h
theorem xe6{ns:List Str}{Q:Unit->Shared->Prop}(X:K.In s.heap)(I:ObjM s.heap x dx C mA)
  (hs:PySem.W.findIn K (.ref C) "__setattr__"=some (some (.builtin "object.__setattr__"))) (hp:PySem.W.plainOver K C=true) (ht:PySem.W.takerIn K C name=some none) (hh:PySem.W.hasDictIn K C=true)
  (hw:PySem.Within mA ns) (hsz:ns.length<=sizeLine)
  (h:∀h',ObjM h' x dx C (fun y=>if y=name then some v else mA y)->Heap.SameBut dx s.heap h'->Q () {s with heap:=h',toks:=s.toks+2}):
  wpAny (model prog w) A (setAttr (.ref x) name v) Q E s:=by
 obtain⟨od,J,hl⟩:=I.look
 refine PySem.W.set_plain X J hs (PySem.W.osa_open (s:={s with toks:=s.toks+1}) (r:=none) X J hp ht fun b=> ?_)
 obtain⟨cd,hc,hd'⟩:=PySem.W.any_some hh
 have hx:s.heap.get? x=some ⟨.ref C,some dx,.plain,#[]⟩:=I.obj
 refine Zg (ZD (Zg (Zg (wpAny_loadPart hx (Zg (PySem.W.Looks.here (s:={s with toks:=s.toks+1}) (PySem.W.looks_clsIn X hc) ?_))))))
 rw [hd']
 refine ZD (a:=some dx) (Zg (ZD (Zg ?_)))
 refine wpAny_nsSet1 (s:={s with toks:=s.toks+1}) I.ns fun h' hn2 hs2=> ?_
 obtain⟨oD,esD,epD,hoD,hdD,hcD⟩:=hn2.count (PySem.Within.cons name v hw)
 refine Zg (wpAny_lookBehind hoD (by rw [hdD];exact pastItsLine_dict (Zq hcD (by rw [Z4];omega))) ?_)
 exact ZD (h _ ⟨(hs2.2 _ (Ya I.ne)).trans I.obj,hn2,I.ne⟩ hs2)
theorem ys9{R:Result->Shared->Prop}{vs:List Value}{kw:List (Str×Value)}(X:K.In s.heap)(hm:PySem.W.makesIn K C=true)
  (hi:PySem.W.findIn K (.ref C) "__init__"=some (some (.ref f))) (hf:PySem.W.typeIn K (.ref f)=some (.type "function"))
  (h:codeAny (model prog w) (A.under (.builtin "type.__call__" ⟨.ref C::vs,kw⟩)) (.call (.ref f) ⟨.ref (s.heap.objs.size+1)::vs,kw⟩) (PySem.W.InitBack (s.heap.objs.size+1) R)
   {s with heap:=(s.heap.push PySem.W.emptyDict).push (PySem.W.instObj C s.heap.objs.size)}):
  codeAny (model prog w) A (.call (.ref C) ⟨vs,kw⟩) R s:=by
 obtain⟨hh,g,d,t,os⟩:=s
 exact PySem.W.make_core (PySem.W.makes_of X hm) (PySem.W.looks_findIn X hi) (fun self=>PySem.W.bind_fn X self hf) (.inl rfl) h
end
def gD(f:Str)(v:V):List (Str×V)->List (Str×V)
 |[]=>[(f,v)]
 |(g,x)::r=>if g=f then(g,v)::r else(g,x)::gD f v r
theorem xV(f g:Str)(v:V):∀fs:List (Str×V),(gD f v fs).lookup g=if g=f then some v else fs.lookup g
 | []=>by
  show List.lookup g [(f,v)]=_
  by_cases h:g=f
  ·have hb:(g==f)=true:=Yx.mpr h
   simp only [List.lookup,hb,if_pos h]
  ·have hb:(g==f)=false:=Y5.mpr h
   simp only [List.lookup,hb,if_neg h]
 | (k,x)::r=>by
  have ih:=xV f g v r
  rw [show gD f v ((k,x)::r)=(if k=f then(k,v)::r else(k,x)::gD f v r) from rfl]
  by_cases hk:k=f
  ·rw [if_pos hk]
   by_cases h:g=k
   ·have hb:(g==k)=true:=Yx.mpr h
    simp only [List.lookup,hb,if_pos (h.trans hk)]
   ·have hb:(g==k)=false:=Y5.mpr h
    simp only [List.lookup,hb,if_neg (fun e:g=f=>h (e.trans hk.symm))]
  ·rw [if_neg hk]
   by_cases h:g=k
   ·have hb:(g==k)=true:=Yx.mpr h
    simp only [List.lookup,hb,if_neg (fun e:g=f=>hk (h.symm.trans e))]
   ·have hb:(g==k)=false:=Y5.mpr h
    simp only [List.lookup,hb]
    exact ih
theorem vN(f:Str)(v:V):∀fs:List (Str×V),f∈(gD f v fs).map (·.1)/\∀g,g∈fs.map (·.1)->g∈(gD f v fs).map (·.1)
 |[]=>⟨by simp [gD],fun g h=>by simp at h⟩
 | (k,x)::r=>by
  obtain⟨i1,i2⟩:=vN f v r
  rw [show gD f v ((k,x)::r)=(if k=f then(k,v)::r else(k,x)::gD f v r) from rfl]
  by_cases hk:k=f
  ·rw [if_pos hk]
   subst hk
   exact⟨by simp,fun g h=>by simpa using h⟩
  ·rw [if_neg hk]
   refine⟨?_,fun g h=> ?_⟩
   ·rw [Zb]
    exact Z1 _ i1
   ·rw [Zb] at h|-
    rcases Za.mp h with e|e
    ·exact Za.mpr (.inl e)
    ·exact Z1 _ (i2 g e)
theorem xW(f:Str)(v:V):∀fs:List (Str×V),(gD f v fs).length<=fs.length+1
 |[]=>by simp [gD]
 |(k,x)::r=>by
  have ih:=xW f v r
  rw [show gD f v ((k,x)::r)=(if k=f then(k,v)::r else(k,x)::gD f v r) from rfl]
  by_cases hk:k=f
  ·rw [if_pos hk,Z4,Z4];omega
  ·rw [if_neg hk,Z4,Z4];omega
theorem jR.some_of{v:V}{o:Option Value}(r:jR (some v) o):∃u,o=some u/\cL v u:=by
 cases o with
 |none=>exact(show False from r).elim
 |some u=>exact⟨u,rfl,r⟩
theorem jR.none_of{o:Option Value}(r:jR none o):o=none:=by
 cases o with
 |none=>rfl
 |some u=>exact(show False from r).elim
theorem zf2{v:V}{u:Value}(r:cL v u):PySem.W.handedIn u=true:=by
 cases v with
 |non=>cases(show u=Value.none from r);rfl
 |bl b=>cases(show u=Value.bool b from r);rfl
 |int i=>obtain⟨t,e⟩:=(show ∃t,u=Value.int i t from r);cases e;rfl
 |str x=>obtain⟨t,e⟩:=(show ∃t,u=Value.str x t from r);cases e;rfl
 |byt b=>obtain⟨t,e⟩:=(show ∃t,u=Value.bytes b t from r);cases e;rfl
 |flt b=>obtain⟨t,e⟩:=(show ∃t,u=Value.float b t from r);cases e;rfl
 |ref a=>cases(show u=Value.ref a from r);rfl
 |ty n=>cases(show u=Value.type n from r);rfl
section
variable{P:Program}{w:World}{H H':Hp}{h h':Heap}{a C dx:Addr}{fs fs':List (Str×V)}
theorem xA(hok:HOk P w H h)(e:H a=some (.ins C dx fs)):∃mA,ObjM h a dx C mA/\(∀f,jR (fs.lookup f) (mA f))/\PySem.Within mA (fs.map (·.1))/\fs.length<=1000/\H dx=some (.own a):=by
 obtain⟨d,z,ne,ob,mA,n,r,q⟩:=(show dH P w H h a (.ins C dx fs) from hok a _ e)
 exact⟨mA,⟨ob,n,ne⟩,r,q,z,d⟩
end
structure Cls(K:tz0)(C:Addr):Prop where
 pg:PySem.W.plainGet K C Str.empty=true
 hd:PySem.W.hasDictIn K C=true
 po:PySem.W.plainOver K C=true
 sa:PySem.W.findIn K (.ref C) "__setattr__"=some (some (.builtin "object.__setattr__"))
theorem Cls.get{K:tz0}{C:Addr}(c:Cls K C)(f:Str):PySem.W.plainGet K C f=true:=c.pg
def dJ(K:tz0)(C:Addr)(f:Str):Prop:=PySem.W.findIn K (.ref C) f=some none
theorem dJ.taker{K:tz0}{C:Addr}{f:Str}(n:dJ K C f):PySem.W.takerIn K C f=some none:=by
 unfold PySem.W.takerIn
 rw [show PySem.W.findIn K (.ref C) f=some none from n]
 rfl
structure Meth(K:tz0)(C:Addr)(m:Str)(f:Addr):Prop where
 at_:PySem.W.findIn K (.ref C) m=some (some (.ref f))
 fn:PySem.W.isFn K (.ref f)=true
 kp:PySem.W.keepIn K (.ref f)=true
section
variable{X:Cx}{pins:tzB}{σ:St}{H:Hp}{s:Shared}{a C dx:Addr}{fs:List (Str×V)}{f:Str}{v:V}{A:Around}{E:Value->Shared->Prop}
theorem yc7{b:Bool}{Q:Value->Shared->Prop}(I:Inv X pins σ H s)(e:H a=some (.ins C dx fs))(c:Cls X.K C)(n:dJ X.K C f)(l:fs.lookup f=some v)
  (h:∀u s',Inv X pins σ H s'->cL v u->Q u s'):wpAny (model X.prog X.w) A (getAttr (.ref a) f b) Q E s:=by
 obtain⟨mA,O,r,_,_,_⟩:=xA I.hok e
 obtain⟨u,hu,ru⟩:=jR.some_of (v:=v) (o:=mA f) (by rw [<-l];exact r f)
 exact zx9 I.kIn O (c.get f) c.hd n hu (zf2 ru) (h u _ (I.tok _) ru)
theorem yc8{m:Str}{g:Addr}{pl:Sem Bool}{Q:Value×List Value->Shared->Prop}(I:Inv X pins σ H s)(e:H a=some (.ins C dx fs))(c:Cls X.K C)(k:Meth X.K C m g)(l:fs.lookup m=none)
  (h:Q (.ref g,[.ref a]) s):wpAny (model X.prog X.w) A (getMethod (.ref a) m pl) Q E s:=by
 obtain⟨mA,O,r,_,_,_⟩:=xA I.hok e
 have hn:mA m=none:=jR.none_of (by rw [<-l];exact r m)
 exact zn8 I.kIn O (c.get m) k.at_ k.fn hn h
theorem yc9{y:V}{u:Value}{Q:Unit->Shared->Prop}(I:Inv X pins σ H s)(e:H a=some (.ins C dx fs))(c:Cls X.K C)(n:dJ X.K C f)(hl:fs.length<1000)(ry:cL y u)
  (h:∀s',Inv X pins σ (upd H a (.ins C dx (gD f y fs))) s'->Q () s'):wpAny (model X.prog X.w) A (setAttr (.ref a) f u) Q E s:=by
 obtain⟨mA,O,r,wi,_,ho⟩:=xA I.hok e
 have hz:(fs.map (·.1)).length<=sizeLine:=by rw [Zc,ZZ];omega
 refine xe6 I.kIn O c.sa c.po n.taker c.hd wi hz fun h' O' sb=>h _ ?_
 have hd:∃o,h'.get? dx=some o:=let ⟨o,_,_,e',_⟩:=O'.ns;⟨o,e'⟩
 refine I.write (x:=a) (e:=dx) (by rw [e];exact True.intro) (.inr ho) (fun b q hb z=>(sb.2 b hb).trans z) hd ?_
 refine⟨by rw [bA O.ne];exact ho,?_,O.ne,O'.obj,_,O'.ns,fun g=> ?_,fun g hg=> ?_⟩
 ·have:=xW f y fs;omega
 ·show jR ((gD f y fs).lookup g) (if g=f then some u else mA g)
  rw [xV]
  by_cases q:g=f
  ·rw [if_pos q,if_pos q];exact ry
  ·rw [if_neg q,if_neg q];exact r g
 ·by_cases q:g=f
  ·rw [q];exact(vN f y fs).1
  ·refine(vN f y fs).2 g (wi g fun z=>hg ?_)
   show(if g=f then some u else mA g)=none
   rw [if_neg q];exact z
theorem Inv.made(I:Inv X pins σ H s):Inv X pins σ (upd (upd H s.heap.objs.size (.own (s.heap.objs.size+1))) (s.heap.objs.size+1) (.ins C s.heap.objs.size []))
  {s with heap:=(s.heap.push PySem.W.emptyDict).push (PySem.W.instObj C s.heap.objs.size)}:=by
 have e1:(s.heap.push PySem.W.emptyDict).get? s.heap.objs.size=some PySem.W.emptyDict:=Zv s.heap rfl
 have e2:((s.heap.push PySem.W.emptyDict).push (PySem.W.instObj C s.heap.objs.size)).get? (s.heap.objs.size+1)=some (PySem.W.instObj C s.heap.objs.size):=by
  have:=Zv (s.heap.push PySem.W.emptyDict) (o:=PySem.W.instObj C s.heap.objs.size) rfl
  rwa [Heap.size_push] at this
 have e3:(s.heap.push PySem.W.emptyDict).Ns s.heap.objs.size (fun _=>none):=⟨PySem.W.emptyDict,#[],_,e1,rfl,(fun e he=>absurd he (by simp)),fun _=>rfl⟩
 have I1:=I.laid (a:=s.heap.objs.size) (o:= .own (s.heap.objs.size+1)) (h':=s.heap.push PySem.W.emptyDict) (t':=s.toks) (fun b u q=>Zk _ q) (Z9 _) ⟨_,e1⟩
 refine I1.laid (a:=s.heap.objs.size+1) (o:= .ins C s.heap.objs.size []) (t':=s.toks) (fun b u q=>Zk _ q) (Nat.le_of_eq (Heap.size_push _ _)) ?_
 have ne:s.heap.objs.size≠s.heap.objs.size+1:=ZI (Xd _)
 refine⟨by rw [bA ne,bX],ZH _,ne,e2,fun _=>none,(Heap.Ns1.of_empty e3).at fun o q=>Zk _ q,fun _=>True.intro,fun y hy=>absurd rfl hy⟩
theorem zy0{prog:Program}{w:World}{env:Env}{e:Expr}{f:Str}{pos:Pos}{s:Shared}{Q:Value->Shared->Prop}(hb:attributeBase e f env (eval e env)=eval e env)
  (h:wpAny (model prog w) A (eval e env) (fun o s₁=>wpAny (model prog w) A (getAttr o f true) Q E s₁) E s):wpAny (model prog w) A (eval (.Attribute e f pos) env) Q E s:=
 Attribute_any_ h (by rw [arm_eval_Attribute,hb])
end
def xz1(K:tz0)(ta:TE)(f:Str):TE:=fun σ H Q=>ta σ H fun x H1=>∃a C dx fs v,x= .ref a/\H1 a=some (.ins C dx fs)/\Cls K C/\dJ K C f/\fs.lookup f=some v/\Q v H1
def xz2(K:tz0)(ta tv:TE)(f:Str):TS:=fun D σ H=>tv σ H fun y H1=>ta σ H1 fun x H2=>∃a C dx fs,x= .ref a/\H2 a=some (.ins C dx fs)/\Cls K C/\dJ K C f/\fs.length<1000/\
 D.nx σ (upd H2 a (.ins C dx (gD f y fs)))
section
variable{X:Cx}{o e value:Expr}{f:Str}{pos pos' tpos:Pos}{ta tv:TE}
theorem xm9(he:PE X e ta)(hb:attributeBase e f X.env (eval e X.env)=eval e X.env):PE X (.Attribute e f pos) (xz1 X.K ta f):=⟨by
 intro pins s σ H Q I h
 refine zy0 hb (thn (he pins s σ H _ I h) fun u s1 ⟨x,H1,I1,rx,a,C,dx,fs,v,ex,ea,c,n,l,q⟩=> ?_)
 subst ex
 obtain rfl:u=Value.ref a:=rx
 exact yc7 I1 ea c n l fun u' s2 I2 ru=>⟨v,H1,I2,ru,q⟩⟩
theorem xn0(ha:PE X o ta)(hv:PE X value tv)(hs:swapsWith value (some (.Attribute o f pos')) pos.line X.env=pure false):PS X (.Assign [.Attribute o f pos'] value pos) (xz2 X.K ta tv f):=⟨by
 intro pins s σ H D I h
 refine plainObj_wpAny_Assign_Attribute (thn (hv pins s σ H _ I h) fun u s1 ⟨y,H1,I1,ry,q⟩=>thn (ha pins s1 σ H1 _ I1 q) fun ov s2 ⟨x,H2,I2,rx,a,C,dx,fs,ex,ea,c,n,l,q2⟩=> ?_) hs
 subst ex
 obtain rfl:ov=Value.ref a:=rx
 exact yc9 I2 ea c n l ry fun s3 I3=>⟨σ,_,I3,q2⟩⟩
end
section
variable{X:Cx}{pins:tzB}{σ:St}{H:Hp}{s:Shared}{A:Around}{E:Value->Shared->Prop}{Q:Value->Shared->Prop}{c:Value}{b:Bool}
inductive TyOf(K:tz0)(H:Hp):V->Value->Prop where
 |non:TyOf K H .non (.type "NoneType")
 |bl (x:Bool):TyOf K H (.bl x) (.type "bool")
 |int (i:Int):TyOf K H (.int i) (.type "int")
 |str (x:Str):TyOf K H (.str x) (.type "str")
 |flt (x:UInt64):TyOf K H (.flt x) (.type "float")
 |lst {a:Addr} {xs:List V} (e:H a=some (.lst xs)):TyOf K H (.ref a) (.type "list")
 |frz {a:Addr} {o:Obj} {xs:List V} (e:H a=some (.frz o (.lst xs))):TyOf K H (.ref a) (.type "list")
 |tup {a:Addr} {xs:List V} (e:H a=some (.tup xs)):TyOf K H (.ref a) (.type "tuple")
 |dK {a:Addr} {kvs:List (Key×V)} (e:H a=some (.dK kvs)):TyOf K H (.ref a) (.type "dict")
 |dT {a:Addr} {kvs:List (List Key×V)} (e:H a=some (.dT kvs)):TyOf K H (.ref a) (.type "dict")
 | ins {a C dx:Addr} {fs:List (Str×V)} (e:H a=some (.ins C dx fs)) (cl:Cls K C) (ha:PySem.W.findIn K (.ref C) "__class__"=some (some (.builtin "object.__class__")))
   (hn:PySem.W.specialIn K (.builtin "object.__class__") "__get__"=some (some (.builtin "getset_descriptor.__get__"))) (htk:PySem.W.takesIn K (.builtin "object.__class__")=some true)
   (hm:PySem.W.mroIn K C (.type "object")=some true):TyOf K H (.ref a) (.ref C)
theorem yk2{x:V}{u t:Value}(I:Inv X pins σ H s)(rx:cL x u)(ty:TyOf X.K H x t)(e:PySem.W.kitOne X.K t c=some b)(h:∀tk,Q (.bool b) {s with toks:=tk}):
  wpAny (model X.prog X.w) A (call (.builtin "isinstance") [u,c]) Q E s:=by
 cases ty with
 |non=>cases(show u=Value.none from rx);exact ZK PySem.W.kitx_none I.kIn True.intro e (fun z=>nomatch z) h
 |bl y=>cases(show u=Value.bool y from rx);exact ZK PySem.W.kitx_bool I.kIn True.intro e (fun z=>nomatch z) h
 |int i=>obtain⟨t,q⟩:=(show ∃t,u=Value.int i t from rx);cases q;exact ZK PySem.W.kitx_int I.kIn True.intro e (fun z=>nomatch z) h
 |str y=>obtain⟨t,q⟩:=(show ∃t,u=Value.str y t from rx);cases q;exact ZK PySem.W.kitx_str I.kIn True.intro e (fun z=>nomatch z) h
 |flt y=>obtain⟨t,q⟩:=(show ∃t,u=Value.float y t from rx);cases q;exact ZK PySem.W.kitx_float I.kIn True.intro e (fun z=>nomatch z) h
 | @lst a xs ea=>
  cases(show u=Value.ref a from rx)
  obtain⟨_,_,n,_,h1⟩:=(show dH X.prog X.w H s.heap a (.lst xs) from I.hok a _ ea)
  exact ZK W6 I.kIn ⟨_,h1,rfl⟩ e (fun z=>nomatch z) h
 | @frz a ob xs ea=>
  cases(show u=Value.ref a from rx)
  obtain⟨_,_,_,n,_,h1⟩:=(show dH X.prog X.w H s.heap a (.frz ob (.lst xs)) from I.hok a _ ea)
  exact ZK W6 I.kIn ⟨_,h1,rfl⟩ e (fun z=>nomatch z) h
 | @tup a xs ea=>
  cases(show u=Value.ref a from rx)
  obtain⟨_,_,_,p⟩:=(show dH X.prog X.w H s.heap a (.tup xs) from I.hok a _ ea)
  obtain⟨o,h1,h2,_⟩:=p
  exact ZK W2 I.kIn ⟨o,h1,h2⟩ e (fun z=>nomatch z) h
 | @dK a kvs ea=>
  cases(show u=Value.ref a from rx)
  obtain⟨_,_,vs,_,p⟩:=(show dH X.prog X.w H s.heap a (.dK kvs) from I.hok a _ ea)
  obtain⟨o,es,ep,h1,h2,_⟩:=p
  exact ZK W7 I.kIn ⟨o,h1,h2.1⟩ e (fun z=>nomatch z) h
 | @dT a kvs ea=>
  cases(show u=Value.ref a from rx)
  obtain⟨_,_,xs,_,o,es,ep,h1,h2,_⟩:=(show dH X.prog X.w H s.heap a (.dT kvs) from I.hok a _ ea)
  exact ZK W7 I.kIn ⟨o,h1,h2.1⟩ e (fun z=>nomatch z) h
 | @ins a C dx fs ea cl ha hn htk hm=>
  cases(show u=Value.ref a from rx)
  obtain⟨mA,O,_⟩:=xA I.hok ea
  obtain⟨od,J,_⟩:=O.look
  exact ZK (PySem.W.kitx_own (cl.get _) cl.hd ha hn htk hm) I.kIn J e (fun z=>nomatch z) h
end
structure Room(k:Nat)(A:Around):Prop where
 hd:A.handled=none
 dp:A.depth+3*k+5<recursionLimit
 un:A.units+16*k+200<cLine
theorem Room.mono{j k:Nat}{A:Around}(r:Room k A)(h:j<=k):Room j A:=⟨r.hd,by have:=r.dp;omega,by have:=r.un;omega⟩
theorem Room.deeper{k:Nat}{A:Around}(r:Room (k+1) A)(env:Env):Room k (A.deeper env):=
 ⟨r.hd,by have:=r.dp;show A.depth+1+3*k+5<_;omega,by have:=r.un;show A.units+3+16*k+200<_;omega⟩
theorem yd0{A:Around}{C:Addr}{us:List Value}{kw:List (Str×Value)}:(A.under (.builtin "type.__call__" ⟨.ref C::us,kw⟩)).depth=A.depth+1:=by
 first|rfl|simp [Around.under,Code.weight,Code.isCreation,Code.isGuard,Code.isCaller,Code.frames,Code.isFrame,guardIds]
theorem yd1{A:Around}{C:Addr}{us:List Value}{kw:List (Str×Value)}:(A.under (.builtin "type.__call__" ⟨.ref C::us,kw⟩)).units=A.units+1:=by
 first|rfl|simp [Around.under,Code.cUnits,Code.frames,Code.isFrame]
theorem Room.make{k:Nat}{A:Around}(r:Room (k+1) A)(C:Addr)(us:List Value)(kw:List (Str×Value)):Room k (A.under (.builtin "type.__call__" ⟨.ref C::us,kw⟩)):=
 ⟨r.hd,by have:=r.dp;rw [yd0];omega,by have:=r.un;rw [yd1];omega⟩
theorem Room.depth{k:Nat}{A:Around}(r:Room k A):A.depth<recursionLimit:=by have:=r.dp;omega
theorem Room.units{k:Nat}{A:Around}(r:Room k A):A.units+64<cLine:=by have:=r.un;omega
theorem Room.units0{k:Nat}{A:Around}(r:Room k A):A.units<cLine:=by have:=r.un;omega
def xa6:TA:=fun _ H Q=>Q [] H
def xw1(ta:TE)(tr:TA):TA:=fun σ H Q=>ta σ H fun x H1=>tr σ H1 fun xs H2=>Q (x::xs) H2
abbrev StE(e:PySem.Expr)(es:List PySem.Expr)(X:Cx):Prop:=starEach (e::es) X.env=(false,eval e X.env)::starEach es X.env
section
variable{X:Cx}{e:Expr}{es:List Expr}{te:TE}{t:TA}{pos:Pos}
theorem mW:PA X [] xa6:=⟨fun _ _ _ _ H Q I h=>Xv ⟨[],H,I,.nil,h⟩⟩
theorem fV(ha:PE X e te)(hr:PA X es t)(hs:StE e es X:=by rfl):PA X (e::es) (xw1 te t):=⟨by
 intro pos pins s σ H Q I h
 rw [hs]
 show wpAny _ _ (spliced ((false,eval e X.env)::backTo pos (starEach es X.env))) _ _ s
 refine YH (thn (ha pins s σ H _ I h) fun u s1 ⟨x,H1,I1,r1,q1⟩=> ?_)
 exact thn (hr pos pins s1 σ H1 _ I1 q1) fun us s2 ⟨xs,H2,I2,r2,q2⟩=>⟨x::xs,H2,I2,.cons r1 r2,q2⟩⟩
def xz3(t:TA):TE:=fun σ H Q=>t σ H fun xs H1=>xs.length<=sizeLine/\∀p,H1 p=none->Q (.ref p) (upd H1 p (.tup xs))
def xz4(t:TA):TE:=fun σ H Q=>t σ H fun xs H1=>xs.length<=sizeLine/\∀p,H1 p=none->Q (.ref p) (upd H1 p (.lst xs))
theorem yk3{x1}(h:PA X es t):PE X (.Tuple es x1 pos) (xz3 t):=⟨by
 intro pins s σ H Q I hq
 refine wpAny_Tuple_spliced (thn (h pos pins s σ H _ I hq) fun us s1 ⟨xs,H1,I1,r,z,q⟩=>⟨by rw [<-r.length];exact z,?_⟩)
 have hf:H1 s1.heap.objs.size=none:=I1.hok.fresh (Z9 _)
 refine⟨.ref s1.heap.objs.size,upd H1 s1.heap.objs.size (.tup xs),I1.laid (t':=s1.toks) (fun b u e=>Zk _ e) (Z9 _) ?_,rfl,q _ hf⟩
 exact⟨z,us,r,⟨_,Zv _ rfl,rfl,_,rfl⟩⟩⟩
theorem xn1(h:PA X es t):PE X (.List es pos) (xz4 t):=⟨by
 intro pins s σ H Q I hq
 refine wpAny_List_spliced (thn (h pos pins s σ H _ I hq) fun us s1 ⟨xs,H1,I1,r,z,q⟩=>⟨by rw [<-r.length];exact z,?_⟩)
 have hf:H1 s1.heap.objs.size=none:=I1.hok.fresh (Z9 _)
 refine⟨.ref s1.heap.objs.size,upd H1 s1.heap.objs.size (.lst xs),I1.laid (t':=s1.toks) (fun b u e=>Zk _ e) (Z9 _) ?_,rfl,q _ hf⟩
 exact⟨z,us,0,r,Zv _ rfl⟩⟩
end
abbrev Sp:=List V->Hp->VK->XK->Prop
abbrev CXT:=List Env->Hp->Shared->XK->Value->Shared->Prop
structure Env0(P:Program)(w:World)(K:tz0)(mg:tzA)(base:Heap)(A:Around)(outer:List Env)(s:Shared)(H:Hp):Prop where
 frames:A.frames=some outer
 mod:Mod K mg base
 bs:∀b o,base.get? b=some o->s.heap.get? b=some o/\H b=none
 bsz:base.objs.size<=s.heap.objs.size
 funs:s.heap.FunFrames base outer
 frf:∀b∈frs outer,H b=none
 hok:HOk P w H s.heap
 bare:AllBare s.gens
def CE(outer:List Env)(P:Program)(w:World)(H:Hp)(s:Shared)(Q:VK)(u:Value)(s':Shared):Prop:=
 ∃v H',s'.os=s.os/\AllBare s'.gens/\Un (frs outer) [] H H' s.heap s'.heap/\HOk P w H' s'.heap/\cL v u/\Q v H'
def CR(CX:CXT)(outer:List Env)(P:Program)(w:World)(H:Hp)(s:Shared)(Q:VK)(E:XK)(r:Result)(s':Shared):Prop:=
 match r with
 | .ok (.ret u)=>CE outer P w H s Q u s'
 | .ok _=>False
 | .error e=>CX outer H s E e s'
structure FnOk(P:Program)(w:World)(K:tz0)(mg:tzA)(base:Heap)(CX:CXT)(k:Nat)(f:Addr)(fd:FuncData)(ps:List Str)(sp:Sp):Prop where
 len:∀vs H Q E,sp vs H Q E->vs.length=ps.length
 run:∀(A:Around) (outer:List Env) (s:Shared) (H:Hp) (args:Args) (us:List Value) (vs:List V) (Q:VK) (E:XK),Room k A->Env0 P w K mg base A outer s H->BindsTo s fd args (ps.zip us)->bT vs us->sp vs H Q E->
  codeAny (model P w) A (.call (.ref f) args) (CR CX outer P w H s Q E) s
theorem FnOk.mono{P:Program}{w:World}{K:tz0}{mg:tzA}{base:Heap}{CX:CXT}{j k:Nat}{f:Addr}{fd:FuncData}{ps:List Str}{sp:Sp}(F:FnOk P w K mg base CX j f fd ps sp)(h:j<=k):
  FnOk P w K mg base CX k f fd ps sp:=⟨F.len,fun A outer s H args us vs Q E hr=>F.run A outer s H args us vs Q E (hr.mono h)⟩
theorem FnOk.imp{P:Program}{w:World}{K:tz0}{mg:tzA}{base:Heap}{CX:CXT}{k:Nat}{f:Addr}{fd:FuncData}{ps:List Str}{sp sp':Sp}(F:FnOk P w K mg base CX k f fd ps sp)
  (h:∀vs H Q E,sp' vs H Q E->sp vs H Q E):FnOk P w K mg base CX k f fd ps sp':=
 ⟨fun vs H Q E q=>F.len vs H Q E (h _ _ _ _ q),fun A outer s H args us vs Q E hr he hb hv hs=>F.run A outer s H args us vs Q E hr he hb hv (h _ _ _ _ hs)⟩
theorem Env0.make{P:Program}{w:World}{K:tz0}{mg:tzA}{base:Heap}{A:Around}{outer:List Env}{s:Shared}{H:Hp}(e:Env0 P w K mg base A outer s H)(C:Addr)(us:List Value)(kw:List (Str×Value)):
  Env0 P w K mg base (A.under (.builtin "type.__call__" ⟨.ref C::us,kw⟩)) outer s H:=⟨by first|exact e.frames|(simpa [Around.under,Code.envs,Code.isFrame,pushEnvs] using e.frames),e.mod,e.bs,e.bsz,e.funs,e.frf,e.hok,e.bare⟩
section
variable{X:Cx}{pins:tzB}{σ:St}{H:Hp}{s s':Shared}
theorem Inv.env0(I:Inv X pins σ H s):Env0 X.prog X.w X.K X.mg X.base X.A X.stack s H:=
 ⟨I.ok.frames,I.ok.mod,I.bs,Zq I.ok.bsz I.sz,I.stack,I.stkFree,I.hok,I.bare⟩
theorem Inv.after{Q:VK}{u:Value}(I:Inv X pins σ H s)(h:CE X.stack X.prog X.w H s Q u s'):EP X pins σ Q u s':=by
 obtain⟨v,H',os,bare,un,hok,r,q⟩:=h
 obtain⟨hh,g,d,t,os'⟩:=s'
 obtain rfl:os'=s.os:=os
 exact⟨v,H',I.call (h':=hh) (g':=g) (d':=d) (t':=t) (ch:=[]) un hok bare (fun b z=>absurd z (by simp)),r,q⟩
end
def zl2(sp:Sp)(dvs:List V)(E:XK)(t:TA):TE:=fun σ H Q=>t σ H fun vs H1=>sp (vs++dvs) H1 Q E
def xw2(C:Addr)(m:Str)(sp:Sp)(dvs:List V)(E:XK)(ta:TE)(t:TA):TE:=fun σ H Q=>ta σ H fun x H1=>∃a dx fs,x= .ref a/\H1 a=some (.ins C dx fs)/\fs.lookup m=none/\
 t σ H1 fun vs H2=>sp (x::(vs++dvs)) H2 Q E
def xw3(C:Addr)(sp:Sp)(dvs:List V)(E:XK)(t:TA):TE:=fun σ H Q=>t σ H fun vs H1=>∀x dx,H1 x=none->H1 dx=none->dx≠x->
 sp (.ref x::(vs++dvs)) (upd (upd H1 dx (.own x)) x (.ins C dx [])) (fun v H2=>v= .non/\Q (.ref x) H2) E
def lO(K:tz0)(fd:FuncData)(ps:List Str)(ds:List Value):Prop:=
 ∀(s:Shared) (us:List Value),K.In s.heap->(us++ds).length=ps.length->BindsTo s fd ⟨us,[]⟩ (ps.zip (us++ds))
theorem lO.all{K:tz0}{fd:FuncData}{ps:List Str}(h:∀us:List Value,us.length=ps.length->bindArgs fd ⟨us,[]⟩=pure (ps.zip us)):lO K fd ps []:=fun s us _ hl=>by
 rw [Zh] at hl|-
 exact .of_eq (h us hl)
def oW(CX:CXT)(X:Cx)(E:XK):Prop:=∀(pins:tzB) (σ:St) (H:Hp) (s:Shared) (e:Value) (s':Shared),Inv X pins σ H s->CX X.stack H s E e s'->X.xe e s'
abbrev BkE(pos:PySem.Pos)(es:List PySem.Expr)(X:Cx):Prop:=(backTo pos (starEach es X.env)).any (·.1)=false
section
variable{X:Cx}{CX:CXT}{k:Nat}{f C:Addr}{fd:FuncData}{ps:List Str}{sp:Sp}{dvs:List V}{ds:List Value}{E:XK}{x m:Str}{p pos apos:Pos}{e o:Expr}{es:List Expr}{ta:TE}{t:TA}
theorem yU{pins:tzB}{σ:St}{H:Hp}{s:Shared}{Q:VK}{us:List Value}{vs:List V}(F:FnOk X.prog X.w X.K X.mg X.base CX k f fd ps sp)(hr:Room k X.A)(hb:lO X.K fd ps ds)(hd:bT dvs ds)(hx:oW CX X E)
  (I:Inv X pins σ H s) (r:bT vs us) (h:sp (vs++dvs) H Q E):wpAny (model X.prog X.w) X.A (call (.ref f) us) (EP X pins σ Q) X.xe s:=by
 have r2:bT (vs++dvs) (us++ds):=r.append hd
 have hl:(us++ds).length=ps.length:=by rw [<-r2.length];exact F.len _ _ _ _ h
 refine wpAny_call (Xw (F.run X.A X.stack s H ⟨us,[]⟩ (us++ds) (vs++dvs) Q E hr I.env0 (hb s us I.kIn hl) r2 h) fun r s' hq=> ?_)
 cases r with
 |error e=>exact hx pins σ H s e s' I hq
 |ok fl=>
  cases fl with
  |ret u=>exact I.after hq
  |next=>exact False.elim hq
  |brk=>exact False.elim hq
  |cont=>exact False.elim hq
theorem xe7(F:FnOk X.prog X.w X.K X.mg X.base CX k f fd ps sp)(hr:Room k X.A)(hg:Gl X x)(hm:X.mg x=some (.ref f))(hk:PySem.W.keepIn X.K (.ref f)=true)(hb:lO X.K fd ps ds)(hd:bT dvs ds)(hx:oW CX X E)
  (ha:PA X (e::es) t) (hdb:NDb x:=by decide) (he:StE e es X:=by rfl) (hpl:BkE pos es X:=by rfl):
  PE X (.Call (.Name x p) (e::es) [] pos) (zl2 sp dvs E t):=⟨by
 intro pins s σ H Q I h
 refine Ye (wX I hg hm ?_ hdb)
 refine YC (h₀:=X.base) I.ok.mod.kin hk (thn (ha pos pins s σ H _ I h) fun us s1 ⟨vs,H1,I1,r,q⟩=>⟨I1.kIn,?_⟩) he hpl
 exact yU F hr hb hd hx I1 r q⟩
theorem yt0(F:FnOk X.prog X.w X.K X.mg X.base CX k f fd ps sp)(hr:Room k X.A)(hg:Gl X x)(hm:X.mg x=some (.ref f))(hk:PySem.W.keepIn X.K (.ref f)=true)(hb:lO X.K fd ps ds)(hd:bT dvs ds)(hx:oW CX X E)
  (hdb:NDb x:=by decide):PE X (.Call (.Name x p) [] [] pos) (zl2 sp dvs E xa6):=⟨by
 intro pins s σ H Q I h
 refine Ye (wX I hg hm ?_ hdb)
 exact PySem.W.callWith_K0 I.kIn hk (yU (us:=[]) F hr hb hd hx I .nil h)⟩
theorem xe8{pl:Sem Bool}(he:PE X o ta)(c:Cls X.K C)(hm:Meth X.K C m f)(F:FnOk X.prog X.w X.K X.mg X.base CX k f fd ps sp)(hr:Room k X.A)(hb:lO X.K fd ps ds)(hd:bT dvs ds)(hx:oW CX X E)(ha:PA X (e::es) t)
  (hst:StE e es X:=by rfl) (hpl:BkE pos es X:=by rfl)
  (ht:eval (.Call (.Attribute o m apos) (e::es) [] pos) X.env=(do
   let ov<-eval o X.env
   standAt apos.atName
   let (f,first)<-holding [ov] (getMethod ov m pl)
   callWith pos f first (backTo pos (starEach (e::es) X.env)) (backToKw pos (keywordEach [] X.env))):=by rfl):
  PE X (.Call (.Attribute o m apos) (e::es) [] pos) (xw2 C m sp dvs E ta t):=⟨by
 intro pins s σ H Q I h
 refine XT (pl:=pl) (thn (he pins s σ H _ I h) fun u s1 ⟨x,H1,I1,rx,a,dx,fs,ex,ea,l,q⟩=> ?_) ht
 subst ex
 obtain rfl:u=Value.ref a:=rx
 refine yc8 I1 ea c hm l ?_
 refine YC (first:=[.ref a]) (h₀:=X.base) I.ok.mod.kin hm.kp (thn (ha pos pins s1 σ H1 _ I1 q) fun us s2 ⟨vs,H2,I2,r,q2⟩=>⟨I2.kIn,?_⟩) hst hpl
 exact yU (us:= .ref a::us) (vs:= .ref a::vs) F hr hb hd hx I2 (.cons rfl r) q2⟩
structure Mk(K:tz0)(C f:Addr):Prop where
 makes:PySem.W.makesIn K C=true
 init:PySem.W.findIn K (.ref C) "__init__"=some (some (.ref f))
 fn:PySem.W.isFn K (.ref f)=true
 kp:PySem.W.keepIn K (.ref C)=true
theorem yt1{pins:tzB}{σ:St}{H:Hp}{s:Shared}{Q:VK}{us:List Value}{vs:List V}(M:Mk X.K C f)(F:FnOk X.prog X.w X.K X.mg X.base CX k f fd ps sp)(hr:Room (k+1) X.A)(hb:lO X.K fd ps ds)(hd:bT dvs ds)
  (hx:oW CX X E) (I:Inv X pins σ H s) (r:bT vs us)
  (h:∀x dx,H x=none->H dx=none->dx≠x->sp (.ref x::(vs++dvs)) (upd (upd H dx (.own x)) x (.ins C dx [])) (fun v H2=>v= .non/\Q (.ref x) H2) E):
  wpAny (model X.prog X.w) X.A (call (.ref C) us) (EP X pins σ Q) X.xe s:=by
 have hq:=h (s.heap.objs.size+1) s.heap.objs.size (I.hok.fresh (Nat.le_succ _)) (I.hok.fresh (Z9 _)) (ZI (Xd _))
 have I2:=Inv.made (C:=C) I
 have r2:bT (V.ref (s.heap.objs.size+1)::(vs++dvs)) (Value.ref (s.heap.objs.size+1)::(us++ds)):= .cons rfl (r.append hd)
 have hl:(Value.ref (s.heap.objs.size+1)::us++ds).length=ps.length:=by
  have e:=r2.length
  rw [F.len _ _ _ _ hq] at e
  exact e.symm
 refine wpAny_call (ys9 (f:=f) I.kIn M.makes M.init (Yx.mp M.fn) (Xw (F.run _ X.stack _ _ ⟨Value.ref (s.heap.objs.size+1)::us,[]⟩ (Value.ref (s.heap.objs.size+1)::(us++ds)) _ _ E (hr.make C us [])
  (I2.env0.make C us []) (hb _ (Value.ref (s.heap.objs.size+1)::us) I2.kIn hl) r2 hq) fun r s' hq'=> ?_))
 cases r with
 |error e=>exact hx pins σ _ _ e s' I2 hq'
 | ok fl=>
  cases fl with
  |ret u=>
   obtain⟨v,H',I3,rv,ev,q3⟩:=I2.after hq'
   subst ev
   exact⟨rv,⟨V.ref (s.heap.objs.size+1),H',I3,rfl,q3⟩⟩
  |next=>exact False.elim hq'
  |brk=>exact False.elim hq'
  |cont=>exact False.elim hq'
theorem xe9(M:Mk X.K C f)(F:FnOk X.prog X.w X.K X.mg X.base CX k f fd ps sp)(hr:Room (k+1) X.A)(hg:Gl X x)(hm:X.mg x=some (.ref C))(hb:lO X.K fd ps ds)(hd:bT dvs ds)(hx:oW CX X E)
  (ha:PA X (e::es) t) (hdb:NDb x:=by decide) (he:StE e es X:=by rfl) (hpl:BkE pos es X:=by rfl):
  PE X (.Call (.Name x p) (e::es) [] pos) (xw3 C sp dvs E t):=⟨by
 intro pins s σ H Q I h
 refine Ye (wX I hg hm ?_ hdb)
 refine YC (h₀:=X.base) I.ok.mod.kin M.kp (thn (ha pos pins s σ H _ I h) fun us s1 ⟨vs,H1,I1,r,q⟩=>⟨I1.kIn,?_⟩) he hpl
 exact yt1 M F hr hb hd hx I1 r q⟩
end
structure FnScope(N P:List Str)(sc:Scope):Prop where
 kind:sc.kind= .function
 co:sc.isCoroutine=false
 gen:sc.isGenerator=false
 nd:N.Nodup
 pre:N.take P.length=P
 par:∀x∈P,sc.names.lookup x=some .local\/sc.names.lookup x=some .cell
 nofree:∀y∈sc.names,y.2≠ .free
theorem zf3{kindOf:Str->Option NameKind}{x:Str}:∀{binds:List (Str×Value)} {m:tzA},(∀v,(x,v)∉binds)->bindL kindOf binds m x=m x
 |[],_,_=>rfl
 | (n,v)::r,m,h=>by
  unfold bindL
  rw [zf3 fun w hw=>h w (Z1 _ hw)]
  split
  ·have:x≠n:=by rintro rfl;exact h v Z0
   simp [this]
  ·rfl
theorem zf4{kindOf:Str->Option NameKind}{x:Str}:∀{binds:List (Str×Value)} {m:tzA},(∀v,(x,v)∉binds)->bindC kindOf binds m x=m x
 |[],_,_=>rfl
 | (n,v)::r,m,h=>by
  unfold bindC
  rw [zf4 fun w hw=>h w (Z1 _ hw)]
  split
  ·rfl
  ·have:x≠n:=by rintro rfl;exact h v Z0
   simp [this]
theorem zf5{kindOf:Str->Option NameKind}{x:Str}{v:Value}:∀{P:List Str} {vs:List Value} {i:Nat} {m:tzA},P.Nodup->P[i]? =some x->vs[i]? =some v->kindOf x=some .local->
  bindL kindOf (P.zip vs) m x=some v
 |[],_,_,_,_,h,_,_=>by simp at h
 |_::_,[],_,_,_,_,h,_=>by simp at h
 |p::P,w::vs,0,m,nd,h1,h2,hk=>by
  simp at h1 h2;subst h1;subst h2
  show bindL kindOf ((p,w)::P.zip vs) m p=_
  unfold bindL
  rw [zf3 fun v hv=>(Zp.mp nd).1 (Xl hv).1,if_pos hk]
  simp
 |p::P,w::vs,i+1,m,nd,h1,h2,hk=>by
  show bindL kindOf ((p,w)::P.zip vs) m x=_
  unfold bindL
  exact zf5 (i:=i) (Zp.mp nd).2 (by simpa using h1) (by simpa using h2) hk
theorem zf6{kindOf:Str->Option NameKind}{x:Str}{v:Value}:∀{P:List Str} {vs:List Value} {i:Nat} {m:tzA},P.Nodup->P[i]? =some x->vs[i]? =some v->kindOf x≠some .local->
  bindC kindOf (P.zip vs) m x=some v
 |[],_,_,_,_,h,_,_=>by simp at h
 |_::_,[],_,_,_,_,h,_=>by simp at h
 |p::P,w::vs,0,m,nd,h1,h2,hk=>by
  simp at h1 h2;subst h1;subst h2
  show bindC kindOf ((p,w)::P.zip vs) m p=_
  unfold bindC
  rw [zf4 fun v hv=>(Zp.mp nd).1 (Xl hv).1,if_neg hk]
  simp
 |p::P,w::vs,i+1,m,nd,h1,h2,hk=>by
  show bindC kindOf ((p,w)::P.zip vs) m x=_
  unfold bindC
  exact zf6 (i:=i) (Zp.mp nd).2 (by simpa using h1) (by simpa using h2) hk
def start(N:List Str)(vs:List V):St:=vs.map some++List.replicate (N.length-vs.length) none
def wK(CX:CXT)(P:Program)(w:World)(K:tz0)(mg:tzA)(base:Heap)(N:List Str)(qual:Str)(scope:Scope)(f:Addr)(cd:Value)(A:Around)(outer:List Env)(s:Shared)(H:Hp)(E:XK):Cx where
 prog:=P
 w:=w
 K:=K
 mg:=mg
 base:=base
 A:=A.deeper (envOfC qual scope s.heap.objs.size f cd)
 N:=N
 s₀:=s
 H₀:=H
 env:=envOfC qual scope s.heap.objs.size f cd
 outer:=outer
 stack:=envOfC qual scope s.heap.objs.size f cd::outer
 ex:=[]
 calm:=true
 fn:=fun _=>true
 pn:=[]
 xe:=fun e s'=>wpAny (model P w) (A.deeper (envOfC qual scope s.heap.objs.size f cd)) (leaving (envOfC qual scope s.heap.objs.size f cd) e) (fun _ s''=>CX outer H s E e s'') (fun e' s''=>CX outer H s E e' s'') s'
theorem zn9{sc:Scope}{n:Nat}{x:Str}(h:sc.names.lookup x=some .cell):∃c,(cellsFrom n sc.names []).lookup x=some c:=by
 have q:=XN sc.names n [] (.inl h)
 exact Option.isSome_iff_exists.mp q
theorem yk4{CX:CXT}{P:Program}{w:World}{K:tz0}{mg:tzA}{base:Heap}{N ps:List Str}{qual:Str}{scope:Scope}{f:Addr}{cd:Value}{A:Around}{outer:List Env}{s s1:Shared}{H:Hp}{E:XK}{us:List Value}{vs:List V}
  (S:FnScope N ps scope) (hd:A.handled=none) (e0:Env0 P w K mg base A outer s H) (hl:vs.length=ps.length) (r:bT vs us)
  (x:InCallC s s.heap.objs.size (bindL (envOfC qual scope s.heap.objs.size f cd).kindOf (ps.zip us) fun _=>none) (cellsFrom (s.heap.objs.size+1) scope.names []) (bindC (envOfC qual scope s.heap.objs.size f cd).kindOf (ps.zip us) fun _=>none) s1):
  Inv (wK CX P w K mg base N qual scope f cd A outer s H E) [] (start N vs) H s1:=by
 have hpl:ps.length<=N.length:=by have:=ZS List.length S.pre;rw [Yi] at this;omega
 obtain⟨h1,tk,rfl,hk⟩:=x.done
 have noA:∀b:Addr,b∉(wK CX P w K mg base N qual scope f cd A outer s H E).ex:=fun b z=>absurd (show b∈([]:List Addr) from z) (by simp)
 refine⟨⟨e0.mod,S.kind,rfl,rfl,Z9 _,fun y z c h1 h2=> ?_,fun y hy=> ?_,fun y c _ h=> ?_,fun _=>hd,Around.frames_deeper e0.frames,.inr ⟨rfl,rfl⟩,fun b z=>absurd z (noA b),e0.bs,e0.bsz,fun b _ _=>noA b,fun b z=>absurd z (noA b),e0.funs,e0.frf⟩,
  rfl,e0.bare,Un.kept hk,⟨_,x.toInCall.ns,fun i y v h1 h2 h3=> ?_⟩,fun y c h=>⟨_,x.cell y c h⟩,e0.hok.fresh (Z9 _),fun y c h=> ?_,fun p hp=>absurd (show p∈([]:tzB) from hp) (by simp),e0.hok.kept hk,?_⟩
 ·exact name_of_addr x.apart (Y6 h1) (Y6 h2)
 ·have hy:scope.names.lookup y=some .cell\/scope.names.lookup y=some .free:=hy
  rcases hy with hy|hy
  ·exact zn9 hy
  ·exact absurd rfl (S.nofree _ (Y6 hy))
 ·exact YM (x.above y c (Y6 h))
 ·have hi:i<vs.length:=by
   unfold start at h2
   by_cases hi:i<vs.length
   ·exact hi
   ·rw [Yg (by simpa using hi)] at h2
    rw [Yn] at h2
    split at h2<;>cases h2
  have ha:vs[i]? =some v:=by
   unfold start at h2
   rw [ZN (by simpa using hi),Zi] at h2
   cases e:vs[i]? with
   |none=>rw [e] at h2;cases h2
   |some a=>rw [e] at h2;cases h2;rfl
  obtain⟨u,hu,rv⟩:=r.get ha
  have hp:ps[i]? =some y:=by
   rw [<-S.pre,List.getElem?_take_of_lt (by omega)];exact h1
  have ndP:ps.Nodup:=by rw [<-S.pre];exact S.nd.sublist (List.take_sublist _ _)
  refine⟨u,rv,?_⟩
  rcases S.par y (ZT hp) with k|k
  ·exact .inl ⟨k,zf5 ndP hp hu k⟩
  ·obtain⟨c,e⟩:=zn9 (n:=s.heap.objs.size+1) k
   refine .inr ⟨.inl k,c,e,?_⟩
   have q:=x.cell y c e
   rw [zf6 ndP hp hu (by show scope.names.lookup y≠_;rw [k];decide)] at q
   exact q
 ·exact e0.hok.fresh (YM (x.above y c (Y6 h)))
 ·unfold start
  show _=N.length
  rw [Z3,Zc,YR]
  omega
theorem xu7{CX:CXT}{P:Program}{w:World}{K:tz0}{mg:tzA}{base:Heap}{k:Nat}{f:Addr}{name qual:Str}{params:Arguments}{body:List Stmt}{scope:Scope}{dV kV doc pm cdv ct oc:Value}{an od:Option Addr}
  {osl:Array (Option Value)} {N ps:List Str} {sp:Sp} (lk:K.lookup f=some ⟨oc,od,.func (PySem.W.fnOf name qual params body scope dV kV doc pm an cdv ct),osl⟩) (hcd:PySem.W.codeIn K cdv qual=true) (S:FnScope N ps scope)
  (len:∀vs H Q E,sp vs H Q E->vs.length=ps.length)
  (hbody:∀(A:Around) (outer:List Env) (s:Shared) (H:Hp) (vs:List V) (Q:VK) (E:XK),Room k (A.deeper (envOfC qual scope s.heap.objs.size f cdv))->sp vs H Q E->
   ∃t,PSs (wK CX P w K mg base N qual scope f cdv A outer s H E) body t/\t {nx:=fun _ H'=>Q .non H',rt:=Q} (start N vs) H):
  FnOk P w K mg base CX (k+1) f (PySem.W.fnOf name qual params body scope dV kV doc pm an cdv ct) ps sp:=by
 refine⟨len,fun A outer s H args us vs Q E hr e0 hb r hsp=> ?_⟩
 have hl:=len _ _ _ _ hsp
 have KX:K.In s.heap:=e0.mod.kin.keeps fun b o e=>(e0.bs b o e).1
 have lim:s.heap.NoLimit:=e0.mod.nolimit.keeps fun b o e=>(e0.bs b o e).1
 have hkind:∀y∈ps.zip us,scope.names.lookup y.1=some .local\/(scope.names.lookup y.1=some .cell/\((cellsFrom (s.heap.objs.size+1) scope.names []).lookup y.1).isSome=true):=fun⟨n,v⟩ hy=>by
  rcases S.par n (Xl hy).1 with q|q
  ·exact .inl q
  ·exact .inr ⟨q,XN _ _ _ (.inl q)⟩
 refine codeAny_call_function hr.depth (KX _ _ lk) rfl S.co S.gen rfl (PySem.W.codeRec_of KX hcd) (hb _ _ _ _ ?_)
 refine wpAny_newFunctionEnv_cells S.kind hkind fun env he s1 x=> ?_
 subst he
 refine⟨lim.keeps x.toInCall.keep,codeAny_func ?_⟩
 obtain⟨t,ht,hq⟩:=hbody A outer s H vs Q E (hr.deeper _) hsp
 have I:Inv (wK CX P w K mg base N qual scope f cdv A outer s H E) [] (start N vs) H s1:=yk4 S hr.hd e0 hl r x
 refine Y8 (ht [] s1 (start N vs) H _ I hq) (fun fl s' hs=> ?_) fun e s' hs=>hs
 have fin:∀{σ':St} {H':Hp} {v:V} {u:Value},Inv (wK CX P w K mg base N qual scope f cdv A outer s H E) [] σ' H' s'->cL v u->Q v H'->CE outer P w H s Q u s':=
  fun {σ' H' v u} J rv q=>⟨v,H',J.os,J.bare,J.base,J.hok,rv,q⟩
 cases fl with
 |ret u=>
  obtain⟨v,σ',H',J,rv,q⟩:=hs
  exact fin J rv q
 |next=>
  obtain⟨σ',H',J,q⟩:=hs
  exact fin (v:=V.non) (u:=Value.none) J rfl q
 |brk=>
  obtain⟨_,_,_,q⟩:=hs
  exact False.elim q
 |cont=>
  obtain⟨_,_,_,q⟩:=hs
  exact False.elim q
section
variable{X:Cx}{x:Str}{p pos:Pos}{e:Expr}{es:List Expr}{t:TA}{id T:String}{r:List V->Hp->VK->Prop}
def tCB(r:List V->Hp->VK->Prop)(t:TA):TE:=fun σ H Q=>t σ H fun vs H1=>r vs H1 Q
theorem qN(hc:CallR X (.builtin id) r)(hg:Gl X x)(hm:X.mg x=none)(hv:bootBuiltins x=some (.builtin id))(ha:PA X (e::es) t)(hn:x≠"__name__":=by decide)(hdb:NDb x:=by decide)
  (he:StE e es X:=by rfl) (hpl:BkE pos es X:=by rfl):PE X (.Call (.Name x p) (e::es) [] pos) (tCB r t):=⟨by
 intro pins s σ H Q I h
 refine Ye (sQ I hg hm hv ?_ hn hdb)
 exact PyProof.Rows.callWith_builtin1 (thn (ha pos pins s σ H _ I h) fun us s1 ⟨vs,H1,I1,r1,q1⟩=>hc pins s1 σ H1 vs us Q I1 r1 q1) he hpl⟩
theorem yk5(hc:CallR X (.type T) r)(hg:Gl X x)(hm:X.mg x=none)(hv:bootBuiltins x=some (.type T))(ha:PA X (e::es) t)(hn:x≠"__name__":=by decide)(hdb:NDb x:=by decide)
  (he:StE e es X:=by rfl) (hpl:BkE pos es X:=by rfl):PE X (.Call (.Name x p) (e::es) [] pos) (tCB r t):=⟨by
 intro pins s σ H Q I h
 refine Ye (sQ I hg hm hv ?_ hn hdb)
 exact Yd (thn (ha pos pins s σ H _ I h) fun us s1 ⟨vs,H1,I1,r1,q1⟩=>hc pins s1 σ H1 vs us Q I1 r1 q1) he hpl⟩
end
end L2
namespace HT
open PySem PyProof.Rows
def lexLt:List Int->List Int->Bool
 |[],[]=>false
 |[],_::_=>true
 |_::_,[]=>false
 |x::xs,y::ys=>if x=y then lexLt xs ys else decide (x<y)
theorem yd2(x y:Int)(xs ys:List Int):lexLt (x::xs) (y::ys)=if x=y then lexLt xs ys else decide (x<y):=rfl
theorem zj4:lexLt [] []=false:=rfl
theorem zb4(y:Int)(ys:List Int):lexLt [] (y::ys)=true:=rfl
theorem zb5(x:Int)(xs:List Int):lexLt (x::xs) []=false:=rfl
theorem yt2(A:Around)(s:Shared)(a:Int)(t:Tok)(c:Int)(u:Tok):∃e,SeqAt.EqAt A s (.int a t) (.int c u) e/\(e=true↔a=c):=
 ⟨(a==c),SeqAt.EqAt.int_int a t c u,by simp⟩
theorem yt3(A:Around)(s:Shared)(a:Int)(t:Tok)(c:Int)(u:Tok)(prog:Program)(w:World)(E:Value->Shared->Prop)(Q:Value->Shared->Prop)(h:Q (.bool (decide (a<c))) s):
  wpAny (model prog w) A (richCompare .Lt (.int a t) (.int c u)) Q E s:=
 (PyProof.Rows.lt_int h:wpAny (model prog w) A (compareOp .Lt (.int a t) (.int c u)) Q E s)
section
open PySem.SeqAt
open PySem.AutoSeq1 (wpAny_loadPart')
open PySem.MeetsSeq PySem.MeetsSeq2 PySem.MeetsSeq3
theorem zj5(l b:Addr)(items items2:Array Value)(n n2:Nat)(dd dd2:Option Addr)(sl sl2:Array (Option Value))(ns ms:List Int)(hi:IntsAre items.toList ns)(hj:IntsAre items2.toList ms):
  Meets (Builtin.«tuple.__lt__» ⟨[.ref l,.ref b],[]⟩)
   (fun _ R s=>s.heap.get? l=some {cls:= .type "tuple",dict:=dd,data:= .seq items n,slots:=sl}/\s.heap.get? b=some {cls:= .type "tuple",dict:=dd2,data:= .seq items2 n2,slots:=sl2}/\
    R (.ok (.ret (.bool (lexLt ns ms)))) s):=
 .of_wp fun prog w A R s h=>by
  obtain⟨hp,g,d,tk,os⟩:=s;obtain⟨hl,hb,h⟩:=h
  have f2:=W3
  have z1:items.size=ns.length:=by rw [<-hi.length];simp
  have z2:items2.size=ms.length:=by rw [<-hj.length];simp
  wp_walk using Yh hl,Yh hb,wpAny_forIn_list _ (fun rest b s'=>b.1=none/\s'=⟨hp,g,d,tk,os⟩/\∃(vs ws:List Value) (ns' ms':List Int),rest=vs.zip ws/\
   IntsAre vs ns'/\IntsAre ws ms'/\ns'.length+items2.size=ms'.length+items.size/\R (.ok (.ret (.bool (lexLt ns' ms')))) ⟨hp,g,d,tk,os⟩) _
  case turn=>
   rintro⟨y,x⟩ rest b s' ⟨hb',rfl,vs,ws,ns',ms',hz,hvi,hwi,hlen,hR⟩
   cases hvi with
   |nil=>rw [X8] at hz;cases hz
   | cons a t hvi'=>
    cases hwi with
    |nil=>rw [W4] at hz;cases hz
    | cons c u hwi'=>
     rw [Yb] at hz
     injection hz with hyx hrest
     injection hyx with hy hx
     subst hy hx
     rw [yd2] at hR
     simp only [Z4] at hlen
     obtain⟨e,he,hiff⟩:=yt2 A.in1 ⟨hp,g,d,tk,os⟩ a t c u
     refine Zg (he prog w _ _ ?_)
     cases e with
     |true=>
      rw [if_pos (hiff.mp rfl)] at hR
      wp_walk
      exact⟨rfl,rfl,_,_,_,_,hrest,hvi',hwi',by omega,hR⟩
     |false=>
      rw [if_neg (fun q=>absurd (hiff.mpr q) Z8)] at hR
      have hri:=yt3 A.in1 ⟨hp,g,d,tk,os⟩ a t c u prog w
      wp_walk using hri
      exact⟨_,rfl,by simpa using hR⟩
  case fin=>
   rintro⟨b1,b2⟩ s' ⟨hb',rfl,vs,ws,ns',ms',hz,hvi,hwi,hlen,hR⟩
   simp only at hb'
   subst hb'
   have hv:lexLt ns' ms'=decide (items.size<items2.size):=by
    cases hvi with
    | nil=>
     cases hwi with
     |nil=>
      simp only [ZL] at hlen
      rw [zj4]
      exact(Z5 (by omega)).symm
     |cons c u hw=>
      simp only [ZL,Z4] at hlen
      rw [zb4]
      exact(Ze (by omega)).symm
    | cons a t hv=>
     cases hwi with
     |nil=>
      simp only [ZL,Z4] at hlen
      rw [zb5]
      exact(Z5 (by omega)).symm
     |cons c u hw=>
      rw [Yb] at hz
      cases hz
   rw [hv] at hR
   wp_walk
   exact⟨_,rfl,by simpa [Builtin.Tuple.tupleCompareSizes] using hR⟩
  case h=>
   exact⟨rfl,rfl,items.toList,items2.toList,ns,ms,rfl,hi,hj,by omega,h⟩
end
section
variable{prog:Program}{w:World}{A:Around}{E:Value->Shared->Prop}{s:Shared}
theorem lt_tupInts{l b:Addr}{items items2:Array Value}{ns ms:List Int}{Q:Value->Shared->Prop}(hl:IsTup s.heap l items)(hb:IsTup s.heap b items2)(hi:IntsAre items.toList ns)(hj:IntsAre items2.toList ms)
  (hu:A.units<cLine) (h:Q (.bool (lexLt ns ms)) s):wpAny (model prog w) A (compareOp .Lt (.ref l) (.ref b)) Q E s:=by
 obtain⟨⟨cls,dd,data,sl⟩,ho,hc,n,hd⟩:=id hl
 obtain⟨⟨cls2,dd2,data2,sl2⟩,ho2,hc2,n2,hd2⟩:=id hb
 simp only at hc hd hc2 hd2
 subst hc hd hc2 hd2
 exact richCompare_meets_room (op:= .Lt) ⟨_,ho,rfl⟩ ⟨_,ho2,rfl⟩ XU XO (XJ _ _) (zj5 l b items items2 n n2 dd dd2 sl sl2 ns ms hi hj)
  ⟨ho,ho2,show Value.bool (lexLt ns ms)≠Value.notImplemented/\Q (.bool (lexLt ns ms)) s from⟨(fun x=>nomatch x),h⟩⟩ hu
theorem cat_tup{t b:Addr}{vs ws:List Value}{Q:Value->Shared->Prop}(ht:IsTup s.heap t vs.toArray)(hb:IsTup s.heap b ws.toArray)(hv:vs≠[])
  (h1:ws=[]->Q (.ref t) s) (h2:ws≠[]->Q (.ref s.heap.objs.size) {s with heap:=s.heap.push {cls:= .type "tuple",data:= .seq (vs++ws).toArray}})
  (hsz:vs.length+ws.length<=sizeLine):wpAny (model prog w) A (binaryOp .Add (.ref t) (.ref b)) Q E s:=by
 obtain⟨⟨cls,dd,data,sl⟩,ho,hc,n,hd⟩:=id ht
 obtain⟨⟨cls2,dd2,data2,sl2⟩,ho2,hc2,n2,hd2⟩:=id hb
 simp only at hc hd hc2 hd2
 subst hc hd hc2 hd2
 have e:vs.toArray++ws.toArray=(vs++ws).toArray:=by simp
 by_cases hw:ws=[]
 ·exact concat_meets ⟨_,ho,rfl⟩ ⟨_,ho2,rfl⟩ XD W5 YN YI (YE _ _)
   (tuple_addW1 t b vs.toArray ws.toArray n n2 dd dd2 sl sl2 (by simpa using hv) (by simp [hw])) ⟨ho,ho2,h1 hw⟩
 ·refine concat_meets ⟨_,ho,rfl⟩ ⟨_,ho2,rfl⟩ XD W5 YN YI (YE _ _)
   (tuple_addW2 t b vs.toArray ws.toArray n n2 dd dd2 sl sl2 (by simpa using hv) (by simpa using hw) (by rw [Zm,Zm];exact hsz)) ⟨ho,ho2,?_⟩
  rw [e]
  exact h2 hw
def sIx(n d:Nat):Option Int->Nat
 |none=>d
 |some v=>if v<0 then(v+(n:Int)).toNat else min v.toNat n
end
end HT
namespace L2
open PySem PySem.Spec PyProof.Rows
abbrev TO:=St->Hp->(Option Int->Hp->Prop)->Prop
def POd(X:Cx)(e:Option Expr)(t:TO):Prop:=
 ∀(pins:tzB) (s:Shared) (σ:St) (H:Hp) (Q:Option Int->Hp->Prop),Inv X pins σ H s->t σ H Q->
  wpAny (model X.prog X.w) X.A (evalPart e X.env) (fun u s'=>∃o H',Inv X pins σ H' s'/\IsPart u o/\Q o H') X.xe s
structure PO(X:Cx)(e:Option Expr)(t:TO):Prop where
 go:POd X e t
instance {X:Cx} {e:Option Expr} {t:TO}:CoeFun (PO X e t) fun _=>POd X e t:=⟨PO.go⟩
def xl3:TO:=fun _ H Q=>Q none H
def xw4(t:TE):TO:=fun σ H Q=>t σ H fun x H1=>∃i,x= .int i/\Q (some i) H1
section
variable{X:Cx}{e:Expr}{te:TE}{lo hi:Option Expr}{tl th:TO}{pos p2:Pos}
theorem xf0:PO X none xl3:=⟨by
 intro pins s σ H Q I h
 rw [evalPart_none]
 exact ZD ⟨none,H,I,.none,h⟩⟩
theorem xf1(h:PE X e te):PO X (some e) (xw4 te):=⟨by
 intro pins s σ H Q I hw
 rw [evalPart_some]
 refine thn (h pins s σ H _ I hw) fun u s1 ⟨x,H1,I1,r1,q1⟩=> ?_
 obtain⟨i,rfl,q⟩:=q1
 obtain⟨t,rfl⟩:=r1
 exact⟨some i,H1,I1,.int i t,q⟩⟩
def SlR(X:Cx)(r:V->Option Int->Option Int->Hp->VK->Prop):Prop:=
 ∀(pins:tzB) (s:Shared) (σ:St) (H:Hp) (x:V) (v vl vu:Value) (lo hi:Option Int) (sl:Addr) (Q:VK),Inv X pins σ H s->cL x v->s.heap.IsSliceOf sl vl vu .none->IsPart vl lo->IsPart vu hi->r x lo hi H Q->
  ∃T id,typeLookup (.type T) "__getitem__"=pure (some (.builtin id))/\s.TypeIs v T/\wpAny (model X.prog X.w) X.A (getItem v (.ref sl)) (EP X pins σ Q) X.xe s
def tSl(r:V->Option Int->Option Int->Hp->VK->Prop)(te:TE)(tl th:TO):TE:=fun σ H Q=>te σ H fun x H1=>tl σ H1 fun l H2=>th σ H2 fun u H3=>r x l u H3 Q
theorem yt4{r:V->Option Int->Option Int->Hp->VK->Prop}(hr:SlR X r)(he:PE X e te)(hl:PO X lo tl)(hu:PO X hi th):PE X (.Subscript e (.Slice lo hi none p2) pos) (tSl r te tl th):=⟨by
 intro pins s σ H Q I h
 refine Subscript_ (thn (he pins s σ H _ I h) fun v s1 ⟨x,H1,I1,r1,q1⟩=> ?_)
 refine wpAny_Slice (thn (hl pins s1 σ H1 _ I1 q1) fun vl s2 ⟨l,H2,I2,pl,q2⟩=>thn (hu pins s2 σ H2 _ I2 q2) fun vu s3 ⟨u,H3,I3,pu,q3⟩=> ?_)
 rw [evalPart_none]
 refine ZD ?_
 have I4:Inv X pins σ H3 {s3 with heap:=s3.heap.push {cls:= .type "slice",data:= .fields #[vl,vu,.none]}}:=I3.kept (t':=s3.toks) fun b ob q=>Zk _ q
 obtain⟨T,id,hT,ht,hg⟩:=hr pins {s3 with heap:=s3.heap.push {cls:= .type "slice",data:= .fields #[vl,vu,.none]}} σ H3 x v vl vu l u s3.heap.objs.size Q I4 r1 (Heap.IsSliceOf.new ..) pl pu q3
 show wpAny (model X.prog X.w) X.A (subscriptTail e (.Slice lo hi none p2) v (.ref s3.heap.objs.size)) (EP X pins σ Q) X.xe {s3 with heap:=s3.heap.push {cls:= .type "slice",data:= .fields #[vl,vu,.none]}}
 exact tail_any (ops:=[.ref s3.heap.objs.size,v]) ht hT hg (by with_unfolding_all rfl)⟩
def ze4(xs:List V)(lo hi:Option Int):List V:=(xs.drop (HT.sIx xs.length 0 lo)).take (HT.sIx xs.length xs.length hi-HT.sIx xs.length 0 lo)
theorem zw3(xs:List V)(lo hi:Option Int):(ze4 xs lo hi).length<=xs.length:=by
 unfold ze4
 rw [Yi,Xe]
 omega
def xw5(K:tz0):R2:=fun x y H Q=>∃a b xs ys,x= .ref a/\y= .ref b/\SqT K H a xs/\SqT K H b ys/\xs≠[]/\xs.length+ys.length<=sizeLine/\
 (ys=[]->Q (.ref a) H)/\(ys≠[]->∀p,H p=none->Q (.ref p) (upd H p (.tup (xs++ys))))
theorem bT.nil_iff{xs:List V}{us:List Value}(r:bT xs us):us=[]↔xs=[]:=by
 cases r with
 |nil=>simp
 |cons _ _=>simp
theorem xf2:OpR X (binaryOp .Add) (xw5 X.K):=⟨by
 intro pins s σ H x y v u Q I rx ry h
 obtain⟨a,b,xs,ys,rfl,rfl,ha,hb,hx,hz,q1,q2⟩:=h
 cases rx
 cases ry
 obtain⟨its,r1,p1,_⟩:=I.tuple ha
 obtain⟨its2,r2,p2,_⟩:=I.tuple hb
 refine HT.cat_tup p1 p2 (fun z=>hx (r1.nil_iff.mp z)) (fun z=>⟨.ref a,H,I,rfl,q1 (r2.nil_iff.mp z)⟩) (fun z=> ?_) (by rw [<-r1.length,<-r2.length];exact hz)
 refine⟨.ref s.heap.objs.size,_,I.laid (t':=s.toks) (o:= .tup (xs++ys)) (fun b ob q=>Zk _ q) (Z9 _) ?_,rfl,q2 (fun w=>z (r2.nil_iff.mpr w)) _ (I.hok.fresh (Z9 _))⟩
 exact⟨by rw [Z3];exact hz,_,r1.append r2,IsTup.new _ _⟩⟩
end
def ixN(n:Nat)(i:Int):Option Nat:=if 0<=i then(if i<n then some i.toNat else none) else if-(n:Int)<=i then some (i+n).toNat else none
def atI{α:Type}(xs:List α)(i:Int):Option α:=(ixN xs.length i).bind fun j=>xs[j]?
theorem xB{n:Nat}{i:Int}{j:Nat}(h:ixN n i=some j):seqIndex? i n=some j/\j<n/\ -(n:Int)<=i/\i<n:=by
 unfold ixN at h
 by_cases h0:0<=i
 ·rw [if_pos h0] at h
  by_cases h1:i<n
  ·rw [if_pos h1] at h
   have e:i.toNat=j:=ZA h
   exact⟨by rw [seqIndex_of h0 h1,e],by omega,by omega,h1⟩
  ·rw [if_neg h1] at h;cases h
 ·rw [if_neg h0] at h
  by_cases h1: -(n:Int)<=i
  ·rw [if_pos h1] at h
   have e:(i+n).toNat=j:=ZA h
   exact⟨by rw [seqIndex_neg (by omega) h1,e],by omega,h1,by omega⟩
  ·rw [if_neg h1] at h;cases h
theorem mO{α:Type}{xs:List α}{i:Int}{v:α}(h:atI xs i=some v):∃j,seqIndex? i xs.length=some j/\xs[j]? =some v/\j<xs.length/\ -(xs.length:Int)<=i/\i<xs.length:=by
 unfold atI at h
 cases e:ixN xs.length i with
 |none=>rw [e] at h;cases h
 |some j=>
  rw [e] at h
  obtain⟨h1,h2,h3,h4⟩:=xB e
  exact⟨j,h1,h,h2,h3,h4⟩
theorem zb6{α:Type}{xs:List α}{j:Nat}{v:α}(h:xs[j]? =some v):atI xs (j:Int)=some v:=by
 have hj:j<xs.length:=(Z7.mp h).1
 have e:ixN xs.length (j:Int)=some j:=by
  unfold ixN
  rw [if_pos (by omega),if_pos (by omega)];simp
 unfold atI;rw [e];exact h
theorem zo0{α:Type}(xs:List α)(v:α):atI (xs++[v]) (-1)=some v:=by
 have hl:(xs++[v]).length=xs.length+1:=by simp
 have e:ixN (xs++[v]).length (-1)=some xs.length:=by
  unfold ixN
  rw [hl,if_neg (by decide),if_pos (by omega)]
  congr 1
  omega
 unfold atI
 rw [e]
 show(xs++[v])[xs.length]? =some v
 simp
def xL(b:Expr):Prop:=∀o i,subscripted b false o i=operate [o,i] (getItem o i)
def IxR(X:Cx)(r:R2):Prop:=
 ∀(value slice:Expr) (pins:tzB) (s:Shared) (σ:St) (H:Hp) (x y:V) (v u:Value) (Q:VK),Inv X pins σ H s->cL x v->cL y u->r x y H Q->
  subscripted slice false v u=operate [v,u] (getItem v u)->wpAny (model X.prog X.w) X.A (subscriptTail value slice v u) (EP X pins σ Q) X.xe s
def xs3(X:Cx)(id:String)(r:V->List V->Hp->VK->Prop):Prop:=
 ∀(pins:tzB) (s:Shared) (σ:St) (H:Hp) (x:V) (xs:List V) (v:Value) (us:List Value) (Q:VK),Inv X pins σ H s->cL x v->bT xs us->r x xs H Q->
  wpAny (model X.prog X.w) X.A (call (.builtin id) (v::us)) (EP X pins σ Q) X.xe s
structure MtR(X:Cx)(id:String)(r:V->List V->Hp->VK->Prop):Prop where
 go:xs3 X id r
instance {X:Cx} {id:String} {r:V->List V->Hp->VK->Prop}:CoeFun (MtR X id r) fun _=>xs3 X id r:=⟨MtR.go⟩
section
variable{X:Cx}{a b:Expr}{ta tb:TE}{pos:Pos}
theorem IxR.or{r r':R2}(h:IxR X r)(h':IxR X r'):IxR X (fun x y H Q=>r x y H Q\/r' x y H Q):=by
 intro value slice pins s σ H x y v u Q I rx ry q hs
 rcases q with q|q
 ·exact h value slice pins s σ H x y v u Q I rx ry q hs
 ·exact h' value slice pins s σ H x y v u Q I rx ry q hs
theorem zk2{r:R2}(hr:IxR X r)(ha:PE X a ta)(hb:PE X b tb)(hs:xL b):PE X (.Subscript a b pos) (tOp r ta tb):=⟨by
 intro pins s σ H Q I h
 exact Subscript_ (ys6 ha hb I h fun v u s2 x y H2 I2 rx ry q=>hr a b pins s2 σ H2 x y v u Q I2 rx ry q (hs _ _))⟩
def xs4(K:tz0):R2:=fun x y H Q=>∃p xs i v,x= .ref p/\y= .int i/\SqL K H p xs/\atI xs i=some v/\Q v H
def xs5(K:tz0):R2:=fun x y H Q=>∃p xs i v,x= .ref p/\y= .int i/\SqT K H p xs/\atI xs i=some v/\Q v H
def xs6:R2:=fun x y H Q=>∃z i c,x= .str z/\y= .int i/\z.length<=sizeLine/\atI z.cps.toList i=some c/\Q (.str ⟨#[c]⟩) H
theorem zb7:IxR X (xs4 X.K):=by
 intro value slice pins s σ H x y v u Q I rx ry h hs
 obtain⟨p,xs,i,z,rfl,rfl,hq,he,q⟩:=h
 cases rx
 obtain⟨t,rfl⟩:=ry
 obtain⟨its,r,pl,hz⟩:=I.list hq
 obtain⟨j,h1,h2,h3,h4,h5⟩:=mO he
 obtain⟨w,ew,rw'⟩:=r.get h2
 have hl:=r.length
 have hn:=qM
 have fin:EP X pins σ Q w s:=⟨z,H,I,rw',q⟩
 by_cases h0:0<=i
 ·have hj:i.toNat=j:=by
   rw [seqIndex_of h0 h5] at h1
   exact ZA h1
  exact item_listR pl.isList h0 (by omega) (by rw [hj];simpa using ew) fin hs
 ·have hj:(i+(its.toArray.size:Int)).toNat=j:=by
   rw [seqIndex_neg (by omega) h4] at h1
   rw [Zm,<-hl]
   exact ZA h1
  exact subscriptTail_builtinR (x:=w) pl.isList.typeIs slot_list_getitem.lookup
   (wpAny_getItem_list_neg (Q:=fun r s'=>r=w/\EP X pins σ Q r s') pl.isList (by omega) (by rw [Zm]<;>omega) (by omega) (by rw [hj];simpa using ew) ⟨rfl,fin⟩) hs
theorem xn2:IxR X (xs5 X.K):=by
 intro value slice pins s σ H x y v u Q I rx ry h hs
 obtain⟨p,xs,i,z,rfl,rfl,hq,he,q⟩:=h
 cases rx
 obtain⟨t,rfl⟩:=ry
 obtain⟨its,r,pl,hz⟩:=I.tuple hq
 obtain⟨j,h1,h2,h3,h4,h5⟩:=mO he
 obtain⟨w,ew,rw'⟩:=r.get h2
 have hl:=r.length
 have hn:=qM
 have fin:EP X pins σ Q w s:=⟨z,H,I,rw',q⟩
 exact subscriptTail_builtinR (x:=w) pl.typeIs slot_tuple_getitem.lookup
  (getItem_tuple (j:=j) (Q:=fun r s'=>r=w/\EP X pins σ Q r s') pl (by omega) (by omega) (by rw [Zm,<-hl];exact h1) (by simpa using ew) ⟨rfl,fin⟩) hs
theorem xn3:IxR X xs6:=by
 intro value slice pins s σ H x y v u Q I rx ry h hs
 obtain⟨z,i,c,rfl,rfl,hz,he,q⟩:=h
 obtain⟨t,rfl⟩:=rx
 obtain⟨t',rfl⟩:=ry
 obtain⟨j,h1,h2,h3,h4,h5⟩:=mO he
 have hl:z.cps.toList.length=z.length:=by simp [Str.length]
 rw [hl] at h1 h4 h5
 have hn:=qM
 exact tail_any (YZ s z t) slot_str_getitem.lookup (getItem_str (c:=c) (by
  have e1:decide (i< -(2^63:Int))=false:=Z5 (by omega)
  have e2:decide (i>=2^63)=false:=Z5 (by omega)
  rw [e1,e2,Bool.or_false]) (by rw [h1];simpa using h2) ⟨.str ⟨#[c]⟩,H,I.tok _,⟨_,rfl⟩,q⟩) hs
def rIx(K:tz0):R2:=fun x y H Q=>xs4 K x y H Q\/xs5 K x y H Q\/xs6 x y H Q
theorem yk6:IxR X (rIx X.K):=zb7.or (xn2.or xn3)
theorem yd3(its:List Value)(n j:Nat)(u:Value):Obj.mapSeq (·.setIfInBounds j u) {cls:= .type "list",data:= .seq its.toArray n}={cls:= .type "list",data:= .seq (its.set j u).toArray n}:=by
 simp [Obj.mapSeq]
theorem Inv.lst{pins:tzB}{σ:St}{H:Hp}{s:Shared}{p:Addr}{xs:List V}(I:Inv X pins σ H s)(h:H p=some (.lst xs)):
  ∃(its:List Value) (n:Nat),bT xs its/\s.heap.get? p=some {cls:= .type "list",data:= .seq its.toArray n}/\xs.length<=sizeLine:=by
 obtain⟨z,its,n,r,e⟩:=I.hok p _ h
 exact⟨its,n,r,e,z⟩
theorem Inv.lstUpd{pins:tzB}{σ:St}{H:Hp}{s:Shared}{p:Addr}{xs ys:List V}{its its':List Value}{n n':Nat}{f:Obj->Obj}(I:Inv X pins σ H s)(h:H p=some (.lst xs))
  (ho:s.heap.get? p=some {cls:= .type "list",data:= .seq its.toArray n}) (hf:f {cls:= .type "list",data:= .seq its.toArray n}={cls:= .type "list",data:= .seq its'.toArray n'}) (r:bT ys its') (hz:ys.length<=sizeLine) (t:Nat):
  Inv X pins σ (upd H p (.lst ys)) {s with heap:=s.heap.update p f,toks:=t}:=by
 have e:(s.heap.update p f).get? p=some {cls:= .type "list",data:= .seq its'.toArray n'}:=by
  rw [Heap.get?_update_self f ho (by rw [hf]<;>rfl),hf]
 refine I.write (x:=p) (e:=p) (by rw [h];trivial) (.inl rfl) (fun b u hb q=>(Heap.get?_update_other _ _ (Ya hb)).trans q) ⟨_,e⟩ ?_
 exact⟨hz,its',n',r,e⟩
def xw6:V->V->V->Hp->(Hp->Prop)->Prop:=fun o i v H Q=>∃p xs k j,o= .ref p/\i= .int k/\H p=some (.lst xs)/\ixN xs.length k=some j/\Q (upd H p (.lst (xs.set j v)))
theorem yt5:xr7 X xw6:=by
 intro pins s σ H o i v ov iv u Q I ro ri rv h
 obtain⟨p,xs,k,j,rfl,rfl,hp,hj,q⟩:=h
 cases ro
 obtain⟨t,rfl⟩:=ri
 obtain⟨its,n,r,ho,hz⟩:=I.lst hp
 obtain⟨h1,h2,h3,h4⟩:=xB hj
 have hl:=r.length
 have hn:=qM
 have I':Inv X pins σ (upd H p (.lst (xs.set j v))) {s with heap:=s.heap.update p (Obj.mapSeq (·.setIfInBounds j u))}:=
  I.lstUpd hp ho (yd3 its n j u) (r.set rv j) (by rw [List.length_set];exact hz) s.toks
 by_cases h0:0<=k
 ·have hk:k.toNat=j:=by
   rw [seqIndex_of h0 h4] at h1
   exact ZA h1
  exact PySem.W.ki_setAt ho h0 (by omega) (by rw [Zm,<-hl];exact h4) (by rw [hk];exact⟨_,I',q⟩)
 ·have hk:(k+(its.toArray.size:Int)).toNat=j:=by
   rw [seqIndex_neg (by omega) h3] at h1
   rw [Zm,<-hl]
   exact ZA h1
  exact PySem.W.ki_setBack ho (by omega) (by rw [Zm,<-hl];exact h3) (by omega) (by rw [hk];exact⟨_,I',q⟩)
theorem zo1(lo hi:Option Int)(n:Nat):(sliceBounds lo hi none n).1=((HT.sIx n 0 lo:Nat):Int)/\(sliceBounds lo hi none n).2.1=((HT.sIx n n hi:Nat):Int)/\(sliceBounds lo hi none n).2.2=1:=by
 refine⟨?_,?_,rfl⟩
 ·cases lo with
  |none=>simp [sliceBounds,HT.sIx]
  |some i=>
   simp only [sliceBounds,HT.sIx,Option.getD_none,show(1:Int)>0 by decide,ZW]
   by_cases h:i<0
   ·simp only [h,ZW]<;>omega
   ·simp only [h,Yz]<;>omega
 ·cases hi with
  |none=>simp [sliceBounds,HT.sIx]
  |some i=>
   simp only [sliceBounds,HT.sIx,Option.getD_none,show(1:Int)>0 by decide,ZW]
   by_cases h:i<0
   ·simp only [h,ZW]<;>omega
   ·simp only [h,Yz]<;>omega
theorem zj6(its:List Value)(lo hi:Option Int):slicePick its.toArray lo hi none=((its.drop (HT.sIx its.length 0 lo)).take (HT.sIx its.length its.length hi-HT.sIx its.length 0 lo)).toArray:=by
 obtain⟨h1,h2,h3⟩:=zo1 lo hi its.toArray.size
 unfold slicePick
 rw [h1,h2,h3]
 simp only [sliceRange_one,pick_run,Zm]<;>rfl
def xz5(K:tz0):V->Option Int->Option Int->Hp->VK->Prop:=fun x lo hi H Q=>∃a xs,x= .ref a/\SqL K H a xs/\∀p,H p=none->Q (.ref p) (upd H p (.lst (ze4 xs lo hi)))
theorem xf3:SlR X (xz5 X.K):=by
 intro pins s σ H x v vl vu lo hi sl Q I rx hs pl pu h
 obtain⟨a,xs,rfl,hx,q⟩:=h
 cases rx
 obtain⟨its,r,ht,hz⟩:=I.list hx
 have hlen:=r.length
 refine⟨"list",_,slot_list_getitem.lookup,ht.isList.typeIs,?_⟩
 refine wpAny_getItem_list_slice ht.isList hs pl pu .none (by simp) ?_ (by rw [Zm]<;>omega)
 rw [zj6,<-hlen]
 refine⟨.ref s.heap.objs.size,_,I.laid (t':=s.toks) (o:= .lst (ze4 xs lo hi)) (fun b ob q=>Zk _ q) (Z9 _) ?_,rfl,q _ (I.hok.fresh (Z9 _))⟩
 exact⟨Zq (zw3 xs lo hi) hz,_,0,(r.drop (HT.sIx xs.length 0 lo)).take (HT.sIx xs.length xs.length hi-HT.sIx xs.length 0 lo),Zv _ rfl⟩
def kH:V->Bool
 | .non=>true
 | .bl _=>true
 | .int _=>true
 | .str _=>true
 |_=>false
def eqV:V->V->Bool
 | .non,.non=>true
 | .bl a,.bl b=>a==b
 | .bl a,.int b=>(if a then 1 else 0)==b
 | .int a,.bl b=>a==(if b then 1 else 0)
 | .int a,.int b=>a==b
 | .str a,.str b=>a==b
 |_,_=>false
theorem xn4{A:Around}{s:Shared}{y x:V}{u v:Value}(ry:cL y u)(rx:cL x v)(fy:kH y=true)(fx:kH x=true):SeqAt.EqAt A s u v (eqV y x):=by
 cases y with
 |non=>
  cases ry
  cases x with
  |non=>cases rx;exact SeqAt.EqAt.same _
  |bl b=>cases rx;exact SeqAt.EqAt.none_bool b
  |int b=>obtain⟨t,rfl⟩:=rx;exact SeqAt.EqAt.none_int b t
  |str b=>obtain⟨t,rfl⟩:=rx;exact SeqAt.EqAt.none_str b t
  |_=>exact absurd (show false=true from fx) Z8
 |bl a=>
  cases ry
  cases x with
  |non=>cases rx;exact SeqAt.EqAt.bool_none a
  |bl b=>cases rx;exact SeqAt.EqAt.bool_bool a b
  |int b=>obtain⟨t,rfl⟩:=rx;exact SeqAt.EqAt.bool_int a b t
  |str b=>obtain⟨t,rfl⟩:=rx;exact SeqAt.EqAt.bool_str a b t
  |_=>exact absurd (show false=true from fx) Z8
 |int a=>
  obtain⟨t',rfl⟩:=ry
  cases x with
  |non=>cases rx;exact SeqAt.EqAt.int_none a t'
  |bl b=>cases rx;exact SeqAt.EqAt.int_bool a t' b
  |int b=>obtain⟨t,rfl⟩:=rx;exact SeqAt.EqAt.int_int a t' b t
  |str b=>obtain⟨t,rfl⟩:=rx;exact SeqAt.EqAt.int_str a t' b t
  |_=>exact absurd (show false=true from fx) Z8
 |str a=>
  obtain⟨t',rfl⟩:=ry
  cases x with
  |non=>cases rx;exact SeqAt.EqAt.str_none a t'
  |bl b=>cases rx;exact SeqAt.EqAt.str_bool a t' b
  |int b=>obtain⟨t,rfl⟩:=rx;exact SeqAt.EqAt.str_int a t' b t
  |str b=>obtain⟨t,rfl⟩:=rx;exact SeqAt.EqAt.str_str a t' b t
  |_=>exact absurd (show false=true from fx) Z8
 |_=>exact absurd (show false=true from fy) Z8
def eqU(x:V)(u:Value):Bool:=match u with
 | .none=>eqV .non x
 | .bool b=>eqV (.bl b) x
 | .int i _=>eqV (.int i) x
 | .str z _=>eqV (.str z) x
 |_=>false
theorem yk7{x y:V}{u:Value}(r:cL y u)(f:kH y=true):eqU x u=eqV y x:=by
 cases y with
 |non=>cases r;rfl
 |bl b=>cases r;rfl
 |int i=>obtain⟨t,rfl⟩:=r;rfl
 |str z=>obtain⟨t,rfl⟩:=r;rfl
 |_=>exact absurd (show false=true from f) Z8
theorem zb8{x:V}:∀{xs:List V} {us:List Value},bT xs us->xs.all kH=true->us.any (eqU x)=xs.any fun y=>eqV y x
 |_,_,.nil,_=>rfl
 |y::xs,u::us,.cons r t,f=>by
  rw [XE,ZG] at f
  rw [YF,YF,yk7 r f.1,zb8 t f.2]
theorem yA{A:Around}{s:Shared}{x:V}{v:Value}(rx:cL x v)(fx:kH x=true):∀{xs:List V} {us:List Value},bT xs us->xs.all kH=true->∀u∈us,SeqAt.EqAt A s u v (eqU x u)
 |_,_,.nil,_=>fun u hu=>by cases hu
 |y::xs,u::us,.cons r t,f=>fun u' hu=>by
  rw [XE,ZG] at f
  rcases Za.mp hu with rfl|hu
  ·rw [yk7 r f.1];exact xn4 r rx f.1 fx
  ·exact yA rx fx t f.2 u' hu
def inV(x:V)(xs:List V):Bool:=xs.any fun y=>eqV y x
def rIn(K:tz0)(neg:Bool):R2:=fun x y H Q=>∃p xs,y= .ref p/\(SqL K H p xs\/SqT K H p xs)/\kH x=true/\xs.all kH=true/\Q (.bl (if neg then !inV x xs else inV x xs)) H
theorem yk8:OpR X (compareOp .In) (rIn X.K false):=⟨by
 intro pins s σ H x y v u Q I rx ry h
 obtain⟨p,xs,rfl,hq,fx,fs,q⟩:=h
 cases ry
 rcases hq with hq|hq
 ·obtain⟨its,r,pl,hz⟩:=I.list hq
  refine SeqAt.in_listAt (eqU x) pl.isList (fun w hw=>yA rx fx r fs w (by simpa using hw)) ⟨.bl _,H,I,rfl,?_⟩
  rw [show its.toArray.any (eqU x)=its.any (eqU x) by simp,zb8 r fs]
  exact q
 ·obtain⟨its,r,pl,hz⟩:=I.tuple hq
  refine SeqAt.in_tupleAt (eqU x) pl (fun w hw=>yA rx fx r fs w (by simpa using hw)) ⟨.bl _,H,I,rfl,?_⟩
  rw [show its.toArray.any (eqU x)=its.any (eqU x) by simp,zb8 r fs]
  exact q⟩
theorem jD:CallR X (.builtin "len") (fun xs H Q=>∃p ys,xs=[.ref p]/\(SqL X.K H p ys\/SqT X.K H p ys)/\Q (.int ys.length) H):=⟨by
 intro pins s σ H xs us Q I r h
 obtain⟨p,ys,rfl,hq,q⟩:=h
 obtain⟨u,rfl,rx⟩:=wZ r
 cases rx
 have hn:=qM
 rcases hq with hq|hq
 ·obtain⟨its,r',pl,hz⟩:=I.list hq
  have hlen:=r'.length
  exact Calls.call_len_list pl.isList (by simp only [Zm]<;>omega) ⟨.int ys.length,H,I.tok _,⟨s.toks+1,by rw [Zm,hlen]⟩,q⟩
 ·obtain⟨its,r',pl,hz⟩:=I.tuple hq
  have hlen:=r'.length
  exact len_tuple pl (by simp only [Zm]<;>omega) ⟨.int ys.length,H,I.tok _,⟨s.toks+1,by rw [Zm,hlen]⟩,q⟩⟩
theorem zo2:CallR X (.builtin "len") (fun xs H Q=>∃z,xs=[.str z]/\z.length<=sizeLine/\Q (.int z.length) H):=⟨by
 intro pins s σ H xs us Q I r h
 obtain⟨z,rfl,hz,q⟩:=h
 obtain⟨u,rfl,t,rfl⟩:=wZ r
 have hn:=qM
 exact len_str (by omega) ⟨.int z.length,H,I.tok _,⟨_,rfl⟩,q⟩⟩
theorem vE:CallR X (.type "tuple") (fun xs H Q=>∃p ys,xs=[.ref p]/\((SqL X.K H p ys/\∀l,H l=none->Q (.ref l) (upd H l (.tup ys)))\/(SqT X.K H p ys/\Q (.ref p) H))):=⟨by
 intro pins s σ H xs us Q I r h
 obtain⟨p,ys,rfl,h⟩:=h
 obtain⟨u,rfl,rx⟩:=wZ r
 cases rx
 rcases h with ⟨hq,q⟩|⟨hq,q⟩
 ·obtain⟨its,r',pl,hz⟩:=I.list hq
  have hlen:=r'.length
  refine call_tuple_list pl.isList (fun h' kp=> ?_) (by simp only [Zm]<;>omega)
  have I1:Inv X pins σ H {s with heap:=h'}:=I.kept (t':=s.toks) kp
  have I2:Inv X pins σ (upd H h'.objs.size (.tup ys)) {s with heap:=h'.push {cls:= .type "tuple",data:= .seq its.toArray}}:=
   I1.laid (t':=s.toks) (fun b o e=>Zk _ e) (Z9 _) (show dH X.prog X.w _ _ _ (.tup ys) from⟨hz,its,r',IsTup.new _ _⟩)
  exact⟨.ref h'.objs.size,_,I2,rfl,q _ (I1.hok.fresh (Z9 _))⟩
 ·obtain⟨its,r',pl,hz⟩:=I.tuple hq
  exact call_tuple_same pl ⟨.ref p,H,I,rfl,q⟩⟩
def tyV(K:tz0)(T:String)(x:V)(H:Hp):Prop:=match x with
 | .str _=>T="str"
 | .int _=>T="int"
 | .ref p=>(T="list"/\∃xs,SqL K H p xs)\/(T="tuple"/\∃o,K.lookup p=some o/\o.cls= .type "tuple"/\o.dict=none)\/
   (T="dict"/\((∃kvs,H p=some (.dK kvs))\/∃kvs,H p=some (.dT kvs)))\/(T="set"/\∃S n,H p=some (.set S n))
 |_=>False
theorem zo3{pins:tzB}{σ:St}{H:Hp}{s:Shared}{T:String}{x:V}{v:Value}(I:Inv X pins σ H s)(r:cL x v)(ty:tyV X.K T x H):
  s.TypeIs v T/\∀a,v= .ref a->∃ob,s.heap.get? a=some ob/\ob.dict=none:=by
 cases x with
 |str z=>
  obtain⟨t,rfl⟩:=r
  cases(show T="str" from ty)
  exact⟨YZ s z t,fun _ e=>nomatch e⟩
 |int i=>
  obtain⟨t,rfl⟩:=r
  cases(show T="int" from ty)
  exact⟨typeIs_int s i t,fun _ e=>nomatch e⟩
 | ref p=>
  cases r
  rcases ty with ⟨rfl,xs,hq⟩|⟨rfl,o,hk,hc,hd⟩|⟨rfl,hk⟩|⟨rfl,S,n,hk⟩
  ·obtain⟨its,_,pl,_⟩:=I.list hq
   refine⟨pl.isList.typeIs,fun a e=> ?_⟩
   cases e
   obtain⟨o,n,e,c,hd,_⟩:=pl
   exact⟨o,e,hd⟩
  ·refine⟨⟨o,I.kIn p o hk,hc⟩,fun a e=> ?_⟩
   cases e
   exact⟨o,I.kIn _ o hk,hd⟩
  ·have z:∃o,s.heap.get? p=some o/\o.ExactDict:=by
    rcases hk with ⟨kvs,hk⟩|⟨kvs,hk⟩
    ·obtain⟨_,_,_,_,o,_,_,e,ex,_⟩:=I.hok p _ hk
     exact⟨o,e,ex⟩
    ·obtain⟨_,_,_,_,o,_,_,e,ex,_⟩:=I.hok p _ hk
     exact⟨o,e,ex⟩
   obtain⟨o,e,ex⟩:=z
   refine⟨⟨o,e,ex.1⟩,fun a e2=> ?_⟩
   cases e2
   exact⟨o,e,ex.2.1⟩
  ·obtain⟨o,_,_,_,e,ex,_⟩:=I.hok p _ hk
   refine⟨⟨o,e,ex.1⟩,fun a e2=> ?_⟩
   cases e2
   exact⟨o,e,ex.2.1⟩
 |_=>exact False.elim ty
def xz6(K:tz0)(T:String)(r:V->List V->Hp->VK->Prop)(to:TE):TE:=fun σ H Q=>to σ H fun x H1=>tyV K T x H1/\r x [] H1 Q
def tBM(K:tz0)(T:String)(r:V->List V->Hp->VK->Prop)(to:TE)(t:TA):TE:=fun σ H Q=>to σ H fun x H1=>tyV K T x H1/\t σ H1 fun xs H2=>r x xs H2 Q
variable{o e:Expr}{es:List Expr}{to:TE}{t:TA}{name:Str}{apos cpos:Pos}{T id:String}{r:V->List V->Hp->VK->Prop}
theorem xn5(pa:PlainAttrs T)(slot:Slot T name id)(hty:typeOf (.builtin id)=pure (.type "method_descriptor"))(hm:MtR X id r)(ho:PE X o to)
  (hbase:attributeBase o name X.env (eval o X.env)=eval o X.env:=by rfl) (hline:(apos.endLine==cpos.line)=true:=by rfl):PE X (.Call (.Attribute o name apos) [] [] cpos) (xz6 X.K T r to):=⟨by
 intro pins s σ H Q I h
 refine wpAny_Call_method0_late hbase hline (thn (ho pins s σ H _ I h) fun v s1 ⟨x,H1,I1,r1,ty,q1⟩=> ?_)
 obtain⟨h1,h2⟩:=zo3 I1 r1 ty
 exact⟨T,id,pa,slot,hty,h1,h2,X0 rfl (PySem.evalArgs_none (hm pins s1 σ H1 x [] v [] Q I1 r1 .nil q1))⟩⟩
theorem xc1(pa:PlainAttrs T)(slot:Slot T name id)(hty:typeOf (.builtin id)=pure (.type "method_descriptor"))(hm:MtR X id r)(ho:PE X o to)(ha:PA X (e::es) t)
  (hbase:attributeBase o name X.env (eval o X.env)=eval o X.env:=by rfl)
  (hfew:((backTo cpos (starEach (e::es) X.env)).all (fun x=> !x.1)&&(backToKw cpos (keywordEach [] X.env)).all (fun x=>x.1.isSome)
   &&decide ((e::es).length+([]:List Keyword).length+(if ([]:List Keyword).isEmpty then 0 else 1)<30))=true:=by rfl)
  (hline:(apos.endLine==cpos.line)=true:=by rfl) (hs:StE e es X:=by rfl) (hplain:(backTo cpos (starEach es X.env)).any (·.1)=false:=by rfl):
  PE X (.Call (.Attribute o name apos) (e::es) [] cpos) (tBM X.K T r to t):=⟨by
 intro pins s σ H Q I h
 refine wpAny_Call_method_late hbase hfew hline rfl (thn (ho pins s σ H _ I h) fun v s1 ⟨x,H1,I1,r1,ty,q1⟩=> ?_)
 obtain⟨h1,h2⟩:=zo3 I1 r1 ty
 refine⟨T,id,pa,slot,hty,h1,h2,?_⟩
 have hA:=ha cpos pins s1 σ H1 _ I1 q1
 rw [hs] at hA|-
 refine X0 (by show(false||(backTo cpos (starEach es X.env)).any (·.1))=false;rw [hplain]<;>rfl) (Calls.evalArgs_plain ?_)
 exact thn hA fun us s2 ⟨vs,H2,I2,r2,q2⟩=>hm pins s2 σ H2 x vs v us Q I2 r1 r2 q2⟩
end
theorem bT.one:∀{x:V} {us:List Value},bT [x] us->∃u,us=[u]/\cL x u
 |_,_,.cons r .nil=>⟨_,rfl,r⟩
theorem bT.zero:∀{us:List Value},bT [] us->us=[]
 |_,.nil=>rfl
theorem bT.dropLast{xs:List V}{us:List Value}(h:bT xs us):bT xs.dropLast us.dropLast:=by
 induction h with
 |nil=>exact .nil
 |cons r t ih=>
  cases t with
  |nil=>exact .nil
  |cons q t'=>exact .cons r ih
theorem bT.rep{xs:List V}{us:List Value}(h:bT xs us):∀k:Nat,bT (List.replicate k xs).flatten (List.replicate k us).flatten
 |0=> .nil
 |k+1=>by
  rw [Y7,Y7,Yq,Yq]
  exact bT.append h (bT.rep h k)
theorem yd4{α:Type}(l:List α):l.eraseIdx (l.length-1)=l.dropLast:=by
 induction l with
 |nil=>rfl
 | cons a r ih=>
  cases r with
  |nil=>rfl
  | cons b r=>
   have e:(a::b::r).length-1=((b::r).length-1)+1:=by
    have h1:(a::b::r).length=r.length+2:=rfl
    have h2:(b::r).length=r.length+1:=rfl
    omega
   rw [e,List.eraseIdx_cons_succ,ih]
   all_goals rfl
section
variable{X:Cx}{pins:tzB}{σ:St}{H:Hp}{s:Shared}{l b:Addr}{xs ys zs:List V}
theorem Inv.lset{its its':List Value}{n:Nat}{f:Array Value->Array Value}{t':Nat}(I:Inv X pins σ H s)(hH:H l=some (.lst xs))
  (e:s.heap.get? l=some {cls:= .type "list",data:= .seq its.toArray n}) (hf:f its.toArray=its'.toArray) (hv:bT ys its') (hz:ys.length<=sizeLine):
  Inv X pins σ (upd H l (.lst ys)) {s with heap:=s.heap.update l (Obj.mapSeq f),toks:=t'}:=by
 have q:=PySem.IsL.update e f
 rw [hf] at q
 refine I.write (x:=l) (e:=l) (by rw [hH];exact trivial) (.inl rfl) (fun b' u hb hu=>(Heap.get?_update_other s.heap (Obj.mapSeq f) (Ya hb)).trans hu) ⟨_,q⟩ ?_
 exact⟨hz,its',_,hv,q⟩
theorem Inv.lnew{its:List Value}{t':Nat}(I:Inv X pins σ H s)(hv:bT ys its)(hz:ys.length<=sizeLine):
  Inv X pins σ (upd H s.heap.objs.size (.lst ys)) {s with heap:=s.heap.push {cls:= .type "list",data:= .seq its.toArray},toks:=t'}:=
 I.laid (fun _ _ q=>Zk _ q) (Z9 _) ⟨hz,its,0,hv,Zv _ rfl⟩
theorem Inv.fresh(I:Inv X pins σ H s):H s.heap.objs.size=none:=I.hok.fresh (Z9 _)
theorem Inv.lstM(I:Inv X pins σ H s)(hH:H l=some (.lst xs)):xs.length<=sizeLine/\∃(its:List Value) (n:Nat),bT xs its/\xs.length=its.length/\s.heap.get? l=some {cls:= .type "list",data:= .seq its.toArray n}:=by
 obtain⟨z,its,n,r,e⟩:=I.hok l _ hH
 exact⟨z,its,n,r,r.length,e⟩
end
section
variable{X:Cx}
def xl4:V->List V->Hp->VK->Prop:=fun x vs H Q=>∃l xs y,x= .ref l/\vs=[y]/\H l=some (.lst xs)/\xs.length<sizeLine/\Q .non (upd H l (.lst (xs++[y])))
theorem zf7:MtR X "list.append" xl4:=⟨by
 intro pins s σ H x vs v us Q I rx rv h
 obtain⟨l,xs,y,rfl,rfl,hH,hz,q⟩:=h
 cases rx
 obtain⟨u,rfl,ru⟩:=rv.one
 obtain⟨z,its,n,r,hl,e⟩:=I.lstM hH
 refine Xm F.slot_list_append ⟨_,e,rfl⟩ F.entry_list_append (F.args_list_append_2 _ _) (PySem.list_append l its.toArray n u (by rw [Zm];omega)) ⟨e,?_⟩
 refine⟨.non,_,I.lset (its':=its++[u]) hH e (by simp) (r.append (.cons ru .nil)) ?_,rfl,q⟩
 rw [Z3,XV]
 omega⟩
def xz7:V->List V->Hp->VK->Prop:=fun x vs H Q=>∃l xs y,x= .ref l/\vs=[]/\H l=some (.lst xs)/\xs[xs.length-1]? =some y/\Q y (upd H l (.lst xs.dropLast))
theorem xn6:MtR X "list.pop" xz7:=⟨by
 intro pins s σ H x vs v us Q I rx rv h
 obtain⟨l,xs,y,rfl,rfl,hH,hy,q⟩:=h
 cases rx
 have hus:=rv.zero
 subst hus
 obtain⟨z,its,n,r,hl,e⟩:=I.lstM hH
 obtain⟨u,hu,ru⟩:=r.get hy
 have hy':its.toArray[its.toArray.size-1]? =some u:=by
  show its.toArray[its.length-1]? =some u
  rw [<-XW,<-hl]
  exact hu
 refine Xm F.slot_list_pop ⟨_,e,rfl⟩ F.entry_list_pop (F.args_list_pop_1 _) (MeetsSeq.list_pop_last l its.toArray n u hy' (by rw [Zm];omega)) ⟨e,?_⟩
 refine⟨y,_,I.lset (its':=its.dropLast) hH e ?_ r.dropLast ?_,ru,q⟩
 ·show its.toArray.eraseIdxIfInBounds (its.toArray.size-1)=its.dropLast.toArray
  rw [Zm,List.eraseIdxIfInBounds_toArray,yd4]
 ·rw [List.length_dropLast]
  omega⟩
end
end L2
namespace Att
open PySem PySem.W PySem.Calls PyProof.Rows
theorem yV{P:Params}{h:Heap}:∀(ns:List Int) (vs:List Value),WellAll P h vs (ns.map WData.int)->IntsAre vs ns:=by
 intro ns
 induction ns with
 |nil=>
  intro vs w
  rw [X9] at w
  cases w
  exact .nil
 | cons n ns ih=>
  intro vs w
  rw [Zb] at w
  cases w with
  |cons a b=>
   cases a
   exact .cons _ _ (ih _ b)
theorem yk9{l:OpenLaw}{n:Nat}(hn:l.most=some n){P:Params}{h:Heap}{args:List WData}{vals:List Value}
  (hpre:l.row.toRowW.claim.pre args=true) (hwl:WellAll P h vals args):
  ∃a vs ns,vals=[Value.ref a]/\args=[WData.list (ns.map WData.int)]/\h.get? a=some {cls:= .type "list",data:= .seq vs.toArray}/\IntsAre vs ns/\ns.length<=n:=by
 have hsh:WShape.hasAll [] args [.list .int]=true:=(pre_splitW hpre).1
 have hc:l.pre.holds [] {args:=args}=true:=(pre_splitW hpre).2
 obtain⟨d,r,rfl,h1,h2⟩:=hasAllW_cons hsh
 obtain rfl:=hasAllW_nil h2
 obtain⟨xs,rfl,h3⟩:=hasW_list h1
 obtain⟨ns,rfl⟩:=items_int h3
 have hlen:ns.length<=n:=by
  unfold OpenLaw.pre at hc
  have h4:(WTm.not (.lt (.lit (.int (n:Int))) (.len (.arg 0)))).holds [] {args:=[.list (ns.map .int)]}=true:=by
   have h4:=(holds_andW hc).1
   rw [hn] at h4
   exact h4
  have h5:=condW_of h4 (w_not (w_lt w_lit (w_len_list (w_arg rfl))))
  rw [Zc] at h5
  refine Nat.le_of_not_lt fun q=> ?_
  have q':(n:Int)<((ns.length:Nat):Int):=by omega
  first
   |(rw [Ze q'] at h5;exact absurd h5 (by decide))
   |(simp at h5;omega)
 cases hwl with
 |cons w1 w2=>
  cases w2
  cases w1 with
  |list ho hall=>exact⟨_,_,ns,rfl,rfl,ho,yV ns _ hall,hlen⟩
theorem yl0(l:OpenLaw)(args:List WData):l.row.toRowW.claim.post args (.bool true) args=true:=
 postW_of (r:=l.row.toRowW) (X:=(true==true))
  (show WShape.has [] (.bool true) .bool=true by first|rfl|decide|simp [WShape.has,WShape.arms,WShape.armsAll])
  (show(WTm.eq .res (.lit (.bool true))).value [] {args:=args,res:=some (.bool true),after:=args}=some (.bool (true==true)) from w_eq_bool (w_res rfl) w_lit) rfl
theorem attach_call{l:OpenLaw}{n:Nat}{q:Program}{loose:List Str}{XP:(tzA)->Heap->Prop}{YP:World->Heap->Prop}{d:DefRec}
  (hn:l.most=some n) (hdf:d.params.defaults=[])
  (call:∀(w:World) (s₀ s₁:Shared) (mg mb:tzA) (fa:Addr) (o:Obj) (pm cd doc:Value) (a:Addr) (vs:List Value) (ns:List Int),
   Ground q loose [] XP w s₀ mg mb s₁.heap->YP w s₁.heap->
   s₁.heap.get? fa=some o->o.data= .func (docDef d.name d.params d.body d.scope pm cd doc)->s₁.heap.CodeRec cd d.name->mg d.name=some (.ref fa)->
   s₁.heap.get? a=some {cls:= .type "list",data:= .seq vs.toArray}->IntsAre vs ns->ns.length<=n->s₁.gens= #[]->
   codeAny (model l.prog w) callerA (.call (.ref fa) ⟨[.ref a],[]⟩) (fun r s'=>r= .ok (.ret (.bool true))/\OldK s₁.heap s'.heap/\s'.os=s₁.os/\AllBare s'.gens) s₁):
  WalkO q loose XP YP l.row.toRowW d [] (fun f vs=>PySem.call f vs):=by
 intro w s₀ s₁ mg mb G Y fa o pm cd doc dV kV ho hd hcd hD hmg hg args vals as hpre hlay hrd hwl hlo
 obtain rfl:dV= .none:=Dflts.none hD hdf
 obtain rfl:kV= .none:=Dflts.noKw hD
 obtain⟨a,vs,ns,rfl,rfl,hobj,hints,hlen⟩:=yk9 hn hpre hwl
 refine enter_call (Xw (call w s₀ s₁ mg mb fa o pm cd doc a vs ns G Y ho (fd_plain hd) hcd hmg hobj hints hlen hg) fun r s' hq=> ?_)
 obtain⟨rfl,h2,h3,h4⟩:=hq
 exact⟨.inl ⟨.bool true,.bool true,[],rfl,fun _=>rfl,.bool true,yl0 l _,fun _=>⟨List.Pairwise.nil,fun _ hm=>(nomatch hm)⟩⟩,h2,h3,h4⟩
end Att
namespace L2
open PySem PySem.Spec PyProof.Rows
theorem zf8:∀{vs:List Value} {ns:List Int},IntsAre vs ns->bT (ns.map V.int) vs
 |_,_,.nil=> .nil
 |_,_,.cons n t h=> .cons ⟨t,rfl⟩ (zf8 h)
def xa7(H:Hp):Prop:=∀b,H b=none\/∃o xs,H b=some (.frz o (.lst xs))
theorem yt6{P:Program}{w:World}{K:tz0}{mg mb:tzA}{CX:CXT}{k:Nat}{fa a:Addr}{fd:FuncData}{x:Str}{sp:Sp}{s₁:Shared}{vs:List Value}{ns:List Int}
  (KX:K.In s₁.heap) (hns:s₁.heap.Ns mainGlobals mg) (hb:s₁.heap.Ns builtinsNs mb) (hbb:∀x:Str,x≠"__name__"->mb x=bootBuiltins x) (hlim:s₁.heap.NoLimit) (hg:s₁.gens= #[])
  (ha:s₁.heap.get? a=some {cls:= .type "list",data:= .seq vs.toArray}) (hi:IntsAre vs ns) (hl:ns.length<=sizeLine) (hr:Room k callerA)
  (F:∀base:Heap,K.In base->base.Ns mainGlobals mg->FnOk P w K mg base CX k fa fd [x] sp) (hbind:∀(s:Shared) (u:Value),BindsTo s fd ⟨[u],[]⟩ [(x,u)])
  (hsp:∀H:Hp,xa7 H->SqL K H a (ns.map V.int)->sp [.ref a] H (fun v _=>v= .bl true) fun _ _ _=>False)
  (hCX:∀H e s',CX [] H s₁ (fun _ _ _=>False) e s'->False):
  codeAny (model P w) callerA (.call (.ref fa) ⟨[.ref a],[]⟩) (fun r s'=>r= .ok (.ret (.bool true))/\OldK s₁.heap s'.heap/\s'.os=s₁.os/\AllBare s'.gens) s₁:=by
 have rv:=zf8 hi
 have lenV:=hi.length
 have core:∀H:Hp,xa7 H->SqL K H a (ns.map V.int)->HOk P w H s₁.heap->(∀b,H b≠none->b=a)->(H a≠none->K.lookup a=none)->
   codeAny (model P w) callerA (.call (.ref fa) ⟨[.ref a],[]⟩) (fun r s'=>r= .ok (.ret (.bool true))/\OldK s₁.heap s'.heap/\s'.os=s₁.os/\AllBare s'.gens) s₁:=by
  intro H hO hS hok hA hK
  have base_of:∀{b:Addr} {o:Obj},s₁.heap.get? b=some o->H b=none->(uV s₁.heap H).get? b=some o:=fun e n=>ys4 e n
  have noA:∀{b:Addr} {o:Obj} {es:Array DictEntry} {ep:Nat},s₁.heap.get? b=some o->o.data= .dict es ep->H b=none:=fun {b o es ep} e d=>by
   cases q:H b with
   |none=>rfl
   |some u=>
    have e':b=a:=hA b (by rw [q];simp)
    subst e'
    rw [ha] at e;cases e
    have d':Data.seq vs.toArray _=Data.dict es ep:=d
    cases d'
  have nsK:∀{b:Addr} {m:tzA},s₁.heap.Ns b m->(uV s₁.heap H).Ns b m:=fun {b m} ⟨o,es,ep,e,d,r⟩=>⟨o,es,ep,base_of e (noA e d),d,r⟩
  have hKb:K.In (uV s₁.heap H):=fun b o e=>base_of (KX b o e) (by
   cases q:H b with
   |none=>rfl
   |some u=>
    have e':b=a:=hA b (by rw [q];simp)
    subst e'
    rw [hK (by rw [q];simp)] at e;cases e)
  have hM:Mod K mg (uV s₁.heap H):=⟨hKb,nsK hns,⟨mb,nsK hb,hbb⟩,let ⟨mc,h1,h2⟩:=hlim;⟨mc,nsK h1,h2⟩⟩
  have e0:Env0 P w K mg (uV s₁.heap H) callerA [] s₁ H:=⟨rfl,hM,fun b o e=>xd9 e,Nat.le_of_eq (yi4 _ _),trivial,fun b hb=>absurd (show b∈([]:List Addr) from hb) (by simp),hok,.of_eq hg⟩
  refine Xw ((F _ hKb (nsK hns)).run callerA [] s₁ H ⟨[.ref a],[]⟩ [.ref a] [.ref a] _ _ hr e0 (hbind s₁ (.ref a)) (.cons rfl .nil) (hsp H hO hS)) fun r s' h=> ?_
  cases r with
  |error e=>exact(hCX H e s' h).elim
  | ok fl=>
   cases fl with
   |next=>exact False.elim h
   |brk=>exact False.elim h
   |cont=>exact False.elim h
   | ret u=>
    obtain⟨v,H',os,bare,un,hok',r',q⟩:=h
    have q':v= .bl true:=q
    subst q'
    obtain rfl:u=Value.bool true:=r'
    refine⟨rfl,OldK.of_keep fun b o e=> ?_,os,bare⟩
    cases q:H b with
    |none=>exact un.keep b o e q (by intro z;exact absurd (show b∈([]:List Addr) from z) (by simp)) (by simp)
    | some u=>
     rcases hO b with z|⟨ob,xs,z⟩
     ·rw [q] at z;cases z
     ·have z2:=un.frzs b ob _ z
      obtain⟨e1,_⟩:=hok b _ z
      obtain⟨e2,_⟩:=hok' b _ z2
      rw [e] at e1;cases e1
      exact e2
 cases hk:K.lookup a with
 |some o=>
  have e:=KX a o hk
  rw [ha] at e
  cases e
  refine core (fun _=>none) (fun _=> .inl rfl) (.inr ⟨_,vs.toArray,_,hk,rfl,rfl,rfl,by rw [Zm,lenV];exact hl,by simpa using rv⟩) (fun b u z=>by have z':(none:Option HO)=some u:=z;cases z') (fun b z=>absurd rfl z) fun z=>absurd rfl z
 | none=>
  refine core (fun b=>if b=a then some (.frz {cls:= .type "list",data:= .seq vs.toArray} (.lst (ns.map V.int))) else none) (fun b=> ?_) (.inl (.inr ⟨{cls:= .type "list",data:= .seq vs.toArray},if_pos rfl⟩)) (fun b u z=> ?_) (fun b z=> ?_) fun _=>hk
  ·by_cases hb:b=a
   ·exact .inr ⟨_,_,if_pos hb⟩
   ·exact .inl (if_neg hb)
  ·by_cases hb:b=a
   ·have z':=(if_pos hb).symm.trans z
    cases z'
    subst hb
    exact⟨ha,by rw [Zc];exact hl,vs,_,rv,ha⟩
   ·have z':=(if_neg hb).symm.trans z
    cases z'
  ·by_cases hb:b=a
   ·exact hb
   ·exact absurd (if_neg hb) z
theorem xf4{l:PySem.W.OpenLaw}{n k:Nat}{q:Program}{loose:List Str}{XP:(tzA)->Heap->Prop}{YP:World->Heap->Prop}{d:DefRec}{K:Params->tz0}{CX:World->CXT}{sp:World->Sp}{x:Str}
  (hn:l.most=some n) (hn2:n<=sizeLine) (hdf:d.params.defaults=[]) (hr:Room k callerA)
  (hY:∀(w:World) (h:Heap),YP w h->(K w.params).In h)
  (F:∀(w:World) (mg:tzA) (fa:Addr) (h:Heap),(K w.params).In h->h.Ns mainGlobals mg->mg d.name=some (.ref fa)->
   ∃fd:FuncData,(∀(s:Shared) (u:Value),BindsTo s fd ⟨[u],[]⟩ [(x,u)])/\
    ∀base:Heap,(K w.params).In base->base.Ns mainGlobals mg->FnOk l.prog w (K w.params) mg base (CX w) k fa fd [x] (sp w))
  (hsp:∀(w:World) (H:Hp) (a:Addr) (ns:List Int),ns.length<=n->xa7 H->SqL (K w.params) H a (ns.map V.int)->sp w [.ref a] H (fun v _=>v= .bl true) fun _ _ _=>False)
  (hCX:∀(w:World) (H:Hp) (s:Shared) (e:Value) (s':Shared),CX w [] H s (fun _ _ _=>False) e s'->False):
  PySem.W.WalkO q loose XP YP l.row.toRowW d [] (fun f vs=>PySem.call f vs):=by
 refine Att.attach_call hn hdf fun w s₀ s₁ mg mb fa o pm cd doc a vs ns G Y ho hd hcd hmg hobj hints hlen hg=> ?_
 have KX:=hY w _ Y
 obtain⟨fd,hb,hF⟩:=F w mg fa _ KX G.T.g hmg
 exact yt6 KX G.T.g G.T.b G.T.builtins G.T.nolimit hg hobj hints (Zq hlen hn2) hr hF hb (fun H hO hS=>hsp w H a ns hlen hO hS) fun H e s'=>hCX w H s₁ e s'
def qK(s:Stmt)(j:Nat):Stmt:=match s with
 | .ClassDef _ _ _ body _ _ _ _ _ _ _=>body.getD j (.Pass ⟨0,0,0,0⟩)
 |_=> .Pass ⟨0,0,0,0⟩
def tJ(s:Stmt):Arguments:=match s with
 | .FunctionDef _ a _ _ _ _ _ _ _ _=>a
 |_=>{posonlyargs:=[],args:=[],vararg:=none,kwonlyargs:=[],kw_defaults:=[],kwarg:=none,defaults:=[]}
def mT(s:Stmt):List Stmt:=match s with
 | .FunctionDef _ _ b _ _ _ _ _ _ _=>b
 |_=>[]
def bE(s:Stmt):Scope:=match s with
 | .FunctionDef _ _ _ _ _ _ sc _ _ _=>sc
 |_=>{kind:= .function,names:=[],isGenerator:=false,isCoroutine:=false}
abbrev CX0:CXT:=fun _ _ _ _ _ _=>False
abbrev E0:XK:=fun _ _ _=>False
theorem yW{X:Cx}:oW CX0 X E0:=fun _ _ _ _ _ _ _ h=>h.elim
structure Fun(K:tz0)(x qual:Str)(st:Stmt)(f:Addr)(fd:FuncData):Prop where
 ex:∃(oc:Value) (od:Option Addr) (kV doc pm:Value) (an:Option Addr) (cdv ct:Value) (osl:Array (Option Value)),
  fd=PySem.W.fnOf x qual (tJ st) (mT st) (bE st) .none kV doc pm an cdv ct/\K.lookup f=some ⟨oc,od,.func fd,osl⟩/\PySem.W.codeIn K cdv qual=true
 kp:PySem.W.keepIn K (.ref f)=true
section
variable{P:Program}{w:World}{K:tz0}{mg:tzA}{base:Heap}
theorem Fun.ok{x qual:Str}{st:Stmt}{f:Addr}{fd:FuncData}{N ps:List Str}{k:Nat}{sp:Sp}(F:Fun K x qual st f fd)(S:FnScope N ps (bE st))(len:∀vs H Q E,sp vs H Q E->vs.length=ps.length)
  (hbody:∀(cdv:Value) (A:Around) (outer:List Env) (s:Shared) (H:Hp) (vs:List V) (Q:VK) (E:XK),Room k (A.deeper (envOfC qual (bE st) s.heap.objs.size f cdv))->sp vs H Q E->
   ∃t,PSs (wK CX0 P w K mg base N qual (bE st) f cdv A outer s H E).nox (mT st) t/\t {nx:=fun _ H'=>Q .non H',rt:=Q} (start N vs) H):FnOk P w K mg base CX0 (k+1) f fd ps sp:=by
 obtain⟨oc,od,kV,doc,pm,an,cdv,ct,osl,rfl,lk,hcd⟩:=F.ex
 refine xu7 lk hcd S len fun A outer s H vs Q E hr hsp=> ?_
 obtain⟨t,h,q⟩:=hbody cdv A outer s H vs Q E hr hsp
 exact⟨t,h.nox,q⟩
theorem Fun.binds{x qual:Str}{st:Stmt}{f:Addr}{fd:FuncData}{ps:List Str}(F:Fun K x qual st f fd)
  (h:∀(kV doc pm:Value) (an:Option Addr) (cdv ct:Value) (us:List Value),us.length=ps.length->bindArgs (PySem.W.fnOf x qual (tJ st) (mT st) (bE st) .none kV doc pm an cdv ct) ⟨us,[]⟩=pure (ps.zip us)):lO K fd ps []:=by
 obtain⟨oc,od,kV,doc,pm,an,cdv,ct,osl,rfl,lk,hcd⟩:=F.ex
 exact .all (h kV doc pm an cdv ct)
theorem yl1{x qual:Str}{st:Stmt}{f:Addr}{oc:Value}{od an:Option Addr}{osl:Array (Option Value)}{kV doc pm cdv ct:Value}(l:K.lookup f=some ⟨oc,od,.func (PySem.W.fnOf x qual (tJ st) (mT st) (bE st) .none kV doc pm an cdv ct),osl⟩)
  (c:PySem.W.codeIn K cdv qual=true) (k:PySem.W.keepIn K (.ref f)=true):Fun K x qual st f (PySem.W.fnOf x qual (tJ st) (mT st) (bE st) .none kV doc pm an cdv ct):=⟨⟨oc,od,kV,doc,pm,an,cdv,ct,osl,rfl,l,c⟩,k⟩
end
theorem rM{A:Around}{k:Nat}(hr:Room k A):A.units+1<cLine:=Ym (Nat.add_le_add_left (by decide:1<=64) _) hr.units
theorem vO{n:Nat}(h:n<=1000):n<sizeLine:=Ym h (by decide)
section
variable{X:Cx}
theorem pv(i:Nat){x:Str}{pos:Pos}(hN:X.N[i]? =some x:=by rfl)(hv:Vis X.env.scope x:=by first|exact Or.inl rfl|exact Or.inr (Or.inl rfl)|exact Or.inr (Or.inr rfl))(hd:NDb x:=by decide)
  (hcd:(x==("__classdict__":Str))=false:=by decide):PE X (.Name x pos) (xr5 i):=sP hN hv hd hcd
end
theorem xx3{c A B:Prop}[Decidable c](h1:c->A)(h2:¬c->B):if c then A else B:=by
 by_cases h:c
 ·rw [if_pos h]
  exact h1 h
 ·rw [if_neg h]
  exact h2 h
def yh3(H H':Hp):Prop:=∀b o,H b=some o->H' b=some o
theorem yh3.free{H H':Hp}(e:yh3 H H'){l:Addr}(h:H' l=Option.none):H l=Option.none:=by
 cases q:H l with
 |none=>rfl
 |some o=>
  rw [e l o q] at h
  cases h
section
variable{U:Type}[DecidableEq U]
def nY(kvs:List (U×V))(k:U):Option V:=(kvs.find? fun kv=>decide (kv.1=k)).map (·.2)
def fG(kvs:List (U×V))(k:U)(v:V):List (U×V):=
 if (kvs.any fun kv=>decide (kv.1=k))=true then kvs.map (fun kv=>if kv.1=k then(kv.1,v) else kv) else kvs++[(k,v)]
theorem qO{p:U×V}{r:List (U×V)}{k:U}(e:p.1=k):nY (p::r) k=some p.2:=by simp [nY,Yk,e]
theorem qP{p:U×V}{r:List (U×V)}{k:U}(e:¬p.1=k):nY (p::r) k=nY r k:=by simp [nY,Yk,e]
theorem tX(k:U):∀kvs:List (U×V),(kvs.any fun kv=>decide (kv.1=k))=(nY kvs k).isSome
 |[]=>rfl
 |p::r=>by
  rw [YF]
  by_cases e:p.1=k
  ·simp only [qO e,Ze e,Bool.true_or,Option.isSome_some]
  ·rw [qP e,Z5 e,Bool.false_or];exact tX k r
theorem xX(kvs:List (U×V))(k:U)(v:V):(fG kvs k v).length<=kvs.length+1:=by
 unfold fG
 split
 ·rw [Zc];omega
 ·rw [Z3,Z4,ZL];omega
theorem jR.isSome_eq{o:Option V}{u:Option Value}(r:jR o u):o.isSome=u.isSome:=by
 cases o with
 |none=>cases u with
  |none=>rfl
  |some _=>exact(show False from r).elim
 |some _=>cases u with
  |none=>exact(show False from r).elim
  |some _=>rfl
theorem KV.val{kvs:List (U×V)}{vs:List (U×Value)}(r:KV kvs vs)(k:U):jR (nY kvs k) (valueAt vs k):=by
 unfold KV at r
 induction r with
 |nil=>exact True.intro
 | @cons p q ps qs h t ih=>
  obtain⟨h1,h2⟩:=h
  by_cases e:p.1=k
  ·have e':q.1=k:=h1.symm.trans e
   have b:valueAt (q::qs) k=some q.2:=by simp [valueAt,Yk,e']
   rw [qO e,b];exact h2
  ·have e':¬q.1=k:=fun z=>e (h1.trans z)
   have b:valueAt (q::qs) k=valueAt qs k:=by simp [valueAt,Yk,e']
   rw [qP e,b];exact ih
theorem KV.any{kvs:List (U×V)}{vs:List (U×Value)}(r:KV kvs vs)(k:U):(kvs.any fun kv=>decide (kv.1=k))=vs.any fun kv=>decide (kv.1=k):=by
 unfold KV at r
 induction r with
 |nil=>rfl
 |cons h t ih=>rw [YF,YF,ih,h.1]
theorem KV.repl{kvs:List (U×V)}{vs:List (U×Value)}(r:KV kvs vs)(k:U){y:V}{u:Value}(ry:cL y u):
  KV (kvs.map fun kv=>if kv.1=k then(kv.1,y) else kv) (vs.map fun kv=>if kv.1=k then(kv.1,u) else kv):=by
 unfold KV at r|-
 induction r with
 |nil=>exact .nil
 | @cons p q ps qs h t ih=>
  rw [Zb,Zb]
  refine .cons ?_ ih
  obtain⟨h1,h2⟩:=h
  by_cases e:p.1=k
  ·rw [if_pos e,if_pos (h1.symm.trans e)];exact⟨h1,ry⟩
  ·rw [if_neg e,if_neg (fun z=>e (h1.trans z))];exact⟨h1,h2⟩
theorem KV.put{kvs:List (U×V)}{vs:List (U×Value)}(r:KV kvs vs)(k:U){y:V}{u:Value}(ry:cL y u):KV (fG kvs k y) (stored vs k u):=by
 unfold fG stored
 rw [r.any k]
 by_cases e:(vs.any fun kv=>decide (kv.1=k))=true
 ·rw [if_pos e,if_pos e];exact r.repl k ry
 ·rw [if_neg e,if_neg e];exact Paired.snoc r ⟨rfl,ry⟩
theorem KV.length{kvs:List (U×V)}{vs:List (U×Value)}(r:KV kvs vs):kvs.length=vs.length:=ZC r
end
theorem zk3{P:Program}{w:World}{k:Key}{u:Value}(r:cL (kV k) u):(fD P w).is k u=true:=by
 cases k with
 |inl i=>obtain⟨t,e⟩:=(show ∃t,u=Value.int i t from r);subst e;exact zw1 P w i t
 |inr x=>obtain⟨t,e⟩:=(show ∃t,u=Value.str x t from r);subst e;exact zw2 P w x t
theorem zf9{P:Program}{w:World}:∀{ks:List Key} {us:List Value},bT (ks.map kV) us->ItemsAre (fD P w) ks us
 |[],_,r=>by rw [X9] at r;cases r;exact .nil
 |k::ks,_,r=>by
  rw [Zb] at r
  cases r with
  |cons h t=>exact .cons (zk3 h) (zf9 t)
abbrev KT(H:Hp):List (List Key×V)->List (List Key×Addr×Value)->Prop:=Paired fun p q=>p.1=q.1/\H q.2.1=some (.tup (p.1.map kV))/\cL p.2 q.2.2
theorem KT.val{H:Hp}{kvs:List (List Key×V)}{xs:List (List Key×Addr×Value)}(r:KT H kvs xs)(k:List Key):jR (nY kvs k) ((atKey xs k).map (·.2)):=by
 induction r with
 |nil=>exact True.intro
 | @cons p q ps qs h t ih=>
  obtain⟨h1,_,h2⟩:=h
  by_cases e:p.1=k
  ·have e':q.1=k:=h1.symm.trans e
   have b:atKey (q::qs) k=some q.2:=by simp [atKey,Yk,e']
   rw [qO e,b];exact h2
  ·have e':¬q.1=k:=fun z=>e (h1.trans z)
   have b:atKey (q::qs) k=atKey qs k:=by simp [atKey,Yk,e']
   rw [qP e,b];exact ih
theorem KT.repl{H:Hp}{kvs:List (List Key×V)}{xs:List (List Key×Addr×Value)}(r:KT H kvs xs)(k:List Key){y:V}{u:Value}(ry:cL y u):
  KT H (kvs.map fun kv=>if kv.1=k then(kv.1,y) else kv) (xs.map (putAt k u)):=by
 induction r with
 |nil=>exact .nil
 | @cons p q ps qs h t ih=>
  rw [Zb,Zb]
  refine .cons ?_ ih
  obtain⟨h1,h2,h3⟩:=h
  unfold putAt
  by_cases e:p.1=k
  ·rw [if_pos e,if_pos (h1.symm.trans e)];exact⟨h1,h2,ry⟩
  ·rw [if_neg e,if_neg (fun z=>e (h1.trans z))];exact⟨h1,h2,h3⟩
theorem KT.put{H:Hp}{kvs:List (List Key×V)}{xs:List (List Key×Addr×Value)}(r:KT H kvs xs)(k:List Key){b:Addr}{y:V}{u:Value}(hb:H b=some (.tup (k.map kV)))(ry:cL y u):
  KT H (fG kvs k y) (storedH xs k b u):=by
 have e:(kvs.any fun kv=>decide (kv.1=k))=(atKey xs k).isSome:=by
  rw [tX,(r.val k).isSome_eq,Xa]
 unfold fG storedH
 rw [e]
 by_cases q:(atKey xs k).isSome=true
 ·rw [if_pos q,if_pos q];exact r.repl k ry
 ·rw [if_neg q,if_neg q];exact Paired.snoc r ⟨rfl,hb,ry⟩
theorem KT.keeps{H H':Hp}{kvs:List (List Key×V)}{xs:List (List Key×Addr×Value)}(r:KT H kvs xs)(ht:∀b ys,H b=some (.tup ys)->H' b=some (.tup ys)):KT H' kvs xs:=
 Paired.mapP r fun _ _ z=>⟨z.1,ht _ _ z.2.1,z.2.2⟩
section
variable{P:Program}{w:World}{H:Hp}{h:Heap}{a:Addr}
theorem xc2{u:HO}(ok:HOk P w H h)(e:Rd H a u):dH P w H h a u:=e.ok ok
theorem zk4{kvs:List (Key×V)}(ok:HOk P w H h)(e:Rd H a (.dK kvs)):kvs.length<=sizeLine/\(a==sysModules)=false/\∃vs,KV kvs vs/\h.DictOf (fD P w) a vs:=
 show dH P w H h a (.dK kvs) from xc2 ok e
theorem xu8{kvs:List (Key×V)}(ok:HOk P w H h)(e:H a=some (.dK kvs)):kvs.length<=sizeLine/\(a==sysModules)=false/\∃vs,KV kvs vs/\h.DictOf (fD P w) a vs:=zk4 ok (.inl e)
theorem yX{ks:List Key}(ok:HOk P w H h)(e:H a=some (.tup (ks.map kV))):(tupleKind (fD P w)).is h ks a:=by
 obtain⟨_,its,r,o,h1,h2,n,h3⟩:=(show dH P w H h a (.tup (ks.map kV)) from ok a _ e)
 exact⟨o,its.toArray,n,h1,h2,h3,by simpa using zf9 r⟩
theorem zk5{kvs:List (List Key×V)}(ok:HOk P w H h)(e:Rd H a (.dT kvs)):kvs.length<=sizeLine/\(a==sysModules)=false/\
  ∃xs,KT H kvs xs/\h.DictOfH (tupleKind (fD P w)) a xs:=by
 obtain⟨z,y,xs,r,o,es,ep,h1,h2,h3,h4,h5⟩:=(show dH P w H h a (.dT kvs) from xc2 ok e)
 refine⟨z,y,xs,r,o,es,ep,h1,h2,h3,h4,fun x hx=> ?_,h5⟩
 have all:∀{l:List (List Key×V)} {m:List (List Key×Addr×Value)},KT H l m->∀x∈m,(tupleKind (fD P w)).is h x.1 x.2.1:=by
  intro l m q
  induction q with
  |nil=>intro x hx;exact nomatch hx
  | @cons p q ps qs hq t ih=>
   intro x hx
   rcases Za.mp hx with e|hx
   ·subst e
    exact yX ok (by rw [<-hq.1];exact hq.2.1)
   ·exact ih x hx
 exact all r x hx
theorem xu9{kvs:List (List Key×V)}(ok:HOk P w H h)(e:H a=some (.dT kvs)):kvs.length<=sizeLine/\(a==sysModules)=false/\
  ∃xs,KT H kvs xs/\h.DictOfH (tupleKind (fD P w)) a xs:=zk5 ok (.inl e)
end
def ze5(H:Hp)(a:Addr)(y:V)(r:Option V):Prop:=
 (∃kvs k,Rd H a (.dK kvs)/\y=kV k/\r=nY kvs k)\/∃kvs k b,Rd H a (.dT kvs)/\y= .ref b/\H b=some (.tup (k.map kV))/\r=nY kvs k
def xs7(H:Hp)(a:Addr)(y v:V)(H':Hp):Prop:=
 (∃kvs k,H a=some (.dK kvs)/\y=kV k/\kvs.length<sizeLine/\H'=upd H a (.dK (fG kvs k v)))\/
 ∃kvs k b,H a=some (.dT kvs)/\y= .ref b/\H b=some (.tup (k.map kV))/\kvs.length<sizeLine/\H'=upd H a (.dT (fG kvs k v))
section
variable{X:Cx}{pins:tzB}{σ:St}{H:Hp}{s:Shared}{a:Addr}{y v:V}{u r:Value}{o:Option V}{A:Around}{E:Value->Shared->Prop}
theorem Inv.big(I:Inv X pins σ H s):sysModules<s.heap.objs.size:=by
 have h:mainGlobals<s.heap.objs.size:=(I.mod.glob.keeps I.bk).lt
 exact Nat.lt_trans (by decide) h
theorem yl2{Q:Value->Shared->Prop}(hu:A.units+1<cLine)(I:Inv X pins σ H s)(g:ze5 H a y (some v))(ry:cL y u)(h:∀w' s',Inv X pins σ H s'->cL v w'->Q w' s'):
  wpAny (model X.prog X.w) A (getItem (.ref a) u) Q E s:=by
 rcases g with ⟨kvs,k,e,ey,l⟩|⟨kvs,k,b,e,ey,eb,l⟩
 ·subst ey
  obtain⟨z,hd,vs,rel,dd⟩:=zk4 I.hok e
  obtain⟨w',hw,rw'⟩:=jR.some_of (v:=v) (o:=valueAt vs k) (by rw [l];exact rel.val k)
  exact wpAny_getItem_of (zk3 ry) dd.mapOf hw (h w' _ (I.tok _) rw')
 ·subst ey
  cases(show u=Value.ref b from ry)
  obtain⟨z,hd,xs,rel,dd⟩:=zk5 I.hok e
  obtain⟨w',hw,rw'⟩:=jR.some_of (v:=v) (o:=(atKey xs k).map (·.2)) (by rw [l];exact rel.val k)
  obtain⟨p,hp,hp2⟩:=Zl.mp hw
  refine wpAny_getItem_heap (Xn hu) (yX I.hok eb) dd hp ?_
  rw [hp2]
  exact h w' _ (I.tok _) rw'
theorem xf5{Q:Value->Shared->Prop}(hu:A.units+1<cLine)(I:Inv X pins σ H s)(g:ze5 H a y o)(ry:cL y u)(h:∀s',Inv X pins σ H s'->Q (.bool (!o.isSome)) s'):
  wpAny (model X.prog X.w) A (compareOp .NotIn u (.ref a)) Q E s:=by
 rcases g with ⟨kvs,k,e,ey,l⟩|⟨kvs,k,b,e,ey,eb,l⟩
 ·subst ey
  obtain⟨z,hd,vs,rel,dd⟩:=zk4 I.hok e
  refine wpAny_notIn_of (zk3 ry) hd dd.mapOf ?_
  rw [<-(rel.val k).isSome_eq,<-l]
  exact h _ (I.tok _)
 ·subst ey
  cases(show u=Value.ref b from ry)
  obtain⟨z,hd,xs,rel,dd⟩:=zk5 I.hok e
  refine wpAny_notIn_heap (Xn hu) (yX I.hok eb) hd dd ?_
  have q:=(rel.val k).isSome_eq
  rw [Xa] at q
  rw [<-q,<-l]
  exact h _ (I.tok _)
theorem zy1{h':Heap}{t':Nat}{ob:HO}(I:Inv X pins σ H s)(mu:Mut (H a))(hs:Heap.SameBut a s.heap h')(he:∃q,h'.get? a=some q)(new:dH X.prog X.w (upd H a ob) h' a ob):
  Inv X pins σ (upd H a ob) {s with heap:=h',toks:=t'}:=
 I.write (x:=a) (e:=a) mu (.inl rfl) (fun b q hb z=>(hs.2 b hb).trans z) he new
theorem xn7{P:Program}{w:World}{H':Hp}{h':Heap}{kvs:List (Key×V)}{vs:List (Key×Value)}(z:kvs.length<=sizeLine)(hd:(a==sysModules)=false)(rel:KV kvs vs)(dd:h'.DictOf (fD P w) a vs):
  dH P w H' h' a (.dK kvs):=⟨z,hd,vs,rel,dd⟩
theorem yl3{H':Hp}{Q:Unit->Shared->Prop}(hu:A.units+1<cLine)(I:Inv X pins σ H s)(g:xs7 H a y v H')(ry:cL y u)(rv:cL v r)(h:∀s',Inv X pins σ H' s'->Q () s'):
  wpAny (model X.prog X.w) A (setItem (.ref a) u r) Q E s:=by
 rcases g with ⟨kvs,k,e,ey,l,eH⟩|⟨kvs,k,b,e,ey,eb,l,eH⟩
 ·subst ey eH
  obtain⟨z,hd,vs,rel,dd⟩:=xu8 I.hok e
  have hz:vs.length<=sizeLine:=by rw [<-rel.length];exact z
  have hl:(fG kvs k v).length<=sizeLine:=by have:=xX kvs k v;omega
  refine wpAny_setItem_pairs (hsz:=hz) (zk3 ry) dd fun h' dd' hs=>h _ ?_
  have he:∃q,h'.get? a=some q:=let ⟨q,_,_,hq,_⟩:=dd';⟨q,hq⟩
  exact zy1 I (by rw [e];exact True.intro) hs he (xn7 hl hd (rel.put k rv) dd')
 ·subst ey eH
  cases(show u=Value.ref b from ry)
  obtain⟨z,hd,xs,rel,dd⟩:=xu9 I.hok e
  have hz:xs.length<=sizeLine:=by rw [<-ZC rel];exact z
  have hl:(fG kvs k v).length<=sizeLine:=by have:=xX kvs k v;omega
  refine wpAny_setItem_heap (hsz:=hz) (Xn hu) (yX I.hok eb) dd fun h' dd' hs=>h _ ?_
  obtain⟨q,es,ep,hq,h2,h3,h4,_,h5⟩:=dd'
  refine zy1 I (by rw [e];exact True.intro) hs ⟨q,hq⟩ ⟨hl,hd,_,(rel.put k eb rv).keeps fun c ys ec=> ?_,q,es,ep,hq,h2,h3,h4,h5⟩
  rw [bA (xu0 ec e (fun z=>nomatch z))]
  exact ec
end
def xa8(i:Expr):Prop:=∀ov iv,subscripted i false ov iv=operate [ov,iv] (getItem ov iv)
theorem xf6{prog:Program}{w:World}{A:Around}{E:Value->Shared->Prop}{s:Shared}{env:Env}{value slice:Expr}{pos:Pos}{T id:String}{Q:Value->Shared->Prop}
  (hl:typeLookup (.type T) "__getitem__"=pure (some (.builtin id))) (hs:xa8 slice)
  (h:wpAny (model prog w) A (eval value env) (fun o s₁=>wpAny (model prog w) A (eval slice env) (fun i s₂=>s₂.TypeIs o T/\wpAny (model prog w) A (getItem o i) Q E s₂) E s₁) E s):
  wpAny (model prog w) A (eval (.Subscript value slice pos) env) Q E s:=by
 refine Subscript_ (Y8 h (fun o s₁ h₁=>Y8 h₁ (fun i s₂ h₂=> ?_) fun _ _ x=>x) fun _ _ x=>x)
 obtain⟨hT,h₂⟩:=h₂
 unfold subscriptTail
 refine Zg ?_
 rw [getitemInPython_of_ne hT.not_modules]
 refine Zg (wpAny_specialOf hT hl ?_)
 have fin:wpAny (model prog w) A (subscripted slice false o i) (fun r s₃=>wpAny (model prog w) A (letTemporaryGo value o r>>=fun _=>pure r) Q E s₃) E s₂:=by
  rw [hs o i]
  exact wpAny_operating (Y8 h₂ (fun r s₃ h₃=>Zg (wpAny_letTemporaryGo (ZD h₃))) fun _ _ x=>x)
 first
  |exact ZD (Zg fin)
  |exact Zg (ZD (Zg fin))
  |exact Zg fin
theorem zw4{X:Cx}{pins:tzB}{σ:St}{H:Hp}{s:Shared}{a:Addr}{y:V}{o:Option V}(I:Inv X pins σ H s)(g:ze5 H a y o):s.TypeIs (.ref a) "dict":=by
 rcases g with ⟨kvs,k,e,_,_⟩|⟨kvs,k,b,e,_,_,_⟩
 ·obtain⟨_,_,vs,_,dd⟩:=zk4 I.hok e
  exact dd.typeIs
 ·obtain⟨_,_,xs,_,dd⟩:=zk5 I.hok e
  exact dd.typeIs
def xw7(td ty:TE):TE:=fun σ H Q=>td σ H fun x H1=>ty σ H1 fun y H2=>∃a v,x= .ref a/\ze5 H2 a y (some v)/\Q v H2
def xl5(ty td:TE):TE:=fun σ H Q=>ty σ H fun y H1=>td σ H1 fun x H2=>∃a o,x= .ref a/\ze5 H2 a y o/\Q (.bl (!o.isSome)) H2
def xw8(td ty tv:TE):TS:=fun D σ H=>tv σ H fun v H1=>td σ H1 fun x H2=>ty σ H2 fun y H3=>∃a H4,x= .ref a/\xs7 H3 a y v H4/\D.nx σ H4
section
variable{X:Cx}{o i e value:Expr}{pos pos' tpos:Pos}{td ty tv:TE}
theorem xf7(hu:X.A.units+1<cLine)(ho:PE X o td)(hi:PE X i ty)(hs:xa8 i):PE X (.Subscript o i pos) (xw7 td ty):=⟨by
 intro pins s σ H Q I h
 refine xf6 PySem.F.slot_dict_getitem.lookup hs (thn (ho pins s σ H _ I h) fun u s1 ⟨x,H1,I1,rx,q1⟩=>thn (hi pins s1 σ H1 _ I1 q1) fun iv s2 ⟨y,H2,I2,ry,a,v,ex,g,q2⟩=> ?_)
 subst ex
 obtain rfl:u=Value.ref a:=rx
 exact⟨zw4 I2 g,yl2 hu I2 g ry fun w' s3 I3 rw'=>⟨v,H2,I3,rw',q2⟩⟩⟩
theorem yl4(hu:X.A.units+1<cLine)(hi:PE X i ty)(ho:PE X o td):PC X .NotIn i o (xl5 ty td):=by
 intro pins s σ H Q I h
 refine thn (hi pins s σ H _ I h) fun iv s1 ⟨y,H1,I1,ry,q1⟩=>thn (ho pins s1 σ H1 _ I1 q1) fun u s2 ⟨x,H2,I2,rx,a,ov,ex,g,q2⟩=> ?_
 subst ex
 obtain rfl:u=Value.ref a:=rx
 exact xf5 hu I2 g ry fun s3 I3=>⟨.bl (!ov.isSome),H2,I3,rfl,q2⟩
theorem xf8(hu:X.A.units+1<cLine)(ho:PE X o td)(hi:PE X i ty)(hv:PE X value tv)(hs:swapsWith value (some (.Subscript o i pos')) pos.line X.env=pure false):
  PS X (.Assign [.Subscript o i pos'] value pos) (xw8 td ty tv):=⟨by
 intro pins s σ H D I h
 refine wpAny_Assign_Subscript (thn (hv pins s σ H _ I h) fun r s1 ⟨v,H1,I1,rv,q1⟩=>thn (ho pins s1 σ H1 _ I1 q1) fun u s2 ⟨x,H2,I2,rx,q2⟩=>thn (hi pins s2 σ H2 _ I2 q2) fun iv s3 ⟨y,H3,I3,ry,a,H4,ex,g,q3⟩=> ?_) hs
 subst ex
 obtain rfl:u=Value.ref a:=rx
 exact yl3 hu I3 g ry rv fun s4 I4=>⟨σ,H4,I4,q3⟩⟩
end
theorem yt7{P:Program}{w:World}{H:Hp}(h:Heap)(hb:sysModules<h.objs.size):dH P w H (h.push {cls:= .type "dict",data:= .dict #[]}) h.objs.size (.dT []):=
 ⟨ZH _,Y5.mpr (Ya (ZI hb)),[],.nil,_,#[],0,Zv _ rfl,⟨rfl,rfl,rfl⟩,rfl,rfl,Zf⟩
def xs8:TE:=fun _ H Q=>∀p,H p=none->Q (.ref p) (upd H p (.dT []))
section
variable{X:Cx}{pos:Pos}
theorem yt8:PE X (.Dict [] [] pos) xs8:=⟨fun pins s σ H Q I h=>
 wpAny_Dict_empty ⟨.ref s.heap.objs.size,_,I.laid (a:=s.heap.objs.size) (o:= .dT []) (t':=s.toks) (fun _ _ q=>Zk _ q) (Z9 _) (yt7 s.heap I.big),rfl,h _ (I.hok.fresh (Z9 _))⟩⟩
end
structure Dn(K:tz0)(mg:tzA)(x:Str)(st:Stmt)(ps:List Str)(f:Addr)(fd:FuncData):Prop where
 F:Fun K x x st f fd
 b:lO K fd ps []
 m:mg x=some (.ref f)
section
variable{X:Cx}{x:Str}{st:Stmt}{ps:List Str}{f:Addr}{fd:FuncData}{k:Nat}{sp:Sp}{p pos:Pos}{e:Expr}{es:List Expr}{t:TA}
theorem yd5(D:Dn X.K X.mg x st ps f fd)(G:FnOk X.prog X.w X.K X.mg X.base CX0 k f fd ps sp)(hr:Room k X.A)(hg:Gl X x)(ha:PA X (e::es) t)
  (hdb:NDb x:=by decide) (he:StE e es X:=by rfl) (hpl:BkE pos es X:=by rfl):
  PE X (.Call (.Name x p) (e::es) [] pos) (zl2 sp [] E0 t):=xe7 G hr hg D.m D.F.kp D.b .nil yW ha hdb he hpl
theorem xn8(D:Dn X.K X.mg x st ps f fd)(G:FnOk X.prog X.w X.K X.mg X.base CX0 k f fd ps sp)(hr:Room k X.A)(hg:Gl X x)
  (hdb:NDb x:=by decide):PE X (.Call (.Name x p) [] [] pos) (zl2 sp [] E0 xa6):=yt0 G hr hg D.m D.F.kp D.b .nil yW hdb
end
theorem yt9{H:Hp}{p:Addr}(h:H p=none)(o:HO):yh3 H (upd H p o):=fun b u q=>by rw [bA (lH q h)];exact q
theorem yY{n:Nat}(h:n<=1000):n<=sizeLine:=YM (vO h)
def tK(H:Hp):V->Option String
 | .non=>some "NoneType"
 | .bl _=>some "bool"
 | .int _=>some "int"
 | .str _=>some "str"
 | .ref a=>match H a with
  |some (.lst _)=>some "list"
  |some (.frz _ (.lst _))=>some "list"
  |some (.tup _)=>some "tuple"
  |some (.dK _)=>some "dict"
  |_=>none
 |_=>none
def xM(t c:String):Bool:=decide (t=c)||(decide (t="bool")&&decide (c="int"))
def kinds:List String:=["NoneType","bool","int","str","list","tuple","dict"]
theorem zo4(K:tz0):∀t∈kinds,∀c∈["bool","int","str","list","tuple","dict"],PySem.W.kitOne K (.type t) (.type c)=some (xM t c):=by
 intro t ht c hc
 simp only [kinds,Za,ZM,YJ] at ht hc
 rcases ht with rfl|rfl|rfl|rfl|rfl|rfl|rfl<;>rcases hc with rfl|rfl|rfl|rfl|rfl|rfl<;>rfl
theorem yl5{K:tz0}{H:Hp}{x:V}{t:String}(h:tK H x=some t):TyOf K H x (.type t)/\t∈kinds:=by
 cases x with
 |non=>cases h;exact⟨.non,by decide⟩
 |bl b=>cases h;exact⟨.bl b,by decide⟩
 |int i=>cases h;exact⟨.int i,by decide⟩
 |str x=>cases h;exact⟨.str x,by decide⟩
 | ref a=>
  have h':(match H a with
   |some (.lst _)=>some "list"
   |some (.frz _ (.lst _))=>some "list"
   |some (.tup _)=>some "tuple"
   |some (.dK _)=>some "dict"
   |_=>none)=some t:=h
  cases e:H a with
  |none=>rw [e] at h';cases h'
  | some o=>
   rw [e] at h'
   cases o with
   |lst xs=>cases h';exact⟨.lst e,by decide⟩
   |tup xs=>cases h';exact⟨.tup e,by decide⟩
   |dK kvs=>cases h';exact⟨.dK e,by decide⟩
   |frz ob u=>
    cases u with
    |lst xs=>cases h';exact⟨.frz e,by decide⟩
    |_=>cases h'
   |_=>cases h'
 |_=>cases h
section
variable{X:Cx}
theorem yu0:CallR X (.builtin "isinstance") (fun xs H Q=>∃x c t,xs=[x,.ty c]/\tK H x=some t/\c∈["bool","int","str","list","tuple","dict"]/\Q (.bl (xM t c)) H):=⟨by
 intro pins s σ H xs us Q I r h
 obtain⟨x,c,t,rfl,ht,hc,q⟩:=h
 obtain⟨u,v,rfl,rx,rc⟩:=zk1 r
 cases(show v=Value.type c from rc)
 obtain⟨ty,hk⟩:=yl5 (K:=X.K) ht
 exact yk2 I rx ty (zo4 X.K t hk c hc) fun tk=>⟨.bl (xM t c),H,I.tok tk,rfl,q⟩⟩
theorem zo5:∀{ns:List Int} {us:List Value},bT (ns.map V.int) us->IntsAre us ns
 |[],_,.nil=> .nil
 |n::ns,_,.cons r t=>by
  obtain⟨k,rfl⟩:=r
  exact .cons n k (zo5 t)
end
theorem tY{env:Env}:∀(names:List (Str×NameKind)) (cs:List (Str×Addr)),
  (∀y∈names,y.2= .free->∃c,env.cells.lookup y.1=some c)->(∀x c,cs.lookup x=some c->env.cells.lookup x=some c)->
  ∃ cl,(forIn names cs fun(y:Str×NameKind) (r:List (Str×Addr))=>
    (if (y.2== .free)=true then(do let a<-cellOf env y.1;pure (ForInStep.yield ((y.1,a)::r))) else pure (ForInStep.yield r):Sem (ForInStep (List (Str×Addr)))))=pure cl/\
   (∀x c,cl.lookup x=some c->env.cells.lookup x=some c)/\(∀x c,cs.lookup x=some c->∃c',cl.lookup x=some c')/\(∀y∈names,y.2= .free->∃c,cl.lookup y.1=some c)
 |[],cs,_,hc=>⟨cs,rfl,hc,fun x c h=>⟨c,h⟩,fun y hy=>absurd hy (ZM)⟩
 | (n,k)::r,cs,hn,hc=>by
  have hr:∀y∈r,y.2= .free->∃c,env.cells.lookup y.1=some c:=fun y hy=>hn y (Z1 _ hy)
  by_cases hk:k= .free
  ·subst hk
   obtain⟨c,e⟩:=hn (n,.free) Z0 rfl
   have hc':∀x c',((n,c)::cs).lookup x=some c'->env.cells.lookup x=some c':=fun x c' h=>by
    rw [Zy] at h
    cases hx:x==n with
    |true=>
     rw [hx] at h
     have e1:x=n:=by simpa using hx
     have e2:c=c':=ZA h
     rw [e1,<-e2];exact e
    |false=>rw [hx] at h;exact hc x c' h
   obtain⟨cl,h1,h2,h3,h4⟩:=tY (env:=env) r ((n,c)::cs) hr hc'
   refine⟨cl,?_,h2,fun x c' h=> ?_,fun y hy hf=> ?_⟩
   ·rw [List.forIn_cons]
    have e0:cellOf env n=pure c:=by unfold cellOf;rw [e]
    simp only [e0]
    exact h1
   ·cases hx:x==n with
    |true=>
     have e1:x=n:=by simpa using hx
     exact h3 x c (by rw [Zy,hx])
    |false=>exact h3 x c' (by rw [Zy,hx];exact h)
   ·rcases Za.mp hy with e1|hy
    ·rw [e1];exact h3 n c (by rw [Zy];simp)
    ·exact h4 y hy hf
  ·obtain⟨cl,h1,h2,h3,h4⟩:=tY (env:=env) r cs hr hc
   refine⟨cl,?_,h2,h3,fun y hy hf=> ?_⟩
   ·rw [List.forIn_cons]
    have e0:(k==NameKind.free)=false:=by simpa using hk
    simp only [e0]
    exact h1
   ·rcases Za.mp hy with e1|hy
    ·rw [e1] at hf;exact absurd hf hk
    ·exact h4 y hy hf
theorem yd6{env:Env}{scope:Scope}(h:∀y∈scope.names,y.2= .free->∃c,env.cells.lookup y.1=some c):
  ∃cl,closureFor scope env=pure cl/\(∀x c,cl.lookup x=some c->env.cells.lookup x=some c)/\(∀y∈scope.names,y.2= .free->∃c,cl.lookup y.1=some c):=by
 obtain⟨cl,h1,h2,_,h4⟩:=tY (env:=env) scope.names [] h (fun x c e=>by simp at e)
 refine⟨cl,?_,h2,h4⟩
 have e:((forIn scope.names [] fun(y:Str×NameKind) (r:List (Str×Addr))=>
    (if (y.2== .free)=true then(do let a<-cellOf env y.1;pure (ForInStep.yield ((y.1,a)::r))) else pure (ForInStep.yield r):Sem (ForInStep (List (Str×Addr)))))>>=fun s=>pure s)=pure cl:=by rw [h1];rfl
 exact e
structure CScope(sc:Scope)(NX N:List Str)(pick:List (Option Nat))(scope:Scope):Prop where
 kind:scope.kind= .function
 nocell:∀y∈scope.names,y.2≠ .cell
 names:∀y∈scope.names,y.2= .local->scope.names.lookup y.1=some .local
 frees:∀y∈scope.names,y.2= .free->sc.names.lookup y.1=some .cell\/sc.names.lookup y.1=some .free
 pk:∀p∈N.zip pick,∀j∈p.2,NX[j]? =some p.1/\scope.names.lookup p.1=some .free
 nd:N.Nodup
 len:pick.length=N.length
def pN(pick:List (Option Nat))(σ:St):St:=pick.map fun o=>o.bind fun j=>(σ[j]?).join
def cxB(X:Cx)(N:List Str)(scope:Scope)(cl:List (Str×Addr))(fp:List Addr)(s:Shared)(H:Hp):Cx where
 prog:=X.prog
 w:=X.w
 K:=X.K
 mg:=X.mg
 base:=X.base
 A:=X.A
 N:=N
 s₀:=s
 H₀:=H
 env:=compEnvC scope cl s.heap.objs.size X.env
 outer:=X.stack
 stack:=X.stack
 ex:=fp
 fn:=fun _=>false
 calm:=X.calm
 pn:=[]
 xe:=fun _ _=>False
def xs9(X:Cx)(ifs:List Expr)(t:TT):Prop:=
 ∀(pins:tzB) (s:Shared) (σ:St) (H:Hp) (Q:Bool->Hp->Prop),Inv X pins σ H s->t σ H Q->
  wpAny (model X.prog X.w) X.A (forIn ifs true fun c r=>if r=true then do let ok<-isTrue c X.env (eval c X.env);pure (ForInStep.yield ok) else pure (ForInStep.yield r)) (TP X pins σ Q) X.xe s
structure PTs(X:Cx)(ifs:List Expr)(t:TT):Prop where
 go:xs9 X ifs t
instance {X:Cx} {ifs:List Expr} {t:TT}:CoeFun (PTs X ifs t) fun _=>xs9 X ifs t:=⟨PTs.go⟩
def xz8:TT:=fun _ H Q=>Q true H
theorem xn9{X:Cx}:PTs X [] xz8:=⟨fun pins s σ H Q I h=>wpAny_tests_nil ⟨H,I,h⟩⟩
section
variable{prog:Program}{w:World}{A:Around}{R:Result->Shared->Prop}{s:Shared}
theorem yl6{elt target iter:Expr}{ifs:List Expr}{scope:Scope}{pos:Pos}{it acc:Value}{env:Env}(I:Nat->Shared->Prop)
  (turn:∀n s,I n s->wpAny (model prog w) A (pyNext it) (fun r s1=>match r with
   |none=>R (.ok .next) s1
   | some v=>wpAny (model prog w) A (letOwnedTupleGo target it v) (fun _ s1=>wpAny (model prog w) A (assign target env v) (fun _ s2=>
     wpAny (model prog w) A (forIn ifs true fun c r=>if r=true then do let ok<-isTrue c env (eval c env);pure (ForInStep.yield ok) else pure (ForInStep.yield r)) (fun ok s3=>
      if ok=true then wpAny (model prog w) A (eval elt env) (fun x s4=>
       wpAny (model prog w) A (call (.builtin "list.append") [acc,x]) (fun _ s5=>∃m,m<n/\I m s5) (fun _ _=>False) s4) (fun _ _=>False) s3
      else ∃m,m<n/\I m s3) (fun _ _=>False) s2) (fun _ _=>False) s1) (fun _ _=>False) s1) (fun _ _=>False) s)
  (n:Nat) (h:I n s):codeAny (model prog w) A (.compLoop (.ListComp elt [⟨target,iter,ifs,0⟩] scope pos) 0 it acc env) R s:=by
 refine codeAny_loop rfl I (fun n s hI=> ?_) n h
 show wpAny _ A ((compTurn (.ListComp elt [⟨target,iter,ifs,0⟩] scope pos) 0 it acc env).onRaise (fun x=>do noteFrame x env;theTreesLotGoes x)) _ _ s
 refine wpAny_noted ?_
 rw [compTurn_list]
 refine Zg (W0 (Zg (Y8 (turn n s hI) (fun r s1 h1=> ?_) fun _ _ z=>z.elim)))
 cases r with
 |none=>exact ZD h1
 | some v=>
  refine Zg (Y8 h1 (fun _ s1 h1=>Zg (Y8 h1 (fun _ s2 h2=>Zg (Y8 h2 (fun ok s3 h3=> ?_) fun _ _ z=>z.elim)) fun _ _ z=>z.elim)) fun _ _ z=>z.elim)
  cases ok with
  |false=>exact ZD ⟨rfl,h3⟩
  |true=>
   exact Zg (Zg (Y8 h3 (fun x s4 h4=>Zg (Y8 h4 (fun _ s5 h5=>ZD (ZD ⟨rfl,h5⟩)) fun _ _ z=>z.elim)) fun _ _ z=>z.elim))
end
def xt0(pick:List (Option Nat))(wi:TI)(g:TG)(tt:TT)(te:TE)(σ:St)(H:Hp)(Q:Addr->Hp->Prop):Prop:=wi σ H fun J H1=>∀D,H1 D=none->
 ∃ W:Nat->Nat->St->Hp->Prop,(∃m,W 0 m (pN pick σ) (upd H1 D (.lst [])))/\∀i m σ' H',W i m σ' H'->
  (J.stop i H'/\Q D H')\/(J.go i H'/\∀x H2,J.yld i H' x H2->g x σ' H2 fun σ3 H3=>tt σ3 H3 fun b H4=>
   if b=true then te σ3 H4 fun y H5=>∃ys,H5 D=some (.lst ys)/\ys.length<sizeLine/\∃m',m'<m/\W (i+1) m' σ3 (upd H5 D (.lst (ys++[y]))) else ∃m',m'<m/\W (i+1) m' σ3 H4)
def xw9(pick:List (Option Nat))(wi:TI)(g:TG)(tt:TT)(te:TE):TE:=fun σ H Q=>xt0 pick wi g tt te σ H fun D H'=>Q (.ref D) H'
section
variable{X:Cx}{sc:Scope}{NX N:List Str}{pick:List (Option Nat)}{elt tg iter:Expr}{ifs:List Expr}{scope:Scope}{pos:Pos}{wi:TI}{g:TG}{tt:TT}{te:TE}
theorem iG{env:Env}:∀{names:List (Str×NameKind)} {x:Str} {k:NameKind},(∀y∈names,y.2≠ .cell)->
  (names.map fun(n,k)=>if (k==NameKind.free&&env.scope.kind== .function&&env.kindOf n==some .cell) then(n,NameKind.cell) else(n,k)).lookup x=some k->(k= .cell\/k= .free)->(x,NameKind.free)∈names
 |[],_,_,_,h,_=>by simp at h
 | (n,k0)::r,x,k,hn,h,hk=>by
  have hr:∀y∈r,y.2≠ .cell:=fun y hy=>hn y (Z1 _ hy)
  have h':List.lookup x ((if (k0==NameKind.free&&env.scope.kind== .function&&env.kindOf n==some .cell)=true then(n,NameKind.cell) else(n,k0))::(r.map fun(n,k)=>if (k==NameKind.free&&env.scope.kind== .function&&env.kindOf n==some .cell) then(n,NameKind.cell) else(n,k)))=some k:=h
  by_cases hc:(k0==NameKind.free&&env.scope.kind== .function&&env.kindOf n==some .cell)=true
  ·rw [if_pos hc,Zy] at h'
   cases hx:x==n with
   | true=>
    have e1:x=n:=by simpa using hx
    have e2:k0= .free:=by
     simp only [ZG,Yx] at hc
     exact hc.1.1
    rw [e1,e2];exact Z0
   |false=>rw [hx] at h';exact Z1 _ (iG hr h' hk)
  ·rw [if_neg hc,Zy] at h'
   cases hx:x==n with
   | true=>
    rw [hx] at h'
    have e1:x=n:=by simpa using hx
    have e2:k0=k:=ZA h'
    have e3:k0= .free:=by
     rcases hk with z|z
     ·exact absurd (e2.trans z) (hn (n,k0) Z0)
     ·exact e2.trans z
    rw [e1,e3];exact Z0
   |false=>rw [hx] at h';exact Z1 _ (iG hr h' hk)
theorem rN{env:Env}:∀{names:List (Str×NameKind)} {x:Str},names.lookup x=some .free->
  (names.map fun(n,k)=>if (k==NameKind.free&&env.scope.kind== .function&&env.kindOf n==some .cell) then(n,NameKind.cell) else(n,k)).lookup x=some .cell\/
  (names.map fun(n,k)=>if (k==NameKind.free&&env.scope.kind== .function&&env.kindOf n==some .cell) then(n,NameKind.cell) else(n,k)).lookup x=some .free
 |[],_,h=>by simp at h
 | (n,k0)::r,x,h=>by
  have ih:= @rN env r x
  show List.lookup x ((if (k0==NameKind.free&&env.scope.kind== .function&&env.kindOf n==some .cell)=true then(n,NameKind.cell) else(n,k0))::_)=_\/List.lookup x ((if (k0==NameKind.free&&env.scope.kind== .function&&env.kindOf n==some .cell)=true then(n,NameKind.cell) else(n,k0))::_)=_
  rw [Zy] at h
  cases hx:x==n with
  |true=>
   rw [hx] at h
   have e:k0= .free:=ZA h
   subst e
   by_cases hc:(NameKind.free==NameKind.free&&env.scope.kind== .function&&env.kindOf n==some .cell)=true
   ·rw [if_pos hc];left;rw [Zy,hx]
   ·rw [if_neg hc];right;rw [Zy,hx]
  | false=>
   rw [hx] at h
   rcases ih h with z|z
   ·left
    by_cases hc:(k0==NameKind.free&&env.scope.kind== .function&&env.kindOf n==some .cell)=true
    ·rw [if_pos hc,Zy,hx];exact z
    ·rw [if_neg hc,Zy,hx];exact z
   ·right
    by_cases hc:(k0==NameKind.free&&env.scope.kind== .function&&env.kindOf n==some .cell)=true
    ·rw [if_pos hc,Zy,hx];exact z
    ·rw [if_neg hc,Zy,hx];exact z
theorem yl7{pins:tzB}{σ:St}{H:Hp}{s:Shared}{cl:List (Str×Addr)}{fp:List Addr}{h':Heap}{tk:Nat}(S:CScope sc NX N pick scope)(hsc:X.env.scope=sc)(hNX:X.N=NX)
  (I:Inv X pins σ H s) (hf:∀b∈fp,nH X pins H b) (ho:∀b∈fp,∃o,s.heap.get? b=some o)
  (c1:∀x c,cl.lookup x=some c->X.env.cells.lookup x=some c) (c2:∀y∈scope.names,y.2= .free->∃c,cl.lookup y.1=some c)
  (hns:h'.Ns s.heap.objs.size fun _=>none) (hk:∀b o,s.heap.get? b=some o->h'.get? b=some o):
  Inv (cxB X N scope cl fp s H) [] (pN pick σ) H {s with heap:=h',toks:=tk}:=by
 have lt:∀b∈fp,b<s.heap.objs.size:=fun b hb=>by obtain⟨o,e⟩:=ho b hb;exact Zo e
 refine⟨⟨I.ok.mod,S.kind,I.ok.glob,I.ok.blt,Z9 _,fun x y c h1 h2=>I.ok.inj x y c (c1 x c h1) (c1 y c h2),fun x hx=> ?_,fun x c z=>absurd z (by simp [cxB]),I.ok.hd,I.ok.frames,.inl rfl,
  fun b hb=>⟨ZI (lt b hb),fun x c e=>(hf b hb).2.2.2.2.1 x c (c1 x c e)⟩,I.bs,Zq I.ok.bsz I.sz,fun b o e hb=> ?_,fun b hb z=> ?_,I.stack,I.stkFree⟩,
  rfl,I.bare,Un.kept hk,⟨_,hns,fun i x v h1 h2 h3=> ?_⟩,fun x c e=> ?_,I.hok.fresh (Z9 _),fun x c e=>I.freeC x c (c1 x c e),fun p hp=>absurd (show p∈([]:tzB) from hp) (by simp),I.hok.kept hk,?_⟩
 ·have hx':(relabel scope X.env).names.lookup x=some .cell\/(relabel scope X.env).names.lookup x=some .free:=hx
  have hm:(x,NameKind.free)∈scope.names:=by
   rcases hx' with z|z
   ·exact iG S.nocell z (.inl rfl)
   ·exact iG S.nocell z (.inr rfl)
  exact c2 _ hm rfl
 ·rcases(hf b hb).2.2.2.1 with z|z
  ·exact I.ok.noex b o e z
  ·exact absurd (Zw (Zo e) (Zq I.ok.bsz z)) (Y4 _)
 ·rcases Za.mp (I.stkSub b z) with z|z
  ·exact(hf b hb).2.1 z
  ·exact(hf b hb).2.2.1 z
 ·
  have hN':N[i]? =some x:=h1
  have h2':(pN pick σ)[i]? =some (some v):=h2
  unfold pN at h2'
  rw [Zi] at h2'
  cases ep:pick[i]? with
  |none=>rw [ep] at h2';cases h2'
  | some o=>
   rw [ep] at h2'
   cases o with
   |none=>cases h2'
   | some j=>
    have h4:(σ[j]?).join=some v:=ZA h2'
    have h5:σ[j]? =some (some v):=by
     cases e:σ[j]? with
     |none=>rw [e] at h4;cases h4
     |some q=>rw [e] at h4;exact ZS some h4
    have hz:(x,some j)∈N.zip pick:=by
     refine ZT (i:=i) ?_
     rw [List.getElem?_zip_eq_some];exact⟨hN',ep⟩
    obtain⟨h6,h7⟩:=S.pk _ hz j rfl
    have hfr:(x,NameKind.free)∈scope.names:=Y6 h7
    have hcf:=S.frees _ hfr rfl
    have hcf':X.env.kindOf x=some .cell\/X.env.kindOf x=some .free:=by
     show X.env.scope.names.lookup x=_\/X.env.scope.names.lookup x=_
     rw [hsc];exact hcf
    obtain⟨m,hn,hl⟩:=I.loc
    obtain⟨u,ru,lk⟩:=hl j x v (by rw [hNX];exact h6) h5 (.inr hcf')
    refine⟨u,ru,.inr ⟨rN h7,?_⟩⟩
    obtain⟨c,ec⟩:=c2 _ hfr rfl
    refine⟨c,ec,?_⟩
    rcases lk with ⟨k1,_⟩|⟨_,c',ec',hcell⟩
    ·rcases hcf' with z|z
     ·rw [k1] at z;cases z
     ·rw [k1] at z;cases z
    ·have e':=c1 x c ec
     rw [ec'] at e'
     cases e'
     obtain⟨o,e1,e2⟩:=hcell
     exact⟨o,hk _ _ e1,e2⟩
 ·obtain⟨v,o,e1,e2⟩:=I.cell x c (c1 x c e)
  exact⟨v,o,hk _ _ e1,e2⟩
 ·show(pN pick σ).length=N.length
  unfold pN
  rw [Zc];exact S.len
theorem yd7{pins:tzB}{σ σ':St}{H H':Hp}{s s':Shared}{cl:List (Str×Addr)}{fp:List Addr}(I:Inv X pins σ H s)(hf:∀b∈fp,nH X pins H b)
  (J:Inv (cxB X N scope cl fp s H) [] σ' H' s'):Inv X pins σ H' s':=
 I.call' (ch:=fp) J.os J.base J.hok J.bare fun b hb=>⟨(hf b hb).2.2.2.1,(hf b hb).2.1,(hf b hb).2.2.2.2.1,(hf b hb).2.2.2.2.2⟩
theorem yd8{pins:tzB}{σ:St}{H2:Hp}{s2:Shared}{cl:List (Str×Addr)}{J:It}{fp:List Addr}{it:Addr}{tn:Nat->Heap->Prop}{RR:Value->Addr->Result->Shared->Prop}{E:Value->Shared->Prop}{Q:Addr->Hp->Prop}
  (S:CScope sc NX N pick scope) (hsc:X.env.scope=sc) (hNX:X.N=NX) (hc:X.calm=true)
  (hg:∀cl fp s H,PG (cxB X N scope cl fp s H) tg g) (ht:∀cl fp s H,PTs (cxB X N scope cl fp s H) ifs tt) (he:∀cl fp s H,PE (cxB X N scope cl fp s H) elt te)
  (I2:Inv X pins σ H2 s2) (T:Turn X.prog X.w X.K tg J fp it tn) (st2:tn 0 s2.heap) (f2:∀b∈fp,nH X pins H2 b)
  (c1:∀x c,cl.lookup x=some c->X.env.cells.lookup x=some c) (c2:∀y∈scope.names,y.2= .free->∃c,cl.lookup y.1=some c)
  (q:∀D,H2 D=none->∃W:Nat->Nat->St->Hp->Prop,(∃m,W 0 m (pN pick σ) (upd H2 D (.lst [])))/\∀i m σ' H',W i m σ' H'->
   (J.stop i H'/\Q D H')\/(J.go i H'/\∀x H2,J.yld i H' x H2->g x σ' H2 fun σ3 H3=>tt σ3 H3 fun b H4=>
    if b=true then te σ3 H4 fun y H5=>∃ys,H5 D=some (.lst ys)/\ys.length<sizeLine/\∃m',m'<m/\W (i+1) m' σ3 (upd H5 D (.lst (ys++[y]))) else ∃m',m'<m/\W (i+1) m' σ3 H4))
  (fin:∀D C H' s',Inv X pins σ H' s'->H' C=none->X.s₀.heap.objs.size<=C->C≠X.env.locals->(∀x c,X.env.cells.lookup x=some c->c≠C)->(∀p∈X.pn++pins,p.1≠C)->(∃m,s'.heap.Ns C m)->Q D H'->RR (.ref D) C (.ok .next) s'):
  wpAny (model X.prog X.w) X.A (newList []) (fun acc s3=>wpAny (model X.prog X.w) X.A (newFunctionEnv scope X.env.globals cl [] X.env.qual none .none (some X.env)) (fun cenv s4=>
   codeAny (model X.prog X.w) X.A (.compStart (.ListComp elt [⟨tg,iter,ifs,0⟩] scope pos) 0 (.ref it) acc {cenv with scope:=relabel scope X.env}) (RR acc cenv.locals) s4) E s3) E s2:=by
 have hD:H2 s2.heap.objs.size=none:=I2.hok.fresh (Z9 _)
 obtain⟨W,⟨m0,w0⟩,turn⟩:=q _ hD
 refine YO (wpAny_newFunctionEnv S.nocell (by intro y hy;simp at hy) (fun h1 hns hsb=> ?_) S.kind)
 have I3:Inv X pins σ (upd H2 s2.heap.objs.size (.lst [])) {s2 with heap:=s2.heap.push {cls:= .type "list",dict:=none,data:= .seq ([]:List Value).toArray}}:=
  I2.lnew (t':=s2.toks) (its:=[]) (ys:=[]) .nil (ZH _)
 have ne:∀b∈fp,b≠s2.heap.objs.size:=fun b hb z=>by
  obtain⟨o,e,_⟩:=T.obj _ _ st2 b hb
  exact absurd (Zo e) (by rw [z];exact Y4 _)
 have f3:∀b∈fp,nH X pins (upd H2 s2.heap.objs.size (.lst [])) b:=fun b hb=>⟨by rw [bA (ne b hb)];exact(f2 b hb).1,(f2 b hb).2⟩
 have ho3:∀b∈fp,∀o,s2.heap.get? b=some o->(s2.heap.push {cls:= .type "list",dict:=none,data:= .seq ([]:List Value).toArray}).get? b=some o:=fun b _ o e=>Zk _ e
 have st3:=T.keep _ _ _ st2 ho3
 generalize hH3:s2.heap.push {cls:= .type "list",dict:=none,data:= .seq ([]:List Value).toArray}=H3 at hns hsb I3 ho3 st3|-
 dsimp only at hns hsb|-
 have hk:∀b o,H3.get? b=some o->h1.get? b=some o:=fun b o e=>hsb.extBut b o (ZI (Zo e)) (Zk _ e)
 have B0:Inv (cxB X N scope cl fp {s2 with heap:=H3} (upd H2 s2.heap.objs.size (.lst []))) [] (pN pick σ) (upd H2 s2.heap.objs.size (.lst [])) {s2 with heap:=h1,toks:=s2.toks+([]:List (Str×Value)).length}:=
  yl7 (s:={s2 with heap:=H3}) S hsc hNX I3 f3 (fun b hb=>by obtain⟨o,e,_⟩:=T.obj _ _ st3 b hb;exact⟨o,e⟩) c1 c2 hns hk
 have st4:tn 0 h1:=T.keep _ _ _ st3 fun b _ o e=>hk b o e
 have fpY:∀{H':Hp},(∀b∈fp,H' b=none)->∀b∈fp,nH (cxB X N scope cl fp {s2 with heap:=H3} (upd H2 s2.heap.objs.size (.lst []))) [] H' b:=fun hn b hb=>
  ⟨hn b hb,(B0.ok.exf b hb).1,B0.ok.exfs b hb,.inl hb,(B0.ok.exf b hb).2,fun p hp=>absurd (show p∈([]:tzB) from hp) (by simp)⟩
 have loop:∀s4:Shared,s4={s2 with heap:=h1,toks:=s2.toks+([]:List (Str×Value)).length}->
   codeAny (model X.prog X.w) X.A (.compLoop (.ListComp elt [⟨tg,iter,ifs,0⟩] scope pos) 0 (.ref it) (.ref s2.heap.objs.size) (compEnvC scope cl H3.objs.size X.env)) (RR (.ref s2.heap.objs.size) H3.objs.size) s4:=by
  rintro s4 rfl
  refine yl6 (fun n s'=>∃i σ' H',Inv (cxB X N scope cl fp {s2 with heap:=H3} (upd H2 s2.heap.objs.size (.lst []))) [] σ' H' s'/\tn i s'.heap/\(∀b∈fp,H' b=none)/\W i n σ' H') ?_ m0
   ⟨0,_,_,B0,st4,fun b hb=>(f3 b hb).1,w0⟩
  rintro n s5 ⟨i,σ5,H5,I5,st5,fr5,w5⟩
  rcases turn i n σ5 H5 w5 with ⟨stop,qn⟩|⟨go,step⟩
  ·refine thn (T.done (cxB X N scope cl fp {s2 with heap:=H3} (upd H2 s2.heap.objs.size (.lst []))) rfl rfl rfl hc i [] s5 σ5 H5 _ I5 (fpY fr5) st5 stop) fun r s6 ⟨hr,I6⟩=> ?_
   subst hr
   obtain⟨m,hm,_⟩:=I6.loc
   have sz:X.s₀.heap.objs.size<=H3.objs.size:=I3.sz
   refine fin _ _ H5 s6 (yd7 I3 f3 I6) I6.free sz (XM I3.lt) (fun x c e z=> ?_) (fun p hp z=> ?_) ⟨m,hm⟩ qn
   ·obtain⟨v,z2⟩:=I3.cell x c e
    exact absurd z2.lt (by rw [z];exact Y4 _)
   ·exact absurd (Zo (I3.pin p hp).1) (by rw [z];exact Y4 _)
  ·refine thn (T.item (cxB X N scope cl fp {s2 with heap:=H3} (upd H2 s2.heap.objs.size (.lst []))) rfl rfl rfl hc i [] s5 σ5 H5 _ I5 (fpY fr5) st5 go) fun r s6 ⟨u,hr,h6⟩=> ?_
   subst hr
   refine thn h6 fun _ s7 ⟨x,H7,I7,r7,y7,st7,fr7⟩=> ?_
   have I7':=I7.pinned (fpY fr7) (T.obj _ _ st7)
   have back:∀{σ8:St} {H8:Hp} {s8:Shared},Inv (cxB X N scope cl fp {s2 with heap:=H3} (upd H2 s2.heap.objs.size (.lst []))) ([]++tI fp s7.heap) σ8 H8 s8->
     tn (i+1) s8.heap/\∀b∈fp,H8 b=none:=fun {σ8 H8 s8} I8=>by
    refine⟨T.keep _ _ _ st7 fun b hb o e=>(I8.pin (b,o) (Zd _ (Zd _ (pW hb e)))).1,fun b hb=> ?_⟩
    obtain⟨o,e,d⟩:=T.obj _ _ st7 b hb
    exact(I8.pin (b,o) (Zd _ (Zd _ (pW hb e)))).2.1
   refine thn (hg _ _ _ _ _ s7 σ5 H7 x u _ I7' r7 (step x H7 y7)) fun _ s8 ⟨σ8,H8,I8,q8⟩=> ?_
   refine thn (ht _ _ _ _ _ s8 σ8 H8 _ I8 q8) fun ok s9 ⟨H9,I9,q9⟩=> ?_
   cases ok with
   |false=>
    rw [if_neg (by decide)] at q9|-
    obtain⟨m',hm,w9⟩:=q9
    obtain⟨b1,b2⟩:=back I9
    exact⟨m',hm,i+1,σ8,H9,I9.unpinned,b1,b2,w9⟩
   | true=>
    rw [if_pos rfl] at q9|-
    refine thn (he _ _ _ _ _ s9 σ8 H9 _ I9 q9) fun v s10 ⟨y,H10,I10,ry,ys,hys,hlen,m',hm,w10⟩=> ?_
    have ap:=zf7 (X:=cxB X N scope cl fp {s2 with heap:=H3} (upd H2 s2.heap.objs.size (.lst []))) ([]++tI fp s7.heap) s10 σ8 H10 (.ref s2.heap.objs.size) [y] (.ref s2.heap.objs.size) [v]
     (fun z H'=>z= .non/\H'=upd H10 s2.heap.objs.size (.lst (ys++[y]))) I10 rfl (.cons ry .nil) ⟨_,ys,y,rfl,rfl,hys,hlen,rfl,rfl⟩
    refine thn ap fun z s11 ⟨z',H11,I11,_,_,e11⟩=> ?_
    subst e11
    obtain⟨b1,b2⟩:=back I11
    exact⟨m',hm,i+1,σ8,_,I11.unpinned,b1,b2,w10⟩
 exact codeAny_compStart_list (loop _ rfl) (T.self _ _ _ _ _ st4 (loop _ rfl))
theorem xf9(S:CScope sc NX N pick scope)(hsc:X.env.scope=sc)(hNX:X.N=NX)(hc:X.calm=true)(hi:PI X tg iter wi)
  (hg:∀cl fp s H,PG (cxB X N scope cl fp s H) tg g) (ht:∀cl fp s H,PTs (cxB X N scope cl fp s H) ifs tt) (he:∀cl fp s H,PE (cxB X N scope cl fp s H) elt te)
  (hs:∀x,foldedSetIterable iter X.env x=pure x:=by intro _;rfl):PE X (.ListComp elt [⟨tg,iter,ifs,0⟩] scope pos) (xw9 pick wi g tt te):=⟨by
 intro pins s σ H Q I h
 rw [eval_ListComp]
 have hfr:∀y∈scope.names,y.2= .free->∃c,X.env.cells.lookup y.1=some c:=fun y hy hf=>I.ok.has y.1 (by
  show X.env.scope.names.lookup y.1=_\/X.env.scope.names.lookup y.1=_
  rw [hsc];exact S.frees y hy hf)
 obtain⟨cl,hcl,c1,c2⟩:=yd6 hfr
 refine wpAny_comprehension_free (use:=none) rfl hs hcl S.kind S.names (thn (hi pins s σ H _ I h) fun v s1 h1=>thn h1 fun itv s2 h2=> ?_)
 obtain⟨it,fp,tn,J,H2,e,I2,T,st2,f2,q⟩:=h2
 subst e
 refine yd8 (RR:=fun acc C=>compPost (model X.prog X.w) X.A X.xe none (EP X pins σ Q) acc C) (Q:=fun D H'=>Q (.ref D) H') S hsc hNX hc hg ht he I2 T st2 f2 c1 c2 q ?_
 intro D C H' s' I' n1 n2 n3 n4 n5 ⟨m,hm⟩ q'
 exact⟨m,hm,fun h' hb=>⟨.ref D,H',I'.turned (t':=s'.toks) (it:=C) (fun b o hbc e=>(hb.2 b hbc).trans e) n1 n3 (.inr n2) n4 n5,rfl,q'⟩⟩⟩
end
section
variable{X:Cx}{tg:Expr}
theorem zg0:∀(l:List (Str×Tok)),bT ((l.map (·.1)).map V.str) (strValues l)
 |[]=> .nil
 |(x,t)::r=> .cons ⟨t,rfl⟩ (zg0 r)
theorem yu1:MtR X "str.split" (fun x xs H Q=>∃z y,x= .str z/\xs=[.str y]/\(y.length==0)=false/\z.length<1000000/\∀p,H p=none->Q (.ref p) (upd H p (.lst ((Txt.split z y).map V.str)))):=⟨by
 intro pins s σ H x xs v us Q I rx r h
 obtain⟨z,y,rfl,rfl,hy,hz,q⟩:=h
 obtain⟨t,rfl⟩:=rx
 obtain⟨u,rfl,t',rfl⟩:=wZ r
 have hs:sizeLine=16777216:=ZZ
 have hsz:z.length<=sizeLine:=by omega
 have hoc:=StrLaws.occ_length_le_len z y 0 z.length (z.length+1)
 have hpb:(Builtin.Str.partsBetween z (Builtin.Str.occurrences z y 0 z.length (z.length+1)) y.length).length<=z.length+2:=by
  unfold Builtin.Str.partsBetween
  rw [Zc,List.length_zip]
  simp only [Z4,Zc,Z3,ZL]
  omega
 have hn:H s.heap.objs.size=none:=I.fresh
 have fin:∀(l:List (Str×Tok)) (tk:Nat),l.map (·.1)=Txt.split z y->l.length<=sizeLine->EP X pins σ Q (.ref s.heap.objs.size) {s with heap:=s.heap.push {cls:= .type "list",data:= .seq (strValues l).toArray},toks:=tk}:=fun l tk e hl=>by
  refine⟨.ref s.heap.objs.size,_,I.lnew (t':=tk) (ys:=(l.map (·.1)).map V.str) (zg0 l) (by rw [Zc,Zc];exact hl),rfl,?_⟩
  rw [e];exact q _ hn
 cases h1:(decide (z.length<y.length)||decide (Builtin.Str.strKind z<Builtin.Str.strKind y))
 ·cases hf:(Builtin.Str.occurrences z y 0 z.length (z.length+1)).isEmpty
  ·refine Xm XF (YZ _ _ _) Xx (Xo _ _) (meets_str_split_sep z y t t' h1 hy hf hsz (by omega)) ?_
   show wants _ _ _ {s with toks:=_,heap:=s.heap.push {cls:= .type "list",data:= .seq (strsFrom s.toks (Builtin.Str.partsBetween z (Builtin.Str.occurrences z y 0 z.length (z.length+1)) y.length)).toArray}}
   rw [strsFrom_eq]
   refine fin (numbered s.toks _) _ ((numbered_texts _ _).trans ((if_neg (X1 h1)).trans (if_neg (X1 hf))).symm) ?_
   have e:=ZS List.length (numbered_texts s.toks (Builtin.Str.partsBetween z (Builtin.Str.occurrences z y 0 z.length (z.length+1)) y.length))
   rw [Zc] at e
   omega
  ·exact Xm XF (YZ _ _ _) Xx (Xo _ _) (meets_str_split_not_found z y t t' h1 hy hf) (fin [(z,t)] s.toks ((if_neg (X1 h1)).trans (if_pos hf)).symm (by simp;omega))
 ·exact Xm XF (YZ _ _ _) Xx (Xo _ _) (meets_str_split_cannot_occur z y t t' h1) (fin [(z,t)] s.toks (if_pos h1).symm (by simp;omega))⟩
end
section
variable{X:Cx}
theorem xo0:SlR X (fun x lo hi H Q=>∃z:Str,x= .str z/\z.length<=sizeLine/\Q (.str (Txt.slice z lo hi)) H):=by
 intro pins s σ H x v vl vu lo hi sl Q I rx hs pl pu h
 obtain⟨z,rfl,hz,q⟩:=h
 obtain⟨t,rfl⟩:=rx
 refine⟨"str",_,F.slot_str_getitem.lookup,YZ _ _ _,?_⟩
 have fin:∀t' k,EP X pins σ Q (.str (Txt.slice z lo hi) t') {s with toks:=k}:=fun t' k=>⟨.str _,H,I.tok k,⟨_,rfl⟩,q⟩
 cases pl with
 |none=>
  cases pu with
  |none=>exact Yv (l:=none) (u:=none) (st:=none) hs rfl (X4 ⟨Zq (Xy z _ _) hz,fun t' k=>fin t' k⟩)
  |int j u=>exact Yv (l:=none) (u:=some (j,u)) (st:=none) hs rfl (X4 ⟨Zq (Xy z _ _) hz,fun t' k=>fin t' k⟩)
 |int i u'=>
  cases pu with
  |none=>exact Yv (l:=some (i,u')) (u:=none) (st:=none) hs rfl (X4 ⟨Zq (Xy z _ _) hz,fun t' k=>fin t' k⟩)
  |int j u=>exact Yv (l:=some (i,u')) (u:=some (j,u)) (st:=none) hs rfl (X4 ⟨Zq (Xy z _ _) hz,fun t' k=>fin t' k⟩)
end
mutual
inductive Dp(K:tz0)(H:Hp):V->PyData->Prop
 |non:Dp K H .non .none
 |bl (b:Bool):Dp K H (.bl b) (.bool b)
 |int (i:Int):Dp K H (.int i) (.int i)
 |str (x:Str):Dp K H (.str x) (.str x)
 |lst {a:Addr} {xs:List V} {ds:List PyData}:SqL K H a xs->DpAll K H xs ds->Dp K H (.ref a) (.list ds)
 |tup {a:Addr} {xs:List V} {ds:List PyData}:SqT K H a xs->DpAll K H xs ds->Dp K H (.ref a) (.tuple ds)
inductive DpAll(K:tz0)(H:Hp):List V->List PyData->Prop
 |nil:DpAll K H [] []
 |cons {v:V} {vs:List V} {d:PyData} {ds:List PyData}:Dp K H v d->DpAll K H vs ds->DpAll K H (v::vs) (d::ds)
end
section
variable{X:Cx}{pins:tzB}{σ:St}{H:Hp}{s:Shared}
mutual
theorem Dp.reads(I:Inv X pins σ H s):∀{v:V} {d:PyData} {u:Value},Dp X.K H v d->cL v u->∃as,Reads s.heap u d as
 |_,_,u,.non,r=>by cases(show u=Value.none from r);exact⟨_,.none⟩
 |_,_,u,.bl b,r=>by cases(show u=Value.bool b from r);exact⟨_,.bool b⟩
 |_,_,u,.int i,r=>by obtain⟨t,rfl⟩:=r;exact⟨_,.int i t⟩
 |_,_,u,.str x,r=>by obtain⟨t,rfl⟩:=r;exact⟨_,.str x t⟩
 |_,_,u,.lst (a:=a) h hs,r=>by
  cases(show u=Value.ref a from r)
  obtain⟨its,rv,p,hz⟩:=I.list h
  obtain⟨as,ra⟩:=DpAll.reads I hs rv
  obtain⟨o,e,c,n,d⟩:=p.isList
  exact⟨_,.list e c d (by simpa using ra)⟩
 |_,_,u,.tup (a:=a) h hs,r=>by
  cases(show u=Value.ref a from r)
  obtain⟨its,rv,p,hz⟩:=I.tuple h
  obtain⟨as,ra⟩:=DpAll.reads I hs rv
  obtain⟨o,e,c,n,d⟩:=p
  exact⟨_,.tuple e c d (by simpa using ra)⟩
theorem DpAll.reads(I:Inv X pins σ H s):∀{vs:List V} {ds:List PyData} {us:List Value},DpAll X.K H vs ds->bT vs us->∃as,ReadsAll s.heap us ds as
 |_,_,_,.nil,.nil=>⟨_,.nil⟩
 |_,_,_,.cons h hs,.cons r rs=>by
  obtain⟨as,ra⟩:=Dp.reads I h r
  obtain⟨bs,rb⟩:=DpAll.reads I hs rs
  exact⟨_,.cons ra rb⟩
end
end
section
variable{X:Cx}
def xt1(K:tz0)(neg:Bool):R2:=fun x y H Q=>∃d e,Dp K H x d/\Dp K H y e/\d.canLay0=true/\e.canLay0=true/\d.depth<=60/\Q (.bl (if neg then !PyData.eqv d e else PyData.eqv d e)) H
theorem xo1(hu:X.A.units+64<cLine):OpR X (compareOp .Eq) (xt1 X.K false):=⟨by
 intro pins s σ H x y v u Q I rx ry h
 obtain⟨d,e,hx,hy,cx,cy,dz,q⟩:=h
 obtain⟨as,ra⟩:=hx.reads I rx
 obtain⟨bs,rb⟩:=hy.reads I ry
 exact SeqAt.compareEq_reads ra rb cx cy (by have:=Nat.min_le_left d.depth e.depth;omega) ⟨.bl _,H,I,rfl,q⟩⟩
theorem xo2(hu:X.A.units+64<cLine):OpR X (compareOp .NotEq) (xt1 X.K true):=⟨by
 intro pins s σ H x y v u Q I rx ry h
 obtain⟨d,e,hx,hy,cx,cy,dz,q⟩:=h
 obtain⟨as,ra⟩:=hx.reads I rx
 obtain⟨bs,rb⟩:=hy.reads I ry
 exact SeqAt.compareNe_reads ra rb cx cy (by have:=Nat.min_le_left d.depth e.depth;omega) ⟨.bl _,H,I,rfl,q⟩⟩
end
section
variable{prog:Program}{w:World}{A:Around}{E:Value->Shared->Prop}{s:Shared}{env:Env}
theorem zw5{l:Addr}{items:Array Value}{elts:List Expr}{k:Nat}{pos:Pos}{Q:Unit->Shared->Prop}(hh:A.handled=none)(hl:s.heap.IsList l items)(hn:(assignEach elts env).length=items.size)
  (hstar:(assignEach elts env).findIdx? (·.1)=none) (h:∀h',Heap.ExtBut s.heap.objs.size s.heap h'->wpAny (model prog w) A (assignInOrder ((assignEach elts env).map (·.2)) items.toList) Q E {s with heap:=h'}):
  wpAny (model prog w) A (assign (.Tuple elts k pos) env (.ref l)) Q E s:=by
 rw [assign_Tuple]
 refine Zg (W0 ?_)
 unfold unpack
 rw [hn,hstar]
 exact Zg (YQ (PySem.W.kun_itemsOf hh hl h))
end
section
variable{X:Cx}{pos:Pos}
def xa9(K:tz0)(n:Nat)(t:TGs):TG:=fun v σ H Q=>∃a xs,v= .ref a/\SqL K H a xs/\xs.length=n/\t xs σ H Q
theorem xo3{es:List Expr}{k:Nat}{t:TGs}{n:Nat}(hc:X.calm=true)(h:PGs X es t)
  (hn:(assignEach es X.env).length=n:=by rfl) (hst:(assignEach es X.env).findIdx? (·.1)=none:=by rfl):PG X (.Tuple es k pos) (xa9 X.K n t):=⟨by
 intro pins s σ H v u Q I r hw
 obtain⟨a,xs,e1,hq,hl,hw⟩:=hw
 subst e1
 cases r
 obtain⟨its,rv,ht,hz⟩:=I.list hq
 refine zw5 (I.ok.hd hc) ht.isList (by simp [hn,<-hl,rv.length]) hst fun h' hx=> ?_
 have I1:Inv X pins σ H {s with heap:=h'}:=I.kept (t':=s.toks) fun b o e=>hx b o (ZI (Zo e)) e
 exact h pins _ σ H xs _ Q I1 (by simpa using rv) hw⟩
end
inductive AreC:List Expr->List V->Prop
 |nil:AreC [] []
 |int {i:Int} {j:Nat} {pos:Pos} {es:List Expr} {vs:List V}:AreC es vs->AreC (.Constant (.int i) j pos::es) (.int i::vs)
 |str {x:Str} {j:Nat} {pos:Pos} {es:List Expr} {vs:List V}:AreC es vs->AreC (.Constant (.str x) j pos::es) (.str x::vs)
 |bl {b:Bool} {j:Nat} {pos:Pos} {es:List Expr} {vs:List V}:AreC es vs->AreC (.Constant (.bool b) j pos::es) (.bl b::vs)
 |non {j:Nat} {pos:Pos} {es:List Expr} {vs:List V}:AreC es vs->AreC (.Constant .none j pos::es) (.non::vs)
def zY(vs:List V):TA:=fun _ H Q=>Q vs H
theorem yl8{X:Cx}{es:List Expr}{vs:List V}(h:AreC es vs):PA X es (zY vs):=by
 induction h with
 |nil=>exact mW
 |int _ ih=>exact⟨fun pos pins s σ H Q I q=>fV (t:=zY _) hX ih rfl pos pins s σ H Q I q⟩
 |str _ ih=>exact⟨fun pos pins s σ H Q I q=>fV (t:=zY _) yi7 ih rfl pos pins s σ H Q I q⟩
 |bl _ ih=>exact⟨fun pos pins s σ H Q I q=>fV (t:=zY _) xb7 ih rfl pos pins s σ H Q I q⟩
 |non _ ih=>exact⟨fun pos pins s σ H Q I q=>fV (t:=zY _) yi6 ih rfl pos pins s σ H Q I q⟩
set_option genInjectivity true in
inductive D where
 |non|bl (b:Bool)|int (i:Int)|str (x:Str)|ty (n:String)
 |tup (xs:List D)|con (xs:List D)|lst (o:Bool) (xs:List D)|dic (o:Bool) (ks:List Key) (vs:List D)|obj (o:Bool) (C:Str) (ns:List Str) (vs:List D)
 |kt (ks:List Key)|dit (o:Bool) (ks:List (List Key)) (vs:List D)
mutual
def D.imm:D->Bool
 | .tup xs=>D.imms xs
 | .con xs=>D.imms xs
 | .lst o xs=> !o&&D.imms xs
 | .dic o _ vs=> !o&&D.imms vs
 | .obj o _ _ vs=> !o&&D.imms vs
 | .dit o _ vs=> !o&&D.imms vs
 |_=>true
def D.imms:List D->Bool
 |[]=>true
 |d::ds=>d.imm&&D.imms ds
end
def kd:HO->Bool
 | .lst _=>true
 | .tup _=>true
 | .dK _=>true
 | .dT _=>true
 | .ins _ _ _=>true
 | .frz _ _=>true
 | .xd _=>true
 |_=>false
def tf:HO->Bool
 | .tup _=>true
 | .frz _ _=>true
 |_=>false
theorem mH(h:tf o=true):kd o=true:=by cases o<;>first|rfl|cases h
def SqF(K:tz0)(H:Hp)(a:Addr)(xs:List V):Prop:=(∃o,H a=some (.frz o (.lst xs)))\/
 ∃(o:Obj) (its:Array Value) (n:Nat),K.lookup a=some o/\o.cls= .type "list"/\o.dict=none/\o.data= .seq its n/\its.size<=sizeLine/\bT xs its.toList
mutual
inductive Rep(K:tz0)(U:tz9)(H:Hp):V->D->List Addr->Prop
 |non:Rep K U H .non .non []
 |bl (b:Bool):Rep K U H (.bl b) (.bl b) []
 |int (i:Int):Rep K U H (.int i) (.int i) []
 |str (x:Str):Rep K U H (.str x) (.str x) []
 |ty (n:String):Rep K U H (.ty n) (.ty n) []
 |tup {a:Addr} {vs:List V} {ds:List D}:SqT K H a vs->Reps K U H vs ds []->Rep K U H (.ref a) (.tup ds) []
 |con {a:Addr} {vs:List V} {ds:List D}:SqF K H a vs->Reps K U H vs ds []->Rep K U H (.ref a) (.con ds) []
 |lst {a:Addr} {vs:List V} {ds:List D} {fp:List Addr}:H a=some (.lst vs)->Reps K U H vs ds fp->Rep K U H (.ref a) (.lst true ds) (a::fp)
 |lstF {a:Addr} {o:Obj} {vs:List V} {ds:List D}:H a=some (.frz o (.lst vs))->Reps K U H vs ds []->Rep K U H (.ref a) (.lst false ds) []
 |dic {a:Addr} {kvs:List (Key×V)} {ks:List Key} {ds:List D} {fp:List Addr}:H a=some (.dK kvs)->kvs.map (·.1)=ks->Reps K U H (kvs.map (·.2)) ds fp->Rep K U H (.ref a) (.dic true ks ds) (a::fp)
 |dicF {a:Addr} {o:Obj} {kvs:List (Key×V)} {ks:List Key} {ds:List D}:H a=some (.frz o (.dK kvs))->kvs.map (·.1)=ks->Reps K U H (kvs.map (·.2)) ds []->Rep K U H (.ref a) (.dic false ks ds) []
 |obj {a dx:Addr} {C:Str} {fs:List (Str×V)} {ns:List Str} {ds:List D} {fp:List Addr}:H a=some (.ins (U C) dx fs)->fs.map (·.1)=ns->Reps K U H (fs.map (·.2)) ds fp->Rep K U H (.ref a) (.obj true C ns ds) (a::fp)
 |objF {a dx:Addr} {o:Obj} {C:Str} {fs:List (Str×V)} {ns:List Str} {ds:List D}:H a=some (.frz o (.ins (U C) dx fs))->fs.map (·.1)=ns->Reps K U H (fs.map (·.2)) ds []->Rep K U H (.ref a) (.obj false C ns ds) []
 |kt {a:Addr} {ks:List Key}:H a=some (.tup (ks.map kV))->Rep K U H (.ref a) (.kt ks) []
 |dit {a:Addr} {kvs:List (List Key×V)} {ks:List (List Key)} {ds:List D} {fp:List Addr}:H a=some (.dT kvs)->kvs.map (·.1)=ks->Reps K U H (kvs.map (·.2)) ds fp->Rep K U H (.ref a) (.dit true ks ds) (a::fp)
 |ditF {a:Addr} {o:Obj} {kvs:List (List Key×V)} {ks:List (List Key)} {ds:List D}:H a=some (.frz o (.dT kvs))->kvs.map (·.1)=ks->Reps K U H (kvs.map (·.2)) ds []->Rep K U H (.ref a) (.dit false ks ds) []
inductive Reps(K:tz0)(U:tz9)(H:Hp):List V->List D->List Addr->Prop
 |nil:Reps K U H [] [] []
 |cons {v:V} {vs:List V} {d:D} {ds:List D} {f g:List Addr}:Rep K U H v d f->Reps K U H vs ds g->Reps K U H (v::vs) (d::ds) (f++g)
end
section
variable{K:tz0}{U:tz9}{H H':Hp}
theorem SqT.tf(t:∀a o,H a=some o->tf o=true->H' a=some o){a:Addr}{xs:List V}(h:SqT K H a xs):SqT K H' a xs:=by
 rcases h with (h|⟨o,h⟩)|h
 ·exact .inl (.inl (t _ _ h rfl))
 ·exact .inl (.inr ⟨o,t _ _ h rfl⟩)
 ·exact .inr h
theorem SqF.tf(t:∀a o,H a=some o->tf o=true->H' a=some o){a:Addr}{xs:List V}(h:SqF K H a xs):SqF K H' a xs:=h.elim (fun⟨o,h⟩=> .inl ⟨o,t _ _ h rfl⟩) .inr
theorem SqF.l(h:SqF K H a xs):SqL K H a xs:=h.elim (fun⟨o,h⟩=> .inl (.inr ⟨o,h⟩)) .inr
theorem fI{P:Addr->Prop}:∀a∈([]:List Addr),P a:=fun _ h=>nomatch h
theorem Reps.move(t:∀a o,H a=some o->tf o=true->H' a=some o){vs:List V}{ds:List D}{fp:List Addr}(h:Reps K U H vs ds fp):(∀a∈fp,H' a=H a)->Reps K U H' vs ds fp:=
 Reps.rec (motive_1:=fun v d fp _=>(∀a∈fp,H' a=H a)->Rep K U H' v d fp) (motive_2:=fun vs ds fp _=>(∀a∈fp,H' a=H a)->Reps K U H' vs ds fp)
  (fun _=> .non) (fun b _=> .bl b) (fun b _=> .int b) (fun b _=> .str b) (fun b _=> .ty b) (fun h _ ih _=> .tup (h.tf t) (ih fI)) (fun h _ ih _=> .con (h.tf t) (ih fI))
  (fun h _ ih k=> .lst ((k _ Z0).trans h) (ih fun a ha=>k a (Z1 _ ha))) (fun h _ ih _=> .lstF (t _ _ h rfl) (ih fI))
  (fun h e _ ih k=> .dic ((k _ Z0).trans h) e (ih fun a ha=>k a (Z1 _ ha))) (fun h e _ ih _=> .dicF (t _ _ h rfl) e (ih fI))
  (fun h e _ ih k=> .obj ((k _ Z0).trans h) e (ih fun a ha=>k a (Z1 _ ha))) (fun h e _ ih _=> .objF (t _ _ h rfl) e (ih fI))
  (fun h _=> .kt (t _ _ h rfl)) (fun h e _ ih k=> .dit ((k _ Z0).trans h) e (ih fun a ha=>k a (Z1 _ ha))) (fun h e _ ih _=> .ditF (t _ _ h rfl) e (ih fI))
  (fun _=> .nil) (fun _ _ i1 i2 k=> .cons (i1 fun a ha=>k a (Zu _ ha)) (i2 fun a ha=>k a (Zd _ ha))) h
theorem Reps.nil_fp(h:Reps K U H vs [] fp):vs=[]/\fp=[]:=by cases h;exact⟨rfl,rfl⟩
theorem Reps.one_inv(r:Reps K U H vs [d] fp):∃v,vs=[v]/\Rep K U H v d fp:=by
 cases r with
 |cons h hs=>
  obtain⟨rfl,rfl⟩:=hs.nil_fp
  exact⟨_,rfl,by rw [Zh];exact h⟩
theorem Reps.one(h:Rep K U H v d f):Reps K U H [v] [d] f:=by have:=Reps.cons h (Reps.nil (K:=K) (U:=U) (H:=H));rwa [Zh] at this
theorem Rep.move(t:∀a o,H a=some o->tf o=true->H' a=some o){v:V}{d:D}{fp:List Addr}(h:Rep K U H v d fp)(k:∀a∈fp,H' a=H a):Rep K U H' v d fp:=by
 obtain⟨u,e,r⟩:=((Reps.one h).move t k).one_inv
 cases e;exact r
theorem Reps.own{vs:List V}{ds:List D}{fp:List Addr}(h:Reps K U H vs ds fp):∀a∈fp,∃o,H a=some o/\kd o=true/\tf o=false:=
 Reps.rec (motive_1:=fun _ _ fp _=>∀a∈fp,∃o,H a=some o/\kd o=true/\tf o=false) (motive_2:=fun _ _ fp _=>∀a∈fp,∃o,H a=some o/\kd o=true/\tf o=false)
  fI (fun _=>fI) (fun _=>fI) (fun _=>fI) (fun _=>fI) (fun _ _ _=>fI) (fun _ _ _=>fI)
  (fun h _ ih a ha=>(Za.mp ha).elim (fun e=>e▸⟨_,h,rfl,rfl⟩) (ih a)) (fun _ _ _=>fI)
  (fun h _ _ ih a ha=>(Za.mp ha).elim (fun e=>e▸⟨_,h,rfl,rfl⟩) (ih a)) (fun _ _ _ _=>fI)
  (fun h _ _ ih a ha=>(Za.mp ha).elim (fun e=>e▸⟨_,h,rfl,rfl⟩) (ih a)) (fun _ _ _ _=>fI)
  (fun _=>fI) (fun h _ _ ih a ha=>(Za.mp ha).elim (fun e=>e▸⟨_,h,rfl,rfl⟩) (ih a)) (fun _ _ _ _=>fI)
  fI (fun _ _ i1 i2 a ha=>(ZE.mp ha).elim (i1 a) (i2 a)) h
theorem Rep.own(h:Rep K U H v d fp):∀a∈fp,∃o,H a=some o/\kd o=true/\tf o=false:=(Reps.one h).own
theorem Rep.imm(h:Rep K U H v d fp)(e:d.imm=true):fp=[]:=by
 cases h<;>first|rfl|exact nomatch e
theorem Reps.imm:∀{vs:List V} {ds:List D} {fp:List Addr},Reps K U H vs ds fp->D.imms ds=true->fp=[]
 |_,_,_,.nil,_=>rfl
 |_,_,_,.cons h hs,e=>by
  rw [D.imms,ZG] at e
  rw [h.imm e.1,Reps.imm hs e.2];rfl
theorem Reps.length:∀{vs:List V} {ds:List D} {fp:List Addr},Reps K U H vs ds fp->vs.length=ds.length
 |_,_,_,.nil=>rfl
 |_,_,_,.cons _ hs=>by rw [Z4,Z4,Reps.length hs]
theorem Reps.get:∀{vs:List V} {ds:List D} {fp:List Addr} {i:Nat} {d:D},Reps K U H vs ds fp->ds[i]? =some d->∃v f,vs[i]? =some v/\Rep K U H v d f/\∀a∈f,a∈fp
 |_,_,_,_,_,.nil,e=>by simp at e
 |_,_,_,0,_,.cons h _,e=>by simp at e;subst e;exact⟨_,_,rfl,h,fun a ha=>Zu _ ha⟩
 |_,_,_,i+1,_,.cons _ hs,e=>by
  obtain⟨v,f,h1,h2,h3⟩:=Reps.get (i:=i) hs (by simpa using e)
  exact⟨v,f,by simpa using h1,h2,fun a ha=>Zd _ (h3 a ha)⟩
theorem Reps.append:∀{vs:List V} {ds:List D} {f:List Addr} {us:List V} {es:List D} {g:List Addr},Reps K U H vs ds f->Reps K U H us es g->Reps K U H (vs++us) (ds++es) (f++g)
 |_,_,_,_,_,_,.nil,r=>r
 |_,_,_,_,_,_,.cons h hs,r=>by rw [Zj];exact .cons h (Reps.append hs r)
theorem Reps.split:∀{vs:List V} {d:D} {ds:List D} {fp:List Addr},Reps K U H vs (d::ds) fp->∃v us f g,vs=v::us/\Rep K U H v d f/\Reps K U H us ds g/\fp=f++g
 |_,_,_,_,.cons h hs=>⟨_,_,_,_,rfl,h,hs,rfl⟩
theorem Reps.nilp:∀{vs:List V} {ds:List D},Reps K U H vs ds []->Paired (fun v d=>Rep K U H v d []) vs ds:=by
 intro vs ds h
 generalize e:([]:List Addr)=fp at h
 induction h using Reps.rec (motive_1:=fun _ _ _ _=>True) with
 |nil=>exact .nil
 |cons h hs _ ih=>
  obtain⟨e1,e2⟩:=XQ.mp e.symm
  subst e1;subst e2
  exact .cons h (ih rfl)
 |_=>trivial
theorem Reps.ofp:∀{vs:List V} {ds:List D},Paired (fun v d=>Rep K U H v d []) vs ds->Reps K U H vs ds []
 |_,_,.nil=> .nil
 |_,_,.cons h hs=> .cons (f:=[]) (g:=[]) h (Reps.ofp hs)
end
theorem Paired.takeN:∀{l₁:List α} {l₂:List β} (n:Nat),Paired R l₁ l₂->Paired R (l₁.take n) (l₂.take n)
 |_,_,0,_=> .nil
 |_,_,_+1,.nil=> .nil
 |_,_,n+1,.cons h t=> .cons h (Paired.takeN n t)
theorem Paired.dropN:∀{l₁:List α} {l₂:List β} (n:Nat),Paired R l₁ l₂->Paired R (l₁.drop n) (l₂.drop n)
 |_,_,0,r=>r
 |_,_,_+1,.nil=> .nil
 |_,_,n+1,.cons _ t=>Paired.dropN n t
theorem Paired.app:∀{l₁:List α} {l₂:List β} {m₁:List α} {m₂:List β},Paired R l₁ l₂->Paired R m₁ m₂->Paired R (l₁++m₁) (l₂++m₂)
 |_,_,_,_,.nil,r=>r
 |_,_,_,_,.cons h t,r=> .cons h (Paired.app t r)
theorem Paired.repl(r:Paired R l₁ l₂):∀k:Nat,Paired R (List.replicate k l₁).flatten (List.replicate k l₂).flatten
 |0=> .nil
 |k+1=>by rw [Y7,Y7,Yq,Yq];exact Paired.app r (Paired.repl r k)
structure SameK(H H':Hp):Prop where
 keep:∀a o,H a=some o->kd o=true->H' a=some o
 grow:∀a,H' a=none->H a=none
theorem SameK.refl(H:Hp):SameK H H:=⟨fun _ _ h _=>h,fun _ h=>h⟩
theorem SameK.trans(a:SameK H H1)(b:SameK H1 H2):SameK H H2:=⟨fun c o h k=>b.keep c o (a.keep c o h k) k,fun c h=>a.grow c (b.grow c h)⟩
theorem SameK.of(h:yh3 H H'):SameK H H':=⟨fun a o e _=>h a o e,fun a e=>h.free e⟩
theorem SameK.new(h:H p=none)(o:HO):SameK H (upd H p o):= .of (yt9 h o)
section
variable{K:tz0}{U:tz9}{H H':Hp}
theorem Rep.same(e:SameK H H'){v:V}{d:D}{fp:List Addr}(r:Rep K U H v d fp):Rep K U H' v d fp:=
 r.move (fun a o h t=>e.keep a o h (mH t)) fun a ha=>by obtain⟨o,h,k,_⟩:=r.own a ha;rw [h];exact e.keep a o h k
theorem Reps.same(e:SameK H H'){v:List V}{d:List D}{fp:List Addr}(r:Reps K U H v d fp):Reps K U H' v d fp:=
 r.move (fun a o h t=>e.keep a o h (mH t)) fun a ha=>by obtain⟨o,h,k,_⟩:=r.own a ha;rw [h];exact e.keep a o h k
end
theorem PE.imp(h:PE X e t)(k:∀σ H Q,t' σ H Q->t σ H Q):PE X e t':=⟨fun pins s σ H Q I q=>h pins s σ H Q I (k σ H Q q)⟩
theorem PT.imp(h:PT X e t)(k:∀σ H Q,t' σ H Q->t σ H Q):PT X e t':=⟨fun pins s σ H Q I q=>h pins s σ H Q I (k σ H Q q)⟩
theorem PW.imp(h:PW X e t)(k:∀σ H Q,t' σ H Q->t σ H Q):PW X e t':=⟨fun wh pins s σ H Q I q=>h wh pins s σ H Q I (k σ H Q q)⟩
theorem PA.imp(h:PA X e t)(k:∀σ H Q,t' σ H Q->t σ H Q):PA X e t':=⟨fun pos pins s σ H Q I q=>h pos pins s σ H Q I (k σ H Q q)⟩
theorem PS.imp{X:Cx}{st:Stmt}{t t':TS}(h:PS X st t)(k:∀D σ H,t' D σ H->t D σ H):PS X st t':=⟨fun pins s σ H D I q=>h pins s σ H D I (k D σ H q)⟩
theorem PSs.imp{X:Cx}{st:List Stmt}{t t':TS}(h:PSs X st t)(k:∀D σ H,t' D σ H->t D σ H):PSs X st t':=⟨fun pins s σ H D I q=>h pins s σ H D I (k D σ H q)⟩
abbrev PSt:=List (Option D)
abbrev _root_.tz7:=List D->Option (D×List D)
abbrev _root_.tz8:=PSt->Option (D×PSt)
abbrev _root_.tz3:=PSt->Option (List D)
abbrev _root_.tz4:=PSt->Option Bool
abbrev _root_.tz6:=List D->Option D
abbrev _root_.tz2:=PSt->Option D
abbrev _root_.tz5:=PSt->Bool
def WS(K:tz0)(U:tz9)(H:Hp)(σ:St)(ps:PSt):Prop:=∀(i:Nat) (d:D),ps[i]? =some (some d)->∃v fp,σ[i]? =some (some v)/\Rep K U H v d fp
theorem WS.same{K:tz0}{U:tz9}{H H':Hp}{σ:St}{ps:PSt}(w:WS K U H σ ps)(e:SameK H H'):WS K U H' σ ps:=fun i d h=>by
 obtain⟨v,fp,h1,h2⟩:=w i d h
 exact⟨v,fp,h1,h2.same e⟩
def kF(K:tz0)(U:tz9)(H:Hp)(d:D)(Q:VK):Prop:=∀v H' fv,SameK H H'->(∀a∈fv,H a=none)->fv.Nodup->Rep K U H' v d fv->Q v H'
def xt2(K:tz0)(U:tz9)(H:Hp)(d:D)(Q:VK):Prop:=∀v H' fp,SameK H H'->Rep K U H' v d fp->Q v H'
def tV(K:tz0)(U:tz9)(f:tz2):TE:=fun σ H Q=>∃ps d,WS K U H σ ps/\f ps=some d/\xt2 K U H d Q
def tP(K:tz0)(U:tz9)(f:tz2):TE:=fun σ H Q=>∃ps d,WS K U H σ ps/\f ps=some d/\kF K U H d Q
def tQ(K:tz0)(U:tz9)(f:tz4):TT:=fun σ H Q=>∃ps b,WS K U H σ ps/\f ps=some b/\∀H',SameK H H'->Q b H'
def tVA(K:tz0)(U:tz9)(f:tz3):TA:=fun σ H Q=>∃ps ds,WS K U H σ ps/\f ps=some ds/\∀vs H' fp,SameK H H'->Reps K U H' vs ds fp->Q vs H'
def tPA(K:tz0)(U:tz9)(f:tz3):TA:=fun σ H Q=>∃ps ds,WS K U H σ ps/\f ps=some ds/\∀vs H' fv,SameK H H'->(∀a∈fv,H a=none)->fv.Nodup->Reps K U H' vs ds fv->Q vs H'
abbrev QV(X:Cx)(U:tz9)(e:Expr)(f:tz2):Prop:=PE X e (tV X.K U f)
abbrev QP(X:Cx)(U:tz9)(e:Expr)(f:tz2):Prop:=PE X e (tP X.K U f)
abbrev QT(X:Cx)(U:tz9)(e:Expr)(f:tz4):Prop:=PT X e (tQ X.K U f)
abbrev QW(X:Cx)(U:tz9)(e:Expr)(f:tz4):Prop:=PW X e (tQ X.K U f)
abbrev QVA(X:Cx)(U:tz9)(es:List Expr)(f:tz3):Prop:=PA X es (tVA X.K U f)
abbrev QPA(X:Cx)(U:tz9)(es:List Expr)(f:tz3):Prop:=PA X es (tPA X.K U f)
theorem kF.see{K:tz0}{U:tz9}{H:Hp}{d:D}{Q:VK}(h:xt2 K U H d Q):kF K U H d Q:=fun v H' fv s _ _ r=>h v H' fv s r
theorem kF.after{K:tz0}{U:tz9}{H H1:Hp}{d:D}{Q:VK}(h:kF K U H d Q)(s:SameK H H1):kF K U H1 d Q:=
 fun v H' fv s' n nd r=>h v H' fv (s.trans s') (fun a ha=>s.grow a (n a ha)) nd r
theorem kF.now{K:tz0}{U:tz9}{H:Hp}{d:D}{Q:VK}{v:V}(h:kF K U H d Q)(r:Rep K U H v d []):Q v H:=h v H [] (.refl H) (fun _ h=>absurd h (by simp)) Zf r
theorem kF.at{K:tz0}{U:tz9}{H:Hp}{d:D}{Q:VK}{p:Addr}{o:HO}{fv:List Addr}(h:kF K U H d Q)(hp:H p=none)(hn:∀a∈fv,H a=none)(nd:fv.Nodup)(r:Rep K U (upd H p o) (.ref p) d fv):Q (.ref p) (upd H p o):=
 h _ _ fv (.new hp o) hn nd r
section
variable{X:Cx}{U:tz9}{e a b:Expr}{f fa fb:tz2}
theorem QP.v(h:QP X U e f):QV X U e f:=h.imp fun _ _ _ ⟨ps,d,w,e,q⟩=>⟨ps,d,w,e,.see q⟩
def aZ(f:tz2):tz2:=fun ps=>(f ps).bind fun d=>if d.imm=true then some d else none
theorem QV.p(h:QV X U e f):QP X U e (aZ f):=h.imp fun σ H Q hh_=>by
 obtain⟨ps,d,w,e,q⟩:=hh_
 unfold aZ at e
 cases e1:f ps with
 |none=>rw [e1] at e;cases e
 | some d1=>
  rw [e1] at e
  by_cases hi:d1.imm=true
  ·have e2:d1=d:=by simpa [hi] using e
   subst e2
   refine⟨ps,d1,w,e1,fun v H' fp s r=> ?_⟩
   have:=r.imm hi;subst this
   exact q v H' [] s (fun _ h=>absurd h (by simp)) Zf r
  ·simp [hi] at e
def aB(i:Nat):tz2:=fun ps=>(ps[i]?).join
theorem aC(i:Nat){x:Str}{pos:Pos}(hN:X.N[i]? =some x:=by rfl)(hv:Vis X.env.scope x:=by first|exact Or.inl rfl|exact Or.inr (Or.inl rfl)|exact Or.inr (Or.inr rfl))(hd:NDb x:=by decide)
  (hcd:(x==("__classdict__":Str))=false:=by decide):QV X U (.Name x pos) (aB i):=(sP hN hv hd hcd).imp fun σ H Q hh_=>by
 obtain⟨ps,d,w,e,q⟩:=hh_
 have e':ps[i]? =some (some d):=by
  unfold aB at e
  cases q:ps[i]? with
  |none=>rw [q] at e;cases e
  |some o=>rw [q] at e;exact ZS some e
 obtain⟨v,fp,h1,h2⟩:=w i d e'
 exact⟨v,h1,q v H fp (.refl H) h2⟩
def fC(d:D):tz2:=fun _=>some d
theorem aF{i j pos}:QP X U (.Constant (.int i) j pos) (fC (.int i)):=hX.imp fun σ H Q ⟨ps,d,w,e,q⟩=>by cases e;exact q _ H [] (.refl H) (fun _ h=>absurd h (by simp)) Zf (.int i)
theorem bH{x j pos}:QP X U (.Constant (.str x) j pos) (fC (.str x)):=yi7.imp fun σ H Q ⟨ps,d,w,e,q⟩=>by cases e;exact q _ H [] (.refl H) (fun _ h=>absurd h (by simp)) Zf (.str x)
theorem iX{b j pos}:QP X U (.Constant (.bool b) j pos) (fC (.bl b)):=xb7.imp fun σ H Q ⟨ps,d,w,e,q⟩=>by cases e;exact q _ H [] (.refl H) (fun _ h=>absurd h (by simp)) Zf (.bl b)
theorem iN{j pos}:QP X U (.Constant .none j pos) (fC .non):=yi6.imp fun σ H Q ⟨ps,d,w,e,q⟩=>by cases e;exact q _ H [] (.refl H) (fun _ h=>absurd h (by simp)) Zf .non
theorem xg0(hg:Gl X x)(hm:X.mg x=some u)(r:cL v u)(hd:∀H,Rep X.K U H v d [])(hdb:NDb x:=by decide):QP X U (.Name x pos) (fC d):=
 (xe0 hg hm r hdb).imp fun σ H Q ⟨ps,d,w,e,q⟩=>by cases e;exact q _ H [] (.refl H) (fun _ h=>absurd h (by simp)) Zf (hd H)
theorem yd9(hg:Gl X x)(hm:X.mg x=none)(hv:bootBuiltins x=some (.type n))(hn:x≠"__name__":=by decide)(hd:NDb x:=by decide):QP X U (.Name x pos) (fC (.ty n)):=
 (xe1 (v:= .ty n) hg hm hv rfl hn hd).imp fun σ H Q ⟨ps,d,w,e,q⟩=>by cases e;exact q _ H [] (.refl H) (fun _ h=>absurd h (by simp)) Zf (.ty n)
def f2(g:D->D->Option D)(fa fb:tz2):tz2:=fun ps=>(fa ps).bind fun x=>(fb ps).bind fun y=>g x y
def POp(K:tz0)(U:tz9)(g:D->D->Option D):R2:=fun x y H Q=>∃dx dy d fx fy,Rep K U H x dx fx/\Rep K U H y dy fy/\g dx dy=some d/\kF K U H d Q
theorem sS(h:f2 g fa fb ps=some d):∃x y,fa ps=some x/\fb ps=some y/\g x y=some d:=by
 unfold f2 at h
 cases e1:fa ps with
 |none=>rw [e1] at h;cases h
 |some x=>
  rw [e1] at h
  cases e2:fb ps with
  |none=>rw [e2] at h;cases h
  |some y=>rw [e2] at h;exact⟨x,y,rfl,rfl,h⟩
theorem zo6(hr:∀x y H Q,POp X.K U g x y H Q->r x y H Q)(h:tP X.K U (f2 g fa fb) σ H Q):tOp r (tV X.K U fa) (tV X.K U fb) σ H Q:=by
 obtain⟨ps,d,w,e,q⟩:=h
 obtain⟨x,y,e1,e2,e3⟩:=sS e
 exact⟨ps,x,w,e1,fun v H1 fp s1 r1=>⟨ps,y,w.same s1,e2,fun u H2 fq s2 r2=>hr _ _ _ _ ⟨x,y,d,fp,fq,r1.same s2,r2,e3,q.after (s1.trans s2)⟩⟩⟩
theorem bB(ho:OpR X (binaryOp op) (POp X.K U g))(ha:QV X U a fa)(hb:QV X U b fb):QP X U (.BinOp a op b pos) (f2 g fa fb):=
 (fZ ho ha hb).imp fun _ _ _ h=>zo6 (fun _ _ _ _ h=>h) h
theorem lX(ho:OpR X (compareOp op) (POp X.K U g))(ha:QV X U a fa)(hb:QV X U b fb)(hm:behindInMarks op b=false):QP X U (.Compare a [op] [b] pos) (f2 g fa fb):=
 (xe5 ho ha hb hm).imp fun _ _ _ h=>zo6 (fun _ _ _ _ h=>h) h
def dB:D->Option Bool
 | .bl b=>some b
 |_=>none
def fB(f:tz2):tz4:=fun ps=>(f ps).bind dB
theorem zb9{f:tz2}{ps:PSt}{b:Bool}(h:fB f ps=some b):f ps=some (.bl b):=by
 unfold fB at h
 cases e:f ps with
 |none=>rw [e] at h;cases h
 |some d=>rw [e] at h;cases d<;>first|(cases h;rfl)|cases h
theorem Rep.is_bl{K:tz0}{H:Hp}{v:V}{b:Bool}{fp:List Addr}(r:Rep K U H v (.bl b) fp):v= .bl b:=by cases r;rfl
theorem Rep.is_int{K:tz0}{H:Hp}{v:V}{b:Int}{fp:List Addr}(r:Rep K U H v (.int b) fp):v= .int b:=by cases r;rfl
theorem Rep.is_str{K:tz0}{H:Hp}{v:V}{b:Str}{fp:List Addr}(r:Rep K U H v (.str b) fp):v= .str b:=by cases r;rfl
theorem bK(ho:OpR X (compareOp op) (POp X.K U g))(ha:QV X U a fa)(hb:QV X U b fb)(hm:behindInMarks op b=false):QT X U (.Compare a [op] [b] pos) (fB (f2 g fa fb)):=
 (zx8 ho ha hb hm).imp fun σ H Q ⟨ps,c,w,e,q⟩=>zo6 (Q:=fun x H'=>∃k,x= .bl k/\Q k H') (fun _ _ _ _ h=>h) ⟨ps,_,w,zb9 e,fun v H' fv s _ _ r=>⟨c,r.is_bl,q H' s⟩⟩
def f3(g g':D->D->Option D)(fa fb fc:tz2):tz2:=fun ps=>(fa ps).bind fun x=>(fb ps).bind fun y=>(g x y).bind fun k=>match k with
 | .bl true=>(fc ps).bind fun z=>g' y z
 | .bl false=>some (.bl false)
 |_=>none
def ze6:D->Option Bool
 | .non=>some false
 | .bl b=>some b
 | .int i=>some (i !=0)
 | .str y=>if y.length<=sizeLine then some ((y.length:Int) !=0) else none
 | .lst _ xs=>some (!xs.isEmpty)
 | .tup xs=>some (!xs.isEmpty)
 | .con xs=>some (!xs.isEmpty)
 |_=>none
theorem mX{K:tz0}{H:Hp}{vs:List V}{ds:List D}{fp:List Addr}(r:Reps K U H vs ds fp):ds.isEmpty=vs.isEmpty:=by cases r<;>rfl
theorem zy2{K:tz0}{H:Hp}{v:V}{d:D}{fp:List Addr}{b:Bool}(r:Rep K U H v d fp)(h:ze6 d=some b):xa5 K v H b:=by
 cases r with
 |non=>cases h;rfl
 |bl b=>cases h;rfl
 |int i=>cases h;rfl
 |str x=>
  rw [ze6] at h
  split at h
  ·cases h;exact⟨by assumption,rfl⟩
  ·cases h
 |tup s rs=>cases h;exact .inr (.inl ⟨_,s,by rw [mX rs]⟩)
 |con s rs=>cases h;exact .inl ⟨_,s.l,by rw [mX rs]⟩
 |lst s rs=>cases h;exact .inl ⟨_,.inl (.inl s),by rw [mX rs]⟩
 |lstF s rs=>cases h;exact .inl ⟨_,.inl (.inr ⟨_,s⟩),by rw [mX rs]⟩
 |_=>cases h
def fT(f:tz2):tz4:=fun ps=>(f ps).bind ze6
theorem xg1{f:tz2}{ps:PSt}{b:Bool}(h:fT f ps=some b):∃d,f ps=some d/\ze6 d=some b:=by
 unfold fT at h
 cases e:f ps with
 |none=>rw [e] at h;cases h
 |some d=>rw [e] at h;exact⟨d,rfl,h⟩
theorem fJ(ha:QV X U a fa)(he:∀whole,isTrue a X.env whole=(do let v<-whole;standAt a.pos;holding [v] (truthy v)):=by intro _;rfl):QT X U a (fT fa):=
 (zn7 ha he).imp fun σ H Q hh_=>by
  obtain⟨ps,c,w,e,q⟩:=hh_
  obtain⟨d,e1,e2⟩:=xg1 e
  exact⟨ps,d,w,e1,fun v H' fp s r=>⟨c,zy2 r e2,q H' s⟩⟩
def cG(f g:tz4):tz4:=fun ps=>(f ps).bind fun c=>if c=true then g ps else some false
def kR(f g:tz4):tz4:=fun ps=>(f ps).bind fun c=>if c=true then some true else g ps
def gR(f:tz4):tz4:=fun ps=>(f ps).map (!·)
variable{pos:Pos}{rest:List Expr}{ta tb:tz4}
theorem eU(ha:QT X U a ta):QW X U (.BoolOp .And [a] pos) ta:=xe2 ha
theorem sT(ha:QT X U a ta):QW X U (.BoolOp .Or [a] pos) ta:=yi8 ha
theorem eL(ha:QT X U a ta)(hb:QW X U (.BoolOp .And (b::rest) pos) tb):QW X U (.BoolOp .And (a::b::rest) pos) (cG ta tb):=
 (xm1 ha hb).imp fun σ H Q hh_=>by
  obtain⟨ps,c,w,e,q⟩:=hh_
  unfold cG at e
  cases e1:ta ps with
  |none=>rw [e1] at e;cases e
  | some k=>
   rw [e1] at e
   refine⟨ps,k,w,e1,fun H1 s1=> ?_⟩
   cases k with
   |true=>rw [if_pos rfl];exact⟨ps,c,w.same s1,by simpa using e,fun H2 s2=>q H2 (s1.trans s2)⟩
   |false=>
    rw [if_neg Z8]
    have:c=false:=by simpa using e.symm
    subst this;exact q H1 s1
theorem xC(ha:QT X U a ta)(hb:QW X U (.BoolOp .Or (b::rest) pos) tb):QW X U (.BoolOp .Or (a::b::rest) pos) (kR ta tb):=
 (xb8 ha hb).imp fun σ H Q hh_=>by
  obtain⟨ps,c,w,e,q⟩:=hh_
  unfold kR at e
  cases e1:ta ps with
  |none=>rw [e1] at e;cases e
  | some k=>
   rw [e1] at e
   refine⟨ps,k,w,e1,fun H1 s1=> ?_⟩
   cases k with
   |true=>
    rw [if_pos rfl]
    have:c=true:=by simpa using e.symm
    subst this;exact q H1 s1
   |false=>rw [if_neg Z8];exact⟨ps,c,w.same s1,by simpa using e,fun H2 s2=>q H2 (s1.trans s2)⟩
theorem gW(h:QW X U a ta):QT X U a ta:=PW.pt h
theorem mY(ha:QT X U a ta):QT X U (.UnaryOp .Not a pos) (gR ta):=
 (yi9 ha).imp fun σ H Q hh_=>by
  obtain⟨ps,c,w,e,q⟩:=hh_
  unfold gR at e
  cases e1:ta ps with
  |none=>rw [e1] at e;cases e
  |some k=>
   rw [e1] at e
   have:c= !k:=by simpa using e.symm
   subst this
   exact⟨ps,k,w,e1,fun H1 s1=>q H1 s1⟩
def sL(f g:tz2):tz2:=fun ps=>(f ps).bind fun c=>match c with
 | .bl true=>g ps
 | .bl false=>some (.bl false)
 |_=>none
def fOr(f g:tz2):tz2:=fun ps=>(f ps).bind fun c=>match c with
 | .bl true=>some (.bl true)
 | .bl false=>g ps
 |_=>none
theorem zk6{d:D}{α:Type}{x y:Option α}{z:α}(h:(match d with| .bl true=>x| .bl false=>y|_=>none)=some z):∃b,d= .bl b/\(if b=true then x else y)=some z:=by
 cases d with
 |bl b=>cases b<;>exact⟨_,rfl,h⟩
 |_=>cases h
theorem yZ{op}(h:QP X U a fa):QP X U (.BoolOp op [a] pos) fa:=yj0 h
theorem yl9(ha:QP X U a fa)(hb:QP X U (.BoolOp .And (b::rest) pos) fb):QP X U (.BoolOp .And (a::b::rest) pos) (sL fa fb):=
 (yj1 ha hb).imp fun σ H Q hh_=>by
  obtain⟨ps,d,w,e,q⟩:=hh_
  unfold sL at e
  cases e1:fa ps with
  |none=>rw [e1] at e;cases e
  | some k=>
   rw [e1] at e
   obtain⟨c,rfl,e2⟩:=zk6 (x:=fb ps) (y:=some (.bl false)) e
   refine⟨ps,_,w,e1,fun v H1 fv s1 _ _ r1=>⟨c,r1.is_bl,?_⟩⟩
   cases c with
   |true=>rw [if_pos rfl] at e2|-;exact⟨ps,d,w.same s1,e2,q.after s1⟩
   |false=>
    rw [if_neg Z8] at e2|-
    cases e2;exact(q.after s1).now (.bl false)
theorem xc3(ha:QP X U a fa)(hb:QP X U (.BoolOp .Or (b::rest) pos) fb):QP X U (.BoolOp .Or (a::b::rest) pos) (fOr fa fb):=
 (xu1 ha hb).imp fun σ H Q hh_=>by
  obtain⟨ps,d,w,e,q⟩:=hh_
  unfold fOr at e
  cases e1:fa ps with
  |none=>rw [e1] at e;cases e
  |some k=>
   rw [e1] at e
   obtain⟨c,rfl,e2⟩:=zk6 (d:=k) (x:=some (D.bl true)) (y:=fb ps) (z:=d) e
   refine⟨ps,_,w,e1,fun v H1 fv s1 _ _ r1=>⟨c,r1.is_bl,?_⟩⟩
   cases c with
   |true=>rw [if_pos rfl] at e2|-;cases e2;exact(q.after s1).now (.bl true)
   |false=>rw [if_neg Z8] at e2|-;exact⟨ps,d,w.same s1,e2,q.after s1⟩
def eY(f:tz2):tz2:=fun ps=>(f ps).bind fun c=>match c with
 | .int i=>some (.int (-i))
 |_=>none
theorem mZ(ha:QV X U a fa):QP X U (.UnaryOp .USub a pos) (eY fa):=
 (xu2 xm6 ha).imp fun σ H Q hh_=>by
  obtain⟨ps,d,w,e,q⟩:=hh_
  unfold eY at e
  cases e1:fa ps with
  |none=>rw [e1] at e;cases e
  |some k=>
   rw [e1] at e
   cases k with
   |int i=>cases e;exact⟨ps,_,w,e1,fun v H1 fp s1 r1=>⟨i,r1.is_int,(q.after s1).now (.int _)⟩⟩
   |_=>cases e
end
section
variable{X:Cx}{U:tz9}
theorem Inv.lstR(I:Inv X pins σ H s)(h:Rd H l (.lst xs)):
  xs.length<=sizeLine/\∃(its:List Value) (n:Nat),bT xs its/\xs.length=its.length/\s.heap.get? l=some {cls:= .type "list",data:= .seq its.toArray n}:=by
 obtain⟨z,its,n,r,e⟩:=h.ok I.hok
 exact⟨z,its,n,r,r.length,e⟩
theorem xg2:OpR X (binaryOp .Add) (fun x y H Q=>∃l b xs zs,x= .ref l/\y= .ref b/\Rd H l (.lst xs)/\Rd H b (.lst zs)/\xs.length+zs.length<=sizeLine/\∀p,H p=none->Q (.ref p) (upd H p (.lst (xs++zs)))):=⟨by
 intro pins s σ H x y v u Q I rx ry h
 obtain⟨l,b,xs,zs,rfl,rfl,hH,hB,hz,q⟩:=h
 cases rx
 cases ry
 obtain⟨z,its,n,r,hl,e⟩:=I.lstR hH
 obtain⟨z2,its2,n2,r2,hl2,e2⟩:=I.lstR hB
 refine PySem.P.add_list e e2 ?_ (by rw [Zm,Zm];omega)
 have ea:its.toArray++its2.toArray=(its++its2).toArray:=by simp
 rw [ea]
 exact⟨.ref _,_,I.lnew (t':=s.toks) (r.append r2) (by rw [Z3];omega),rfl,q _ I.fresh⟩⟩
theorem yu2:OpR X (binaryOp .Add) (fun x y H Q=>∃a b ys,x= .ref a/\y= .ref b/\SqT X.K H a []/\SqT X.K H b ys/\Q (.ref b) H):=⟨by
 intro pins s σ H x y v u Q I rx ry h
 obtain⟨a,b,ys,rfl,rfl,ha,hb,q⟩:=h
 cases rx
 cases ry
 obtain⟨its,r1,p1,_⟩:=I.tuple ha
 obtain⟨its2,r2,p2,_⟩:=I.tuple hb
 cases r1
 obtain⟨⟨cls,dd,data,sl⟩,ho,hc,n,hd⟩:=id p1
 obtain⟨⟨cls2,dd2,data2,sl2⟩,ho2,hc2,n2,hd2⟩:=id p2
 simp only at hc hd hc2 hd2
 subst hc hd hc2 hd2
 exact concat_meets ⟨_,ho,rfl⟩ ⟨_,ho2,rfl⟩ XD W5 YN YI (YE _ _)
   (tuple_addW0 a b _ _ n n2 dd dd2 sl sl2 rfl) ⟨ho,ho2,⟨.ref b,H,I,rfl,q⟩⟩⟩
theorem Rep.lst_inv{K:tz0}{H:Hp}{v:V}{o:Bool}{ds:List D}{fp:List Addr}(r:Rep K U H v (.lst o ds) fp):∃a vs g,v= .ref a/\Rd H a (.lst vs)/\Reps K U H vs ds g/\g.Sublist fp:=by
 cases r with
 |lst h hs=>exact⟨_,_,_,rfl,.inl h,hs,Yr _ _⟩
 |lstF h hs=>exact⟨_,_,_,rfl,.inr ⟨_,h⟩,hs,.refl _⟩
theorem Rep.lstT_inv{K:tz0}{H:Hp}{v:V}{ds:List D}{fp:List Addr}(r:Rep K U H v (.lst true ds) fp):∃a vs g,v= .ref a/\H a=some (.lst vs)/\Reps K U H vs ds g/\fp=a::g:=by
 cases r with
 |lst h hs=>exact⟨_,_,_,rfl,h,hs,rfl⟩
theorem Rep.objT_inv{K:tz0}{H:Hp}{v:V}{C:Str}{ns:List Str}{ds:List D}{fp:List Addr}(r:Rep K U H v (.obj true C ns ds) fp):∃a dx fs g,v= .ref a/\H a=some (.ins (U C) dx fs)/\fs.map (·.1)=ns/\Reps K U H (fs.map (·.2)) ds g/\fp=a::g:=by
 cases r with
 |obj h e hs=>exact⟨_,_,_,_,rfl,h,e,hs,rfl⟩
theorem Rep.tup_inv{K:tz0}{H:Hp}{v:V}{ds:List D}{fp:List Addr}(r:Rep K U H v (.tup ds) fp):∃a vs,v= .ref a/\SqT K H a vs/\Reps K U H vs ds []:=by
 cases r with
 |tup h hs=>exact⟨_,_,rfl,h,hs⟩
theorem Reps.pair{K:tz0}{H:Hp}{vs:List V}{ds:List D}{fp:List Addr}(r:Reps K U H vs ds fp)(h:D.imms ds=true):Paired (fun v d=>Rep K U H v d []) vs ds:=by
 have e:=r.imm h
 subst e
 exact r.nilp
theorem Rep.con_inv{K:tz0}{H:Hp}{v:V}{ds:List D}{fp:List Addr}(r:Rep K U H v (.con ds) fp):∃a vs,v= .ref a/\SqF K H a vs/\Reps K U H vs ds []:=by
 cases r with
 |con h hs=>exact⟨_,_,rfl,h,hs⟩
theorem zc0{K:tz0}{H:Hp}{vs:List V}{ds:List D}{Q:VK}{p:Addr}(hp:H p=none)(r:Paired (fun v d=>Rep K U H v d []) vs ds)(q:kF K U H (.lst true ds) Q):Q (.ref p) (upd H p (.lst vs)):=
 q.at hp (fv:=[p]) (fun a ha=>by simp at ha;subst ha;exact hp) (by simp) (.lst bX ((Reps.ofp r).same (.new hp _)))
theorem zc1{K:tz0}{H:Hp}{vs:List V}{ds:List D}{Q:VK}{p:Addr}(hp:H p=none)(r:Paired (fun v d=>Rep K U H v d []) vs ds)(q:kF K U H (.tup ds) Q):Q (.ref p) (upd H p (.tup vs)):=
 q.at hp (fv:=[]) (fun a ha=>by simp at ha) (by simp) (.tup (.inl (.inl bX)) ((Reps.ofp r).same (.new hp _)))
def bJ:D->D->Option D
 | .int i,.int j=>some (.int (i+j))
 | .str x,.str y=>if x.length+y.length<=sizeLine then some (.str (x++y)) else none
 | .lst _ xs,.lst _ ys=>if (D.imms xs&&D.imms ys&&decide (xs.length+ys.length<=sizeLine))=true then some (.lst true (xs++ys)) else none
 | .tup xs,.tup ys=>if xs.length+ys.length<=sizeLine then some (.tup (xs++ys)) else none
 |_,_=>none
theorem bind_some(h:o.bind g=some z):∃x,o=some x/\g x=some z:=by
 cases o with
 |none=>cases h
 |some x=>exact⟨x,rfl,h⟩
theorem bQ[Decidable c]{x:Option α}{z:α}(h:(if c then x else none)=some z):c/\x=some z:=by
 by_cases k:c
 ·rw [if_pos k] at h;exact⟨k,h⟩
 ·rw [if_neg k] at h;cases h
theorem dD:OpR X (binaryOp .Add) (POp X.K U bJ):=⟨by
 rintro pins s σ H x y v u Q I rx ry ⟨dx,dy,d,fx,fy,r1,r2,e,q⟩
 unfold bJ at e
 split at e
 ·rename_i i j
  cases e;exact sR pins s σ H x y v u Q I rx ry ⟨i,j,r1.is_int,r2.is_int,q.now (.int _)⟩
 ·rename_i i j
  obtain⟨hc,e⟩:=bQ e
  cases e;exact yc6 pins s σ H x y v u Q I rx ry ⟨i,j,r1.is_str,r2.is_str,hc,q.now (.str _)⟩
 ·rename_i o xs o' ys
  obtain⟨hc,e⟩:=bQ e
  simp only [ZG,ZQ] at hc
  cases e
  obtain⟨a,vs,g,rfl,h1,s1,_⟩:=r1.lst_inv
  obtain⟨b,us,g',rfl,h2,s2,_⟩:=r2.lst_inv
  exact xg2 pins s σ H _ _ v u Q I rx ry ⟨a,b,vs,us,rfl,rfl,h1,h2,by rw [s1.length,s2.length];exact hc.2,fun p hp=>zc0 hp (Paired.app (s1.pair hc.1.1) (s2.pair hc.1.2)) q⟩
 ·rename_i xs ys
  obtain⟨hc,e⟩:=bQ e
  cases e
  obtain⟨a,vs,rfl,h1,s1⟩:=r1.tup_inv
  obtain⟨b,us,rfl,h2,s2⟩:=r2.tup_inv
  have l1:=s1.length;have l2:=s2.length
  cases vs with
  |nil=>
   cases s1
   exact yu2 pins s σ H _ _ v u Q I rx ry ⟨a,b,us,rfl,rfl,h1,h2,q.now (.tup h2 s2)⟩
  |cons w ws=>
   refine xf2 pins s σ H _ _ v u Q I rx ry ⟨a,b,_,us,rfl,rfl,h1,h2,by simp,by omega,fun z=> ?_,fun z p hp=>zc1 hp (Paired.app s1.nilp s2.nilp) q⟩
   subst z
   cases s2
   rw [Zh] at q
   exact q.now (.tup h1 s1)
 ·cases e⟩
def dII(C:Int->Int->Bool)(g:Int->Int->D):D->D->Option D
 | .int i,.int j=>if C i j=true then some (g i j) else none
 |_,_=>none
theorem zo7(h:dII C g x y=some d):∃i j,x= .int i/\y= .int j/\C i j=true/\d=g i j:=by
 unfold dII at h
 split at h
 ·obtain⟨hc,h⟩:=bQ h
  cases h;exact⟨_,_,rfl,rfl,hc,rfl⟩
 ·cases h
def kS:D->D->Option D
 | .int i,.int j=>some (.int (i-j))
 |_,_=>none
theorem rO:OpR X (binaryOp .Sub) (POp X.K U kS):=⟨by
 rintro pins s σ H x y v u Q I rx ry ⟨dx,dy,d,fx,fy,r1,r2,e,q⟩
 unfold kS at e
 split at e
 ·rename_i i j
  cases e;exact xm4 pins s σ H x y v u Q I rx ry ⟨i,j,r1.is_int,r2.is_int,q.now (.int _)⟩
 ·cases e⟩
def oX(i j:Int):Bool:=(decide (-(2^64)<i)&&decide (i<2^64))||(decide (-(2^64)<j)&&decide (j<2^64))
def iK:D->D->Option D
 | .int i,.int j=>if oX i j=true then some (.int (i*j)) else none
 | .str x,.int n=>if (decide (x.length<=1)&&decide (-(2^63)<=n)&&decide (n<=16777216))=true then some (.str (Txt.mul x n)) else none
 |_,_=>none
theorem ye0:OpR X (binaryOp .Mult) (fun x y H Q=>∃z n,x= .str z/\y= .int n/\MulOk z n/\Q (.str (Txt.mul z n)) H):=⟨by
 rintro pins s σ H x y v u Q I rx ry ⟨z,n,e1,e2,ok,q⟩
 subst e1 e2
 obtain⟨t,rfl⟩:=rx
 obtain⟨t',rfl⟩:=ry
 exact SB.mul ok fun t' k=>⟨.str _,H,I.tok k,⟨_,rfl⟩,q⟩⟩
theorem tZ:OpR X (binaryOp .Mult) (POp X.K U iK):=⟨by
 rintro pins s σ H x y v u Q I rx ry ⟨dx,dy,d,fx,fy,r1,r2,e,q⟩
 unfold iK at e
 split at e
 ·rename_i i j
  obtain⟨hc,e⟩:=bQ e
  cases e
  refine mV pins s σ H x y v u Q I rx ry ⟨i,j,r1.is_int,r2.is_int,?_,q.now (.int _)⟩
  unfold oX at hc
  simp only [Bool.or_eq_true,ZG,ZQ] at hc
  exact hc
 ·rename_i z n
  obtain⟨hc,e⟩:=bQ e
  simp only [ZG,ZQ] at hc
  cases e
  exact ye0 pins s σ H _ _ v u Q I rx ry ⟨z,n,r1.is_str,r2.is_int,mulOk_of 1 16777216 hc.1.1 (by omega) hc.1.2 (by decide) (by decide),q.now (.str _)⟩
 ·cases e⟩
def cK:D->D->Option D:=dII (fun _ j=>decide (0<j)) fun i j=> .int (i % j)
theorem eA:OpR X (binaryOp .Mod) (POp X.K U cK):=⟨by
 rintro pins s σ H x y v u Q I rx ry ⟨dx,dy,d,fx,fy,r1,r2,e,q⟩
 obtain⟨i,j,rfl,rfl,hc,rfl⟩:=zo7 e
 exact yS pins s σ H x y v u Q I rx ry ⟨i,j,r1.is_int,r2.is_int,Ys hc,q.now (.int _)⟩⟩
def dX:D->D->Option D:=dII (fun _ j=>decide (0<j)&&decide (j<1073741824)) fun i j=> .int (i/j)
theorem iY:OpR X (binaryOp .FloorDiv) (POp X.K U dX):=⟨by
 rintro pins s σ H x y v u Q I rx ry ⟨dx,dy,d,fx,fy,r1,r2,e,q⟩
 obtain⟨i,j,rfl,rfl,hc,rfl⟩:=zo7 e
 simp only [ZG,ZQ] at hc
 exact zx4 pins s σ H x y v u Q I rx ry ⟨i,j,r1.is_int,r2.is_int,hc,q.now (.int _)⟩⟩
def D.ints:List D->Option (List Int)
 |[]=>some []
 | .int i::ds=>(D.ints ds).map (i::·)
 |_::_=>none
theorem xD{K:tz0}{H:Hp}:∀{vs:List V} {ds:List D} {fp:List Addr} {ns:List Int},Reps K U H vs ds fp->D.ints ds=some ns->vs=ns.map V.int
 |_,_,_,_,.nil,e=>by cases e;rfl
 | _,d::ds,_,ns,.cons h hs,e=>by
  cases d with
  |int i=>
   rw [D.ints] at e
   cases e1:D.ints ds with
   |none=>rw [e1] at e;cases e
   |some ms=>rw [e1] at e;cases e;rw [h.is_int,xD hs e1];rfl
  |_=>cases e
def dLt:D->D->Option D
 | .int i,.int j=>some (.bl (decide (i<j)))
 |_,_=>none
theorem mI(hu:X.A.units<cLine):OpR X (compareOp .Lt) (POp X.K U dLt):=⟨by
 rintro pins s σ H x y v u Q I rx ry ⟨dx,dy,d,fx,fy,r1,r2,e,q⟩
 unfold dLt at e
 split at e
 ·rename_i i j
  cases e;exact xu3 pins s σ H x y v u Q I rx ry ⟨i,j,r1.is_int,r2.is_int,q.now (.bl _)⟩
 ·cases e⟩
def dLe:D->D->Option D
 | .int i,.int j=>some (.bl (decide (i<=j)))
 |_,_=>none
theorem ye1:OpR X (compareOp .LtE) (POp X.K U dLe):=⟨by
 rintro pins s σ H x y v u Q I rx ry ⟨dx,dy,d,fx,fy,r1,r2,e,q⟩
 unfold dLe at e
 split at e
 ·rename_i i j
  cases e;exact xu4 pins s σ H x y v u Q I rx ry ⟨i,j,r1.is_int,r2.is_int,q.now (.bl _)⟩
 ·cases e⟩
def dGt:D->D->Option D
 | .int i,.int j=>some (.bl (decide (j<i)))
 |_,_=>none
theorem yu3:OpR X (compareOp .Gt) (POp X.K U dGt):=⟨by
 rintro pins s σ H x y v u Q I rx ry ⟨dx,dy,d,fx,fy,r1,r2,e,q⟩
 unfold dGt at e
 split at e
 ·rename_i i j
  cases e;exact xu5 pins s σ H x y v u Q I rx ry ⟨i,j,r1.is_int,r2.is_int,q.now (.bl _)⟩
 ·cases e⟩
def dGe:D->D->Option D
 | .int i,.int j=>some (.bl (decide (j<=i)))
 |_,_=>none
theorem xo4:OpR X (compareOp .GtE) (POp X.K U dGe):=⟨by
 rintro pins s σ H x y v u Q I rx ry ⟨dx,dy,d,fx,fy,r1,r2,e,q⟩
 unfold dGe at e
 split at e
 ·rename_i i j
  cases e;exact xu6 pins s σ H x y v u Q I rx ry ⟨i,j,r1.is_int,r2.is_int,q.now (.bl _)⟩
 ·cases e⟩
mutual
def D.data:D->Option PyData
 | .non=>some .none
 | .bl b=>some (.bool b)
 | .int i=>some (.int i)
 | .str x=>some (.str x)
 | .tup xs=>(D.datas xs).map .tuple
 | .lst _ xs=>(D.datas xs).map .list
 |_=>none
def D.datas:List D->Option (List PyData)
 |[]=>some []
 |d::ds=>d.data.bind fun p=>(D.datas ds).map (p::·)
end
theorem Reps.dps{K:tz0}{H:Hp}{vs:List V}{ds:List D}{fp:List Addr}(h:Reps K U H vs ds fp):∀{p:List PyData},D.datas ds=some p->DpAll K H vs p:=
 Reps.rec (motive_1:=fun v d _ _=>∀{p:PyData},d.data=some p->Dp K H v p) (motive_2:=fun vs ds _ _=>∀{p:List PyData},D.datas ds=some p->DpAll K H vs p)
  (fun e=>by cases e;exact .non) (fun b _ e=>by cases e;exact .bl b) (fun b _ e=>by cases e;exact .int b) (fun b _ e=>by cases e;exact .str b) (fun b _ e=>nomatch e)
  (fun h _ ih _ e=>by obtain⟨ps,e1,e⟩:=Zl.mp e;subst e;exact .tup h (ih e1)) (fun _ _ _ _ e=>nomatch e)
  (fun h _ ih _ e=>by obtain⟨ps,e1,e⟩:=Zl.mp e;subst e;exact .lst (.inl (.inl h)) (ih e1))
  (fun h _ ih _ e=>by obtain⟨ps,e1,e⟩:=Zl.mp e;subst e;exact .lst (.inl (.inr ⟨_,h⟩)) (ih e1))
  (fun _ _ _ _ _ e=>nomatch e) (fun _ _ _ _ _ e=>nomatch e) (fun _ _ _ _ _ e=>nomatch e) (fun _ _ _ _ _ e=>nomatch e)
  (fun _ _ e=>nomatch e) (fun _ _ _ _ _ e=>nomatch e) (fun _ _ _ _ _ e=>nomatch e)
  (fun e=>by cases e;exact .nil)
  (fun _ _ i1 i2 _ e=>by
   obtain⟨q,e1,e⟩:=bind_some e
   obtain⟨qs,e2,e⟩:=Zl.mp e
   subst e
   exact .cons (i1 e1) (i2 e2)) h
theorem Rep.dp{K:tz0}{H:Hp}{v:V}{d:D}{fp:List Addr}{p:PyData}(h:Rep K U H v d fp)(e:d.data=some p):Dp K H v p:=by
 have:=(Reps.one h).dps (p:=[p]) (by show(d.data.bind _)=_;rw [e];rfl)
 cases this;assumption
def wL(x y:D):Option Bool:=x.data.bind fun a=>y.data.bind fun b=>if (a.canLay0&&b.canLay0&&decide (a.depth<=60))=true then some (PyData.eqv a b) else none
def eqB(x y:D):Option Bool:=match x,y with
 | .int i,.int j=>some (decide (i=j))
 | .str i,.str j=>some (decide (i=j))
 |x,y=>wL x y
def dEq(x y:D):Option D:=(eqB x y).map .bl
def dNe(x y:D):Option D:=(eqB x y).map fun b=> .bl (!b)
theorem zg1(h:eqB x y=some b):(∃i j,x= .int i/\y= .int j/\b=decide (i=j))\/(∃i j,x= .str i/\y= .str j/\b=decide (i=j))\/
  ∃p q,x.data=some p/\y.data=some q/\p.canLay0=true/\q.canLay0=true/\p.depth<=60/\b=PyData.eqv p q:=by
 have gen:wL x y=some b->∃p q,x.data=some p/\y.data=some q/\p.canLay0=true/\q.canLay0=true/\p.depth<=60/\b=PyData.eqv p q:=fun h=>by
  unfold wL at h
  cases e1:x.data with
  |none=>rw [e1] at h;cases h
  | some p=>
   rw [e1] at h
   cases e2:y.data with
   |none=>rw [e2] at h;cases h
   | some q=>
    rw [e2] at h
    have h':(if (p.canLay0&&q.canLay0&&decide (p.depth<=60))=true then some (PyData.eqv p q) else none)=some b:=h
    split at h'
    ·rename_i hc
     simp only [ZG,ZQ] at hc
     exact⟨p,q,rfl,rfl,hc.1.1,hc.1.2,hc.2,(ZA h').symm⟩
    ·cases h'
 unfold eqB at h
 split at h
 ·cases h;exact .inl ⟨_,_,rfl,rfl,rfl⟩
 ·cases h;exact .inr (.inl ⟨_,_,rfl,rfl,rfl⟩)
 ·exact .inr (.inr (gen h))
theorem eE(hu:X.A.units+64<cLine):OpR X (compareOp .Eq) (POp X.K U dEq):=⟨by
 rintro pins s σ H x y v u Q I rx ry ⟨dx,dy,d,fx,fy,r1,r2,e,q⟩
 unfold dEq at e
 cases e1:eqB dx dy with
 |none=>rw [e1] at e;cases e
 | some b=>
  rw [e1] at e
  cases e
  rcases zg1 e1 with ⟨i,j,rfl,rfl,rfl⟩|⟨i,j,rfl,rfl,rfl⟩|⟨p,p',h1,h2,h3,h4,h5,rfl⟩
  ·rw [r1.is_int] at rx;rw [r2.is_int] at ry
   exact yc4 pins s σ H _ _ v u Q I rx ry ⟨rfl,by rw [show decide (V.int i=V.int j)=decide (i=j) by simp];exact q.now (.bl _)⟩
  ·rw [r1.is_str] at rx;rw [r2.is_str] at ry
   exact yc4 pins s σ H _ _ v u Q I rx ry ⟨rfl,by rw [show decide (V.str i=V.str j)=decide (i=j) by simp];exact q.now (.bl _)⟩
  ·exact xo1 hu pins s σ H _ _ v u Q I rx ry ⟨p,p',r1.dp h1,r2.dp h2,h3,h4,h5,q.now (.bl _)⟩⟩
theorem yu4(hu:X.A.units+64<cLine):OpR X (compareOp .NotEq) (POp X.K U dNe):=⟨by
 rintro pins s σ H x y v u Q I rx ry ⟨dx,dy,d,fx,fy,r1,r2,e,q⟩
 unfold dNe at e
 cases e1:eqB dx dy with
 |none=>rw [e1] at e;cases e
 | some b=>
  rw [e1] at e
  cases e
  rcases zg1 e1 with ⟨i,j,rfl,rfl,rfl⟩|⟨i,j,rfl,rfl,rfl⟩|⟨p,p',h1,h2,h3,h4,h5,rfl⟩
  ·rw [r1.is_int] at rx;rw [r2.is_int] at ry
   exact xc0 pins s σ H _ _ v u Q I rx ry ⟨rfl,by rw [show decide (V.int i=V.int j)=decide (i=j) by simp];exact q.now (.bl _)⟩
  ·rw [r1.is_str] at rx;rw [r2.is_str] at ry
   exact xc0 pins s σ H _ _ v u Q I rx ry ⟨rfl,by rw [show decide (V.str i=V.str j)=decide (i=j) by simp];exact q.now (.bl _)⟩
  ·exact xo2 hu pins s σ H _ _ v u Q I rx ry ⟨p,p',r1.dp h1,r2.dp h2,h3,h4,h5,q.now (.bl _)⟩⟩
def zZ:D->Bool
 | .non=>true
 |_=>false
theorem zo8{K:tz0}{H:Hp}{v:V}{d:D}{fp:List Addr}(r:Rep K U H v d fp):decide (v= .non)=zZ d:=by cases r<;>first|rfl|simp [zZ]
def dIs:D->D->Option D
 |x,.non=>some (.bl (zZ x))
 |_,_=>none
def tL:D->D->Option D
 |x,.non=>some (.bl (!(zZ x)))
 |_,_=>none
theorem zo9:OpR X (compareOp .Is) (POp X.K U dIs):=⟨by
 rintro pins s σ H x y v u Q I rx ry ⟨dx,dy,d,fx,fy,r1,r2,e,q⟩
 cases dy with
 |non=>
  cases e;cases r2
  refine xm7 pins s σ H x _ v u Q I rx ry ⟨rfl,?_⟩
  rw [zo8 r1];exact q.now (.bl _)
 |_=>cases e⟩
theorem zc2:OpR X (compareOp .IsNot) (POp X.K U tL):=⟨by
 rintro pins s σ H x y v u Q I rx ry ⟨dx,dy,d,fx,fy,r1,r2,e,q⟩
 cases dy with
 |non=>
  cases e;cases r2
  refine xe4 pins s σ H x _ v u Q I rx ry ⟨rfl,?_⟩
  rw [zo8 r1];exact q.now (.bl _)
 |_=>cases e⟩
def D.flat:D->Option V
 | .non=>some .non
 | .bl b=>some (.bl b)
 | .int i=>some (.int i)
 | .str x=>some (.str x)
 |_=>none
def D.flats:List D->Option (List V)
 |[]=>some []
 |d::ds=>d.flat.bind fun v=>(D.flats ds).map (v::·)
theorem zy3{K:tz0}{H:Hp}{v w:V}{d:D}{fp:List Addr}(r:Rep K U H v d fp)(h:d.flat=some w):v=w/\kH v=true:=by
 cases r<;>first|(cases h;exact⟨rfl,rfl⟩)|cases h
theorem zp0{K:tz0}{H:Hp}:∀{vs ws:List V} {ds:List D} {fp:List Addr},Reps K U H vs ds fp->D.flats ds=some ws->vs=ws/\vs.all kH=true
 |_,_,_,_,.nil,e=>by cases e;exact⟨rfl,rfl⟩
 | _,ws,d::ds,_,.cons h hs,e=>by
  rw [D.flats] at e
  cases e1:d.flat with
  |none=>rw [e1] at e;cases e
  | some w=>
   rw [e1] at e
   cases e2:D.flats ds with
   |none=>rw [e2] at e;cases e
   |some us=>
    rw [e2] at e;cases e
    obtain⟨a1,a2⟩:=zy3 h e1
    obtain⟨b1,b2⟩:=zp0 hs e2
    exact⟨by rw [a1,b1],by rw [XE,a2,b2];rfl⟩
def qA(x:D)(ds:List D):Option Bool:=x.flat.bind fun v=>(D.flats ds).map fun ws=>inV v ws
def inB(x:D):D->Option Bool
 | .lst _ ds=>qA x ds
 | .tup ds=>qA x ds
 |_=>none
def dIn(x y:D):Option D:=(inB x y).map .bl
theorem xo5{H:Hp}{x y:V}{dx dy:D}{fx fy:List Addr}{b:Bool}(r1:Rep X.K U H x dx fx)(r2:Rep X.K U H y dy fy)(e:inB dx dy=some b):
  ∃p xs,y= .ref p/\(SqL X.K H p xs\/SqT X.K H p xs)/\kH x=true/\xs.all kH=true/\b=inV x xs:=by
 have gen:∀{vs:List V} {ds:List D} {g:List Addr},Reps X.K U H vs ds g->qA dx ds=some b->kH x=true/\vs.all kH=true/\b=inV x vs:=fun {vs ds g} rs h=>by
  unfold qA at h
  cases e1:dx.flat with
  |none=>rw [e1] at h;cases h
  | some w=>
   rw [e1] at h
   cases e2:D.flats ds with
   |none=>rw [e2] at h;cases h
   |some ws=>
    rw [e2] at h
    obtain⟨a1,a2⟩:=zy3 r1 e1
    obtain⟨b1,b2⟩:=zp0 rs e2
    subst a1 b1
    exact⟨a2,b2,(ZA h).symm⟩
 cases dy with
 |lst o ds=>
  obtain⟨a,vs,g,rfl,h,hs,_⟩:=r2.lst_inv
  obtain⟨g1,g2,g3⟩:=gen hs e
  exact⟨a,vs,rfl,.inl (.inl h),g1,g2,g3⟩
 |tup ds=>
  obtain⟨a,vs,rfl,h,hs⟩:=r2.tup_inv
  obtain⟨g1,g2,g3⟩:=gen hs e
  exact⟨a,vs,rfl,.inr h,g1,g2,g3⟩
 |_=>cases e
theorem yu5:OpR X (compareOp .In) (POp X.K U dIn):=⟨by
 rintro pins s σ H x y v u Q I rx ry ⟨dx,dy,d,fx,fy,r1,r2,e,q⟩
 unfold dIn at e
 cases e1:inB dx dy with
 |none=>rw [e1] at e;cases e
 |some b=>
  rw [e1] at e;cases e
  obtain⟨p,xs,ey,h,f1,f2,rfl⟩:=xo5 r1 r2 e1
  exact yk8 pins s σ H x y v u Q I rx ry ⟨p,xs,ey,h,f1,f2,q.now (.bl _)⟩⟩
end
theorem Reps.getS{K:tz0}{U:tz9}{H:Hp}:∀{vs:List V} {ds:List D} {fp:List Addr} {i:Nat} {d:D},Reps K U H vs ds fp->ds[i]? =some d->∃v f,vs[i]? =some v/\Rep K U H v d f/\f.Sublist fp
 |_,_,_,_,_,.nil,e=>by simp at e
 |_,_,_,0,_,.cons h _,e=>by simp at e;subst e;exact⟨_,_,rfl,h,XG _ _⟩
 |_,_,_,i+1,_,.cons _ hs,e=>by
  obtain⟨v,f,h1,h2,h3⟩:=Reps.getS (i:=i) hs (by simpa using e)
  exact⟨v,f,by simpa using h1,h2,h3.trans (XB _ _)⟩
theorem Reps.atI{K:tz0}{U:tz9}{H:Hp}{vs:List V}{ds:List D}{fp:List Addr}{i:Int}{d:D}(r:Reps K U H vs ds fp)(h:L2.atI ds i=some d):∃v f,L2.atI vs i=some v/\Rep K U H v d f/\f.Sublist fp:=by
 unfold L2.atI at h|-
 rw [r.length]
 cases e:ixN ds.length i with
 |none=>rw [e] at h;cases h
 |some j=>rw [e] at h;exact r.getS h
section
variable{X:Cx}{U:tz9}{e a b:Expr}{es:List Expr}{f fa fb:tz2}{g:tz3}{pos p2:Pos}
def aE:tz3:=fun _=>some []
def aA(f:tz2)(g:tz3):tz3:=fun ps=>(f ps).bind fun d=>(g ps).bind fun ds=>some (d::ds)
theorem uA(h:aA f g ps=some ds):∃d es,f ps=some d/\g ps=some es/\ds=d::es:=by
 unfold aA at h
 cases e1:f ps with
 |none=>rw [e1] at h;cases h
 |some d=>
  rw [e1] at h
  cases e2:g ps with
  |none=>rw [e2] at h;cases h
  |some es=>rw [e2] at h;cases h;exact⟨d,es,rfl,rfl,rfl⟩
theorem aQ:QVA X U [] aE:=mW.imp fun σ H Q ⟨ps,ds,w,e,q⟩=>by cases e;exact q [] H [] (.refl H) .nil
theorem aG(ha:QV X U e f)(hr:QVA X U es g)(hs:StE e es X:=by rfl):QVA X U (e::es) (aA f g):=
 (fV ha hr hs).imp fun σ H Q hh_=>by
  obtain⟨ps,ds,w,e,q⟩:=hh_
  obtain⟨d,es,e1,e2,rfl⟩:=uA e
  exact⟨ps,d,w,e1,fun v H1 fp s1 r1=>⟨ps,es,w.same s1,e2,fun vs H2 fq s2 r2=>q _ H2 _ (s1.trans s2) (.cons (r1.same s2) r2)⟩⟩
theorem aV:QPA X U [] aE:=mW.imp fun σ H Q ⟨ps,ds,w,e,q⟩=>by cases e;exact q [] H [] (.refl H) (fun _ h=>absurd h (by simp)) Zf .nil
theorem ym0{K:tz0}{H1:Hp}{v:V}{d:D}{fv fw:List Addr}(r:Rep K U H1 v d fv)(n1:fv.Nodup)(hw:∀a∈fw,H1 a=none)(n2:fw.Nodup):(fv++fw).Nodup:=by
 rw [Zz]
 refine⟨n1,n2,fun a ha b hb e=> ?_⟩
 subst e
 obtain⟨o,h,_⟩:=r.own a ha
 rw [hw a hb] at h;cases h
theorem aI(ha:QP X U e f)(hr:QPA X U es g)(hs:StE e es X:=by rfl):QPA X U (e::es) (aA f g):=
 (fV ha hr hs).imp fun σ H Q hh_=>by
  obtain⟨ps,ds,w,e,q⟩:=hh_
  obtain⟨d,es,e1,e2,rfl⟩:=uA e
  refine⟨ps,d,w,e1,fun v H1 fv s1 n1 nd1 r1=>⟨ps,es,w.same s1,e2,fun vs H2 fw s2 n2 nd2 r2=> ?_⟩⟩
  refine q _ H2 (fv++fw) (s1.trans s2) (fun a ha=> ?_) (ym0 r1 nd1 n2 nd2) (.cons (r1.same s2) r2)
  rcases ZE.mp ha with z|z
  ·exact n1 a z
  ·exact s1.grow a (n2 a z)
def aX(g:tz3):tz2:=fun ps=>(g ps).bind fun ds=>if (D.imms ds&&decide (ds.length<=1000))=true then some (.tup ds) else none
def cE(g:tz3):tz2:=fun ps=>(g ps).bind fun ds=>if ds.length<=1000 then some (.lst true ds) else none
theorem bW{x1}(h:QPA X U es g):QP X U (.Tuple es x1 pos) (aX g):=
 (yk3 h).imp fun σ H Q hh_=>by
  obtain⟨ps,d,w,e,q⟩:=hh_
  obtain⟨ds,e1,e2⟩:=bind_some e
  obtain⟨hc,e3⟩:=bQ e2
  cases e3
  rw [ZG,ZQ] at hc
  refine⟨ps,ds,w,e1,fun vs H1 fv s1 n1 nd1 r1=>⟨by rw [r1.length];exact yY hc.2,fun p hp=> ?_⟩⟩
  exact zc1 hp (r1.pair hc.1) (q.after s1)
theorem dI(h:QPA X U es g):QP X U (.List es pos) (cE g):=
 (xn1 h).imp fun σ H Q hh_=>by
  obtain⟨ps,d,w,e,q⟩:=hh_
  obtain⟨ds,e1,e2⟩:=bind_some e
  obtain⟨hc,e3⟩:=bQ e2
  cases e3
  refine⟨ps,ds,w,e1,fun vs H1 fv s1 n1 nd1 r1=>⟨by rw [r1.length];exact yY hc,fun p hp=> ?_⟩⟩
  refine q _ _ (p::fv) (s1.trans (.new hp _)) (fun a ha=> ?_) (Zp.mpr ⟨fun hm=> ?_,nd1⟩) (.lst bX (r1.same (.new hp _)))
  ·rcases Za.mp ha with z|z
   ·rw [z];exact s1.grow p hp
   ·exact n1 a z
  ·obtain⟨o,h,_⟩:=r1.own p hm
   rw [hp] at h;cases h
def dIx:D->D->Option D
 | .lst _ xs,.int i=>atI xs i
 | .tup xs,.int i=>atI xs i
 | .con xs,.int i=>atI xs i
 | .str z,.int i=>if z.length<=sizeLine then(atI z.cps.toList i).map fun c=> .str ⟨#[c]⟩ else none
 |_,_=>none
theorem ym1{K:tz0}{H:Hp}{x y:V}{dx dy d:D}{fx fy:List Addr}{Q:VK}(r1:Rep K U H x dx fx)(r2:Rep K U H y dy fy)(e:dIx dx dy=some d)(q:∀v f,Rep K U H v d f->f.Sublist fx->Q v H):rIx K x y H Q:=by
 unfold dIx at e
 split at e
 ·rename_i o xs i
  obtain⟨a,vs,g,rfl,h,hs,sub⟩:=r1.lst_inv
  obtain⟨v,f,h1,h2,h3⟩:=hs.atI e
  exact .inl ⟨a,vs,i,v,rfl,r2.is_int,.inl h,h1,q v f h2 (h3.trans sub)⟩
 ·rename_i xs i
  obtain⟨a,vs,rfl,h,hs⟩:=r1.tup_inv
  obtain⟨v,f,h1,h2,h3⟩:=hs.atI e
  cases List.sublist_nil.mp h3
  exact .inr (.inl ⟨a,vs,i,v,rfl,r2.is_int,h,h1,q v [] h2 (Xf _)⟩)
 ·rename_i xs i
  obtain⟨a,vs,rfl,h,hs⟩:=r1.con_inv
  obtain⟨v,f,h1,h2,h3⟩:=hs.atI e
  cases List.sublist_nil.mp h3
  exact .inl ⟨a,vs,i,v,rfl,r2.is_int,h.l,h1,q v [] h2 (Xf _)⟩
 ·rename_i z i
  obtain⟨hz,e⟩:=bQ e
  obtain⟨c,e1,e⟩:=Zl.mp e
  subst e
  exact .inr (.inr ⟨z,i,c,r1.is_str,r2.is_int,hz,e1,q _ [] (.str _) (Xf _)⟩)
 ·cases e
theorem bI(ha:QV X U a fa)(hb:QV X U b fb)(hs:xL b:=by exact fun _ _=>rfl):QV X U (.Subscript a b pos) (f2 dIx fa fb):=
 (zk2 yk6 ha hb hs).imp fun σ H Q hh_=>by
  obtain⟨ps,d,w,e,q⟩:=hh_
  obtain⟨x,y,e1,e2,e3⟩:=sS e
  exact⟨ps,x,w,e1,fun v H1 fp s1 r1=>⟨ps,y,w.same s1,e2,fun u H2 fq s2 r2=>ym1 (r1.same s2) r2 e3 fun v f r _=>q v H2 f (s1.trans s2) r⟩⟩
theorem mC(ha:QP X U a fa)(hb:QV X U b fb)(hs:xL b:=by exact fun _ _=>rfl):QP X U (.Subscript a b pos) (f2 dIx fa fb):=
 (zk2 yk6 ha hb hs).imp fun σ H Q hh_=>by
  obtain⟨ps,d,w,e,q⟩:=hh_
  obtain⟨x,y,e1,e2,e3⟩:=sS e
  exact⟨ps,x,w,e1,fun v H1 fv s1 n1 nd1 r1=>⟨ps,y,w.same s1,e2,fun u H2 fq s2 r2=>ym1 (r1.same s2) r2 e3 fun v f r sub=>q v H2 f (s1.trans s2) (fun c hc=>n1 c (sub.subset hc)) (nd1.sublist sub) r⟩⟩
def tO(K:tz0)(U:tz9)(f:PSt->Option (Option Int)):TO:=fun σ H Q=>∃ps o,WS K U H σ ps/\f ps=some o/\∀H',SameK H H'->Q o H'
abbrev QO(X:Cx)(U:tz9)(e:Option Expr)(f:PSt->Option (Option Int)):Prop:=PO X e (tO X.K U f)
def dN:PSt->Option (Option Int):=fun _=>some none
def eC(f:tz2):PSt->Option (Option Int):=fun ps=>(f ps).bind fun d=>match d with
 | .int i=>some (some i)
 |_=>none
theorem lI:QO X U none dN:=⟨fun pins s σ H Q I ⟨ps,o,w,e,q⟩=>by cases e;exact xf0 pins s σ H Q I (q H (.refl H))⟩
theorem lJ(h:QV X U e f):QO X U (some e) (eC f):=⟨fun pins s σ H Q I hh_=>by
 obtain⟨ps,o,w,e,q⟩:=hh_
 obtain⟨d,e1,e2⟩:=bind_some e
 cases d with
 |int i=>cases e2;exact xf1 h pins s σ H Q I ⟨ps,_,w,e1,fun v H1 fp s1 r1=>⟨i,r1.is_int,q H1 s1⟩⟩
 |_=>cases e2⟩
def xb0(xs:List D)(lo hi:Option Int):List D:=(xs.drop (HT.sIx xs.length 0 lo)).take (HT.sIx xs.length xs.length hi-HT.sIx xs.length 0 lo)
def dSl:D->Option Int->Option Int->Option D
 | .lst _ xs,lo,hi=>if D.imms xs=true then some (.lst true (xb0 xs lo hi)) else none
 | .str z,lo,hi=>if z.length<=sizeLine then some (.str (Txt.slice z lo hi)) else none
 |_,_,_=>none
theorem yu6{K:tz0}{H:Hp}{vs:List V}{ds:List D}{lo hi:Option Int}(r:Paired (fun v d=>Rep K U H v d []) vs ds):Paired (fun v d=>Rep K U H v d []) (ze4 vs lo hi) (xb0 ds lo hi):=by
 unfold ze4 xb0
 rw [ZC r]
 exact Paired.takeN _ (Paired.dropN _ r)
def PSl(K:tz0)(U:tz9):V->Option Int->Option Int->Hp->VK->Prop:=fun x lo hi H Q=>∃dx d fx,Rep K U H x dx fx/\dSl dx lo hi=some d/\kF K U H d Q
theorem xo6:SlR X (PSl X.K U):=by
 rintro pins s σ H x v vl vu lo hi sl Q I rx hs pl pu ⟨dx,d,fx,r,e,q⟩
 unfold dSl at e
 split at e
 ·obtain⟨hc,e2⟩:=bQ e
  cases e2
  obtain⟨a,vs,g,rfl,h,rs,sub⟩:=r.lst_inv
  exact xf3 pins s σ H _ v vl vu _ _ sl Q I rx hs pl pu ⟨a,vs,rfl,.inl h,fun p hp=>zc0 hp (yu6 (rs.pair hc)) q⟩
 ·obtain⟨hc,e2⟩:=bQ e
  cases e2
  exact xo0 pins s σ H _ v vl vu _ _ sl Q I rx hs pl pu ⟨_,r.is_str,hc,q.now (.str _)⟩
 ·cases e
def fSl(f:tz2)(fl fh:PSt->Option (Option Int)):tz2:=fun ps=>(f ps).bind fun d=>(fl ps).bind fun l=>(fh ps).bind fun h=>dSl d l h
theorem jM{lo hi:Option Expr}{fl fh:PSt->Option (Option Int)}(he:QV X U e f)(hl:QO X U lo fl)(hh:QO X U hi fh):QP X U (.Subscript e (.Slice lo hi none p2) pos) (fSl f fl fh):=
 (yt4 xo6 he hl hh).imp fun σ H Q hh_=>by
  obtain⟨ps,d,w,e,q⟩:=hh_
  obtain⟨d1,e1,e2⟩:=bind_some e
  obtain⟨l,e3,e4⟩:=bind_some e2
  obtain⟨h,e5,e6⟩:=bind_some e4
  exact⟨ps,d1,w,e1,fun v H1 fp s1 r1=>⟨ps,l,w.same s1,e3,fun H2 s2=>⟨ps,h,(w.same s1).same s2,e5,fun H3 s3=>⟨d1,d,fp,(r1.same s2).same s3,e6,q.after ((s1.trans s2).trans s3)⟩⟩⟩⟩
def PCl(K:tz0)(U:tz9)(g:tz6):List V->Hp->VK->Prop:=fun vs H Q=>∃ds fp d,Reps K U H vs ds fp/\g ds=some d/\kF K U H d Q
def aJ(h:tz6)(g:tz3):tz2:=fun ps=>(g ps).bind h
theorem ym2(q:tP X.K U (aJ h g) σ H Q):tCB (PCl X.K U h) (tVA X.K U g) σ H Q:=by
 obtain⟨ps,d,w,e,q⟩:=q
 obtain⟨ds,e1,e2⟩:=bind_some e
 exact⟨ps,ds,w,e1,fun vs H1 fp s1 r1=>⟨ds,fp,d,r1,e2,q.after s1⟩⟩
theorem cQ{x:Str}{id:String}{p:Pos}{h:tz6}(hc:CallR X (.builtin id) (PCl X.K U h))(hg:Gl X x)(hm:X.mg x=none)(hv:bootBuiltins x=some (.builtin id))(ha:QVA X U (e::es) g)(hn:x≠"__name__":=by decide)(hdb:NDb x:=by decide)
  (hs:StE e es X:=by rfl) (hpl:BkE pos es X:=by rfl):QP X U (.Call (.Name x p) (e::es) [] pos) (aJ h g):=
 (qN hc hg hm hv ha hn hdb hs hpl).imp fun _ _ _ q=>ym2 q
theorem kL(hc:CallR X (.type T) (PCl X.K U h))(hg:Gl X x)(hm:X.mg x=none)(hv:bootBuiltins x=some (.type T))(ha:QVA X U (e::es) g)(hn:x≠"__name__":=by decide)(hdb:NDb x:=by decide)
  (hs:StE e es X:=by rfl) (hpl:BkE pos es X:=by rfl):QP X U (.Call (.Name x p) (e::es) [] pos) (aJ h g):=
 (yk5 hc hg hm hv ha hn hdb hs hpl).imp fun _ _ _ q=>ym2 q
theorem Reps.two_inv{K:tz0}{H:Hp}{vs:List V}{d e:D}{fp:List Addr}(r:Reps K U H vs [d,e] fp):∃v u f g,vs=[v,u]/\Rep K U H v d f/\Rep K U H u e g:=by
 obtain⟨v,us,f,g,rfl,h,t,rfl⟩:=r.split
 obtain⟨u,rfl,h2⟩:=t.one_inv
 exact⟨v,u,f,g,rfl,h,h2⟩
def cN:tz6
 |[.lst _ xs]=>some (.int xs.length)
 |[.tup xs]=>some (.int xs.length)
 |[.con xs]=>some (.int xs.length)
 |[.str z]=>if z.length<=sizeLine then some (.int z.length) else none
 |_=>none
theorem fU:CallR X (.builtin "len") (PCl X.K U cN):=⟨by
 rintro pins s σ H vs us Q I r ⟨ds,fp,d,rs,e,q⟩
 unfold cN at e
 split at e
 ·cases e
  obtain⟨v,rfl,r1⟩:=rs.one_inv
  obtain⟨a,ws,g,rfl,h,hs,_⟩:=r1.lst_inv
  exact jD pins s σ H _ us Q I r ⟨a,ws,rfl,.inl (.inl h),by rw [hs.length];exact q.now (.int _)⟩
 ·cases e
  obtain⟨v,rfl,r1⟩:=rs.one_inv
  obtain⟨a,ws,rfl,h,hs⟩:=r1.tup_inv
  exact jD pins s σ H _ us Q I r ⟨a,ws,rfl,.inr h,by rw [hs.length];exact q.now (.int _)⟩
 ·cases e
  obtain⟨v,rfl,r1⟩:=rs.one_inv
  obtain⟨a,ws,rfl,h,hs⟩:=r1.con_inv
  exact jD pins s σ H _ us Q I r ⟨a,ws,rfl,.inl h.l,by rw [hs.length];exact q.now (.int _)⟩
 ·obtain⟨hz,e⟩:=bQ e
  cases e
  obtain⟨v,rfl,r1⟩:=rs.one_inv
  exact zo2 pins s σ H _ us Q I r ⟨_,by rw [r1.is_str],hz,q.now (.int _)⟩
 ·cases e⟩
def xN:tz6
 |[.int i,.int j]=>some (.int (if j<i then j else i))
 |_=>none
theorem ym3(hc:X.calm=true):CallR X (.builtin "min") (PCl X.K U xN):=⟨by
 rintro pins s σ H vs us Q I r ⟨ds,fp,d,rs,e,q⟩
 unfold xN at e
 split at e
 ·cases e
  obtain⟨v,u,f,g,rfl,r1,r2⟩:=rs.two_inv
  exact yk0 hc pins s σ H _ us Q I r ⟨_,_,by rw [r1.is_int,r2.is_int],q.now (.int _)⟩
 ·cases e⟩
def dTy:D->Option String
 | .non=>some "NoneType"
 | .bl _=>some "bool"
 | .int _=>some "int"
 | .str _=>some "str"
 | .lst _ _=>some "list"
 | .tup _=>some "tuple"
 | .dic true _ _=>some "dict"
 |_=>none
def nZ:tz6
 |[x,.ty c]=>(dTy x).bind fun t=>if c∈["bool","int","str","list","tuple","dict"] then some (.bl (xM t c)) else none
 |_=>none
theorem xo7{K:tz0}{H:Hp}{v:V}{d:D}{fp:List Addr}{t:String}(r:Rep K U H v d fp)(h:dTy d=some t):(tK H v=some t\/(t="tuple"/\∃a xs,v= .ref a/\SqT K H a xs)):=by
 cases r with
 |non=>cases h;exact .inl rfl
 |bl _=>cases h;exact .inl rfl
 |int _=>cases h;exact .inl rfl
 |str _=>cases h;exact .inl rfl
 |tup s _=>cases h;exact .inr ⟨rfl,_,_,rfl,s⟩
 |lst s _=>cases h;exact .inl (by simp [tK,s])
 |lstF s _=>cases h;exact .inl (by simp [tK,s])
 |dic s _ _=>cases h;exact .inl (by simp [tK,s])
 |_=>cases h
theorem ye2:CallR X (.builtin "isinstance") (PCl X.K U nZ):=⟨by
 rintro pins s σ H vs us Q I r ⟨ds,fp,d,rs,e,q⟩
 unfold nZ at e
 split at e
 ·obtain⟨t,e1,e2⟩:=bind_some e
  obtain⟨hc,e3⟩:=bQ e2
  cases e3
  obtain⟨v,u,f,g,rfl,r1,r2⟩:=rs.two_inv
  cases r2
  rcases xo7 r1 e1 with h|⟨rfl,a,xs,rfl,h⟩
  ·exact yu0 pins s σ H _ us Q I r ⟨_,_,t,rfl,h,hc,q.now (.bl _)⟩
  ·obtain⟨u1,u2,rfl,rx,rc⟩:=zk1 r
   cases(show u2=Value.type _ from rc)
   cases(show u1=Value.ref a from rx)
   obtain⟨its,rv,⟨o,h1,h2,_⟩,_⟩:=I.tuple h
   exact ZK W2 I.kIn ⟨o,h1,h2⟩ (zo4 X.K "tuple" (by decide) _ hc) (fun z=>nomatch z) fun tk=>⟨.bl _,H,I.tok tk,rfl,q.now (.bl _)⟩
 ·cases e⟩
def fO:tz6
 |[.lst _ xs]=>if D.imms xs=true then some (.tup xs) else none
 |[.tup xs]=>some (.tup xs)
 |_=>none
theorem nU:CallR X (.type "tuple") (PCl X.K U fO):=⟨by
 rintro pins s σ H vs us Q I r ⟨ds,fp,d,rs,e,q⟩
 unfold fO at e
 split at e
 ·obtain⟨hc,e⟩:=bQ e
  cases e
  obtain⟨v,rfl,r1⟩:=rs.one_inv
  obtain⟨a,ws,g,rfl,h,hs,_⟩:=r1.lst_inv
  exact vE pins s σ H _ us Q I r ⟨a,ws,rfl,.inl ⟨.inl h,fun p hp=>zc1 hp (hs.pair hc) q⟩⟩
 ·cases e
  obtain⟨v,rfl,r1⟩:=rs.one_inv
  obtain⟨a,ws,rfl,h,hs⟩:=r1.tup_inv
  exact vE pins s σ H _ us Q I r ⟨a,ws,rfl,.inr ⟨h,q.now (.tup h hs)⟩⟩
 ·cases e⟩
def PMt(K:tz0)(U:tz9)(g:D->tz6):V->List V->Hp->VK->Prop:=fun x vs H Q=>∃dx ds fx fp d,Rep K U H x dx fx/\Reps K U H vs ds fp/\g dx ds=some d/\kF K U H d Q
def zl3:D->Bool
 | .str _=>true
 |_=>false
def fMt(h:D->tz6)(f:tz2)(g:tz3):tz2:=fun ps=>(f ps).bind fun x=>(g ps).bind fun ds=>if zl3 x=true then h x ds else none
theorem zk7{name:Str}{id:String}{apos:Pos}{h:D->tz6}(slot:Slot "str" name id)(hty:typeOf (.builtin id)=pure (.type "method_descriptor"))(hm:MtR X id (PMt X.K U h))(ho:QV X U a fa)(ha:QVA X U (e::es) g)
  (hbase:attributeBase a name X.env (eval a X.env)=eval a X.env:=by rfl)
  (hfew:((backTo pos (starEach (e::es) X.env)).all (fun x=> !x.1)&&(backToKw pos (keywordEach [] X.env)).all (fun x=>x.1.isSome)
   &&decide ((e::es).length+([]:List Keyword).length+(if ([]:List Keyword).isEmpty then 0 else 1)<30))=true:=by rfl)
  (hline:(apos.endLine==pos.line)=true:=by rfl) (hs:StE e es X:=by rfl) (hplain:BkE pos es X:=by rfl):
  QP X U (.Call (.Attribute a name apos) (e::es) [] pos) (fMt h fa g):=
 (xc1 XR slot hty hm ho ha hbase hfew hline hs hplain).imp fun σ H Q hh_=>by
  obtain⟨ps,d,w,e,q⟩:=hh_
  obtain⟨x,e1,e2⟩:=bind_some e
  obtain⟨ds,e3,e4⟩:=bind_some e2
  obtain⟨hc,e5⟩:=bQ e4
  refine⟨ps,x,w,e1,fun v H1 fp s1 r1=>⟨?_,ps,ds,w.same s1,e3,fun vs H2 fq s2 r2=>⟨x,ds,fp,fq,d,r1.same s2,r2,e5,q.after (s1.trans s2)⟩⟩⟩
  cases x with
  |str z=>rw [r1.is_str];rfl
  |_=>cases hc
def xO(l:List Str):List D:=l.map .str
theorem zg2{K:tz0}{H:Hp}:∀l:List Str,Paired (fun v d=>Rep K U H v d []) (l.map V.str) (xO l)
 |[]=> .nil
 |x::l=> .cons (.str x) (zg2 l)
def za0:D->tz6
 | .str z,[.str y]=>if ((y.length==0)=false/\z.length<1000000) then some (.lst true (xO (Txt.split z y))) else none
 |_,_=>none
theorem xg3:MtR X "str.split" (PMt X.K U za0):=⟨by
 rintro pins s σ H x vs v us Q I rx r ⟨dx,ds,fx,fp,d,r1,rs,e,q⟩
 unfold za0 at e
 split at e
 ·obtain⟨hc,e⟩:=bQ e
  cases e
  obtain⟨w,rfl,r2⟩:=rs.one_inv
  exact yu1 pins s σ H x _ v us Q I rx r ⟨_,_,r1.is_str,by rw [r2.is_str],hc.1,hc.2,fun p hp=>zc0 hp (zg2 _) q⟩
 ·cases e⟩
end
structure Fx where
 K:tz0
 U:tz9
 bor:Nat->Bool
 M:Nat->Bool
 B:Nat->Addr->Prop
structure RS(φ:Fx)(H:Hp)(σ:St)(ps:PSt)(F:Nat->List Addr):Prop where
 rep:∀(i:Nat) (d:D),ps[i]? =some (some d)->∃v fp,σ[i]? =some (some v)/\Rep φ.K φ.U H v d fp/\(φ.bor i=false->fp=F i)/\(φ.bor i=true->∀a∈fp,φ.B i a)
 emp:∀i a,a∈F i->φ.bor i=false/\∃d,ps[i]? =some (some d)
 dis:∀i j a,a∈F i->a∈F j->i=j
 nd:∀i,(F i).Nodup
 nb:∀i a,a∈F i->∀k,¬φ.B k a
 bt:∀k a,φ.B k a->H a≠none
 len:ps.length<=σ.length
structure Frm(F:Nat->List Addr)(H H':Hp):Prop where
 keep:∀a o,H a=some o->kd o=true->(∀i,a∉F i)->H' a=some o
 grow:∀a,H' a=none->H a=none
structure Stp(φ:Fx)(σ:St)(H:Hp)(F:Nat->List Addr)(σ':St)(H':Hp)(ps':PSt)(F':Nat->List Addr):Prop where
 fr:Frm F H H'
 nw:∀i a,a∈F' i->(∃j,a∈F j)\/H a=none
 rs:RS φ H' σ' ps' F'
 msk:∀i,φ.M i=true->σ'[i]? =σ[i]?
structure OwnV(F:Nat->List Addr)(H:Hp)(F':Nat->List Addr)(fv:List Addr):Prop where
 nw:∀a∈fv,(∃j,a∈F j)\/H a=none
 nd:fv.Nodup
 dis:∀i,∀a∈F' i,a∉fv
section
variable{φ:Fx}{H H' H1 H2:Hp}{σ σ1 σ2:St}{ps ps1 ps2:PSt}{F F1 F2:Nat->List Addr}
theorem RS.own(R:RS φ H σ ps F){i:Nat}{a:Addr}(h:a∈F i):∃o,H a=some o/\kd o=true/\tf o=false:=by
 obtain⟨b,d,e⟩:=R.emp i a h
 obtain⟨v,fp,_,r,q,_⟩:=R.rep i d e
 rw [<-q b] at h
 exact r.own a h
theorem RS.ws(R:RS φ H σ ps F):WS φ.K φ.U H σ ps:=fun i d h=>by
 obtain⟨v,fp,h1,h2,_⟩:=R.rep i d h
 exact⟨v,fp,h1,h2⟩
theorem RS.same(R:RS φ H σ ps F)(s:SameK H H'):RS φ H' σ ps F:=
 ⟨fun i d h=>by obtain⟨v,fp,h1,h2,h3⟩:=R.rep i d h;exact⟨v,fp,h1,h2.same s,h3⟩,R.emp,R.dis,R.nd,R.nb,fun k a h z=>R.bt k a h (s.grow a z),R.len⟩
theorem RS.notB(R:RS φ H σ ps F){a:Addr}(h:(∃j,a∈F j)\/H a=none):∀k,¬φ.B k a:=fun k hb=>h.elim (fun⟨j,hj⟩=>R.nb j a hj k hb) fun z=>R.bt k a hb z
theorem Stp.same(R:RS φ H σ ps F)(s:SameK H H'):Stp φ σ H F σ H' ps F:=
 ⟨⟨fun a o h k _=>s.keep a o h k,s.grow⟩,fun i a h=> .inl ⟨i,h⟩,R.same s,fun _ _=>rfl⟩
theorem Stp.refl(R:RS φ H σ ps F):Stp φ σ H F σ H ps F:= .same R (.refl H)
theorem Stp.trans(s1:Stp φ σ H F σ1 H1 ps1 F1)(s2:Stp φ σ1 H1 F1 σ2 H2 ps2 F2):Stp φ σ H F σ2 H2 ps2 F2:=by
 refine⟨⟨fun a o h k n=>s2.fr.keep a o (s1.fr.keep a o h k n) k fun i hi=> ?_,fun a h=>s1.fr.grow a (s2.fr.grow a h)⟩,fun i a h=> ?_,s2.rs,fun i h=>(s2.msk i h).trans (s1.msk i h)⟩
 ·rcases s1.nw i a hi with ⟨j,hj⟩|z
  ·exact n j hj
  ·rw [h] at z;cases z
 ·rcases s2.nw i a h with ⟨j,hj⟩|z
  ·exact s1.nw j a hj
  ·exact .inr (s1.fr.grow a z)
theorem OwnV.after(s1:Stp φ σ H F σ1 H1 ps1 F1)(o:OwnV F1 H1 F2 fv):OwnV F H F2 fv:=
 ⟨fun a ha=>(o.nw a ha).elim (fun⟨j,hj⟩=>s1.nw j a hj) fun z=> .inr (s1.fr.grow a z),o.nd,o.dis⟩
theorem OwnV.new(R:RS φ H σ ps F)(n:∀a∈fv,H a=none)(nd:fv.Nodup):OwnV F H F fv:=
 ⟨fun a ha=> .inr (n a ha),nd,fun i a ha hb=>by obtain⟨o,h,_⟩:=R.own ha;rw [n a hb] at h;cases h⟩
def lR(F:Nat->List Addr)(i:Nat)(fv:List Addr):Nat->List Addr:=fun j=>if j=i then fv else F j
theorem eR:lR F i fv i=fv:=by simp [lR]
theorem eV(h:j≠i):lR F i fv j=F j:=by simp [lR,h]
theorem jN(h:a∈lR F i fv j):a∈fv\/a∈F j:=by
 by_cases e:j=i
 ·subst e;rw [eR] at h;exact .inl h
 ·rw [eV e] at h;exact .inr h
theorem RS.drop(R:RS φ H σ ps F)(i:Nat):RS φ H σ (ps.set i none) (lR F i []):=by
 have eF:∀j a,a∈lR F i [] j->j≠i/\a∈F j:=fun j a h=>by
  by_cases e:j=i
  ·subst e;rw [eR] at h;exact absurd h (by simp)
  ·rw [eV e] at h;exact⟨e,h⟩
 refine⟨fun j d h=> ?_,fun j a h=> ?_,fun j k a h1 h2=>R.dis j k a (eF j a h1).2 (eF k a h2).2,fun j=> ?_,fun j a h=>R.nb j a (eF j a h).2,R.bt,by simpa using R.len⟩
 ·have e:j≠i:=by
   rintro rfl
   by_cases hj:j<ps.length
   ·rw [Zx hj] at h;cases h
   ·rw [YS (by simpa using hj)] at h;cases h
  rw [Zs (fun z=>e z.symm)] at h
  rw [eV e]
  exact R.rep j d h
 ·obtain⟨e,h⟩:=eF j a h
  obtain⟨b,d,q⟩:=R.emp j a h
  exact⟨b,d,by rw [Zs (fun z=>e z.symm)];exact q⟩
 ·by_cases e:j=i
  ·subst e;rw [eR];exact Zf
  ·rw [eV e];exact R.nd j
theorem RS.set(R:RS φ H σ ps F){i:Nat}{v:V}{d:D}{fv:List Addr}(r:Rep φ.K φ.U H v d fv)(hb:φ.bor i=false\/fv=[])(hd:∀j,j≠i->∀a∈F j,a∉fv)(hn:fv.Nodup)(hB:∀a∈fv,∀k,¬φ.B k a):
  RS φ H (σ.set i (some v)) (ps.set i (some d)) (lR F i (if i<ps.length then fv else [])):=by
 by_cases hi:i<ps.length
 ·rw [if_pos hi]
  have hl:=R.len
  refine⟨fun j d' h=> ?_,fun j a h=> ?_,fun j k a h1 h2=> ?_,fun j=> ?_,fun j a h=> ?_,R.bt,by simpa using R.len⟩
  ·by_cases e:j=i
   ·subst e
    rw [Zx hi] at h
    cases h
    refine⟨v,fv,by rw [Zx (by omega)],r,fun _=>eR.symm,fun z=> ?_⟩
    rcases hb with q|q
    ·rw [q] at z;cases z
    ·subst q;intro a ha;exact absurd ha (by simp)
   ·rw [Zs (fun z=>e z.symm)] at h|-
    rw [eV e]
    exact R.rep j d' h
  ·by_cases e:j=i
   ·subst e
    rw [eR] at h
    refine⟨?_,d,by rw [Zx hi]⟩
    rcases hb with q|q
    ·exact q
    ·subst q;exact absurd h (by simp)
   ·rw [eV e] at h
    obtain⟨b,d',q⟩:=R.emp j a h
    exact⟨b,d',by rw [Zs (fun z=>e z.symm)];exact q⟩
  ·by_cases e1:j=i
   ·by_cases e2:k=i
    ·rw [e1,e2]
    ·subst e1;rw [eR] at h1;rw [eV e2] at h2;exact absurd h1 (hd k e2 a h2)
   ·by_cases e2:k=i
    ·subst e2;rw [eR] at h2;rw [eV e1] at h1;exact absurd h2 (hd j e1 a h1)
    ·rw [eV e1] at h1;rw [eV e2] at h2;exact R.dis j k a h1 h2
  ·by_cases e:j=i
   ·subst e;rw [eR];exact hn
   ·rw [eV e];exact R.nd j
  ·rcases jN h with z|z
   ·exact hB a z
   ·exact R.nb j a z
 ·rw [if_neg hi]
  have e0:ps.set i (some d)=ps:=XH (by omega)
  rw [e0]
  have R':=R.drop i
  rw [XH (by omega)] at R'
  refine⟨fun j d' h=> ?_,R'.emp,R'.dis,R'.nd,R'.nb,R'.bt,by simpa using R.len⟩
  have hj:j≠i:=by
   rintro rfl
   have:=(Z7.mp h).1
   omega
  rw [Zs (fun z=>hj z.symm)]
  exact R'.rep j d' h
theorem Stp.set(s1:Stp φ σ H F σ1 H1 ps1 F1)(o:OwnV F H F1 fv)(R:RS φ H σ ps F)(r:Rep φ.K φ.U H1 v d fv)(hb:φ.bor i=false\/fv=[])(hm:φ.M i=false):
  ∃F',Stp φ σ H F (σ1.set i (some v)) H1 (ps1.set i (some d)) F':=by
 refine⟨_,s1.fr,fun j a h=> ?_,s1.rs.set r hb (fun j _=>o.dis j) o.nd fun a ha=>R.notB (o.nw a ha),fun j h=> ?_⟩
 ·rcases jN h with z|z
  ·by_cases k:i<ps1.length
   ·rw [if_pos k] at z;exact o.nw a z
   ·rw [if_neg k] at z;exact absurd z (by simp)
  ·exact s1.nw j a z
 ·rw [Zs (fun z=>by subst z;rw [hm] at h;cases h)]
  exact s1.msk j h
end
inductive Fl where
 |nx|bk|ct|ret (d:D)
abbrev _root_.tz1:=PSt->Option (Fl×PSt)
def uX(φ:Fx)(E:Ends)(σ:St)(H:Hp)(F:Nat->List Addr)(fl:Fl)(ps':PSt):Prop:=match fl with
 | .nx=>∀σ' H' F',Stp φ σ H F σ' H' ps' F'->E.nx σ' H'
 | .bk=>∀σ' H' F',Stp φ σ H F σ' H' ps' F'->E.bk σ' H'
 | .ct=>∀σ' H' F',Stp φ σ H F σ' H' ps' F'->E.ct σ' H'
 | .ret d=>∀v σ' H' F' fv,Stp φ σ H F σ' H' ps' F'->OwnV F H F' fv->Rep φ.K φ.U H' v d fv->E.rt v H'
def tS(φ:Fx)(f:tz1):TS:=fun E σ H=>∃ps F fl ps',RS φ H σ ps F/\f ps=some (fl,ps')/\uX φ E σ H F fl ps'
def tE(φ:Fx)(f:tz8):TE:=fun σ H Q=>∃ps F d ps',RS φ H σ ps F/\f ps=some (d,ps')/\∀v H' F' fv,Stp φ σ H F σ H' ps' F'->OwnV F H F' fv->Rep φ.K φ.U H' v d fv->Q v H'
def tTE(φ:Fx)(f:PSt->Option (Bool×PSt)):TT:=fun σ H Q=>∃ps F b ps',RS φ H σ ps F/\f ps=some (b,ps')/\∀H' F',Stp φ σ H F σ H' ps' F'->Q b H'
structure F0 where
 bor:Nat->Bool
 M:Nat->Bool
 B:Nat->Addr->Prop
def F0.fx(φ:F0)(K:tz0)(U:tz9):Fx:=⟨K,U,φ.bor,φ.M,φ.B⟩
abbrev QS(X:Cx)(U:tz9)(φ:F0)(st:Stmt)(f:tz1):Prop:=PS X st (tS (φ.fx X.K U) f)
abbrev QSs(X:Cx)(U:tz9)(φ:F0)(st:List Stmt)(f:tz1):Prop:=PSs X st (tS (φ.fx X.K U) f)
abbrev QE(X:Cx)(U:tz9)(φ:F0)(e:Expr)(f:tz8):Prop:=PE X e (tE (φ.fx X.K U) f)
abbrev QTE(X:Cx)(U:tz9)(φ:F0)(e:Expr)(f:PSt->Option (Bool×PSt)):Prop:=PT X e (tTE (φ.fx X.K U) f)
theorem qQ(s1:Stp φ σ H F σ1 H1 ps1 F1)(e:f ps1=some (fl,ps2))(q:uX φ E σ H F fl ps2):tS φ f E σ1 H1:=by
 refine⟨ps1,F1,fl,ps2,s1.rs,e,?_⟩
 cases fl with
 |nx=>exact fun σ' H' F' s=>q σ' H' F' (s1.trans s)
 |bk=>exact fun σ' H' F' s=>q σ' H' F' (s1.trans s)
 |ct=>exact fun σ' H' F' s=>q σ' H' F' (s1.trans s)
 |ret d=>exact fun v σ' H' F' fv s o r=>q v σ' H' F' fv (s1.trans s) (o.after s1) r
def bP:tz1:=fun ps=>some (.nx,ps)
def aR(f g:tz1):tz1:=fun ps=>(f ps).bind fun r=>match r with
 |(.nx,ps')=>g ps'
 |(.bk,ps')=>some (.bk,ps')
 |(.ct,ps')=>some (.ct,ps')
 |(.ret d,ps')=>some (.ret d,ps')
section
variable{X:Cx}{U:tz9}{φ:F0}{st:Stmt}{rest:List Stmt}{f g:tz1}{pos:Pos}
theorem bZ:QSs X U φ [] bP:=zx2.imp fun E σ H ⟨ps,F,fl,ps',R,e,q⟩=>by cases e;exact q σ H F (.refl R)
theorem aP(h:QS X U φ st f):QSs X U φ [st] f:=wY h
theorem aO(h1:QS X U φ st f)(h2:QSs X U φ rest g):QSs X U φ (st::rest) (aR f g):=
 (mG h1 h2).imp fun E σ H hh_=>by
  obtain⟨ps,F,fl,ps',R,e,q⟩:=hh_
  obtain⟨⟨fl1,ps1⟩,e1,e2⟩:=bind_some e
  refine⟨ps,F,fl1,ps1,R,e1,?_⟩
  cases fl1 with
  |nx=>exact fun σ' H' F' s=>qQ s e2 q
  |bk=>cases e2;exact q
  |ct=>cases e2;exact q
  |ret d=>cases e2;exact q
def aH(f:tz2):tz8:=fun ps=>(f ps).bind fun d=>some (d,ps)
theorem QP.e{e:Expr}{f:tz2}(h:PE X e (tP X.K U f)):QE X U φ e (aH f):=h.imp fun σ H Q hh_=>by
 obtain⟨ps,F,d,ps',R,e,q⟩:=hh_
 obtain⟨d1,e1,e2⟩:=bind_some e
 cases e2
 exact⟨ps,_,R.ws,e1,fun v H' fv s n nd r=>q v H' F fv (.same R s) (.new R n nd) r⟩
def aY(f:tz4):PSt->Option (Bool×PSt):=fun ps=>(f ps).bind fun d=>some (d,ps)
theorem QT.e{e:Expr}{f:tz4}(h:PT X e (tQ X.K U f)):QTE X U φ e (aY f):=h.imp fun σ H Q hh_=>by
 obtain⟨ps,F,d,ps',R,e,q⟩:=hh_
 obtain⟨d1,e1,e2⟩:=bind_some e
 cases e2
 exact⟨ps,_,R.ws,e1,fun H' s=>q H' F (.same R s)⟩
def aS(i:Nat)(f:tz8):tz1:=fun ps=>(f ps).bind fun r=>some (.nx,r.2.set i (some r.1))
theorem zp1(i:Nat){x:Str}{e:Expr}{pos':Pos}{f:tz8}(hN:X.N.Nodup)(hi:X.N[i]? =some x)(hx:Loc X.env.scope x)(hb:φ.bor i=false)(hm:φ.M i=false)(he:QE X U φ e f)(hs:swapsWith e (some (.Name x pos')) pos.line X.env=pure false:=by rfl)(hf:X.fn x=true\/X.env.scope.names.lookup x=some .local:=by first|exact .inl rfl|exact .inr rfl|assumption):
  QS X U φ (.Assign [.Name x pos'] e pos) (aS i f):=(qL hN hi hx he hs hf).imp fun E σ H hh_=>by
 obtain⟨ps,F,fl,ps',R,e,q⟩:=hh_
 obtain⟨⟨d,ps1⟩,e1,e2⟩:=bind_some e
 cases e2
 refine⟨ps,F,d,ps1,R,e1,fun v H' F' fv s o r=> ?_⟩
 obtain⟨F2,s2⟩:=s.set o R r (.inl hb) hm (i:=i)
 exact q _ _ F2 s2
def za1(i:Nat)(f:tz8):tz1:=fun ps=>(f ps).bind fun r=>if r.1.imm=true then some (.nx,r.2.set i (some r.1)) else none
theorem xg4(i:Nat){x:Str}{e:Expr}{pos':Pos}{f:tz8}(hN:X.N.Nodup)(hi:X.N[i]? =some x)(hx:Loc X.env.scope x)(hm:φ.M i=false)(he:QE X U φ e f)(hs:swapsWith e (some (.Name x pos')) pos.line X.env=pure false:=by rfl)(hf:X.fn x=true\/X.env.scope.names.lookup x=some .local:=by first|exact .inl rfl|exact .inr rfl|assumption):
  QS X U φ (.Assign [.Name x pos'] e pos) (za1 i f):=(qL hN hi hx he hs hf).imp fun E σ H hh_=>by
 obtain⟨ps,F,fl,ps',R,e,q⟩:=hh_
 obtain⟨⟨d,ps1⟩,e1,e2⟩:=bind_some e
 obtain⟨hc,e3⟩:=bQ e2
 cases e3
 refine⟨ps,F,d,ps1,R,e1,fun v H' F' fv s o r=> ?_⟩
 obtain⟨F2,s2⟩:=s.set o R r (.inr (r.imm hc)) hm (i:=i)
 exact q _ _ F2 s2
def dA(f:tz8):tz1:=fun ps=>(f ps).bind fun r=>some (.nx,r.2)
theorem gL{e:Expr}{f:tz8}(he:QE X U φ e f)(hs:swapsWith e none pos.line X.env=pure false:=by rfl):QS X U φ (.Expr e pos) (dA f):=(xe3 he hs).imp fun E σ H hh_=>by
 obtain⟨ps,F,fl,ps',R,e,q⟩:=hh_
 obtain⟨⟨d,ps1⟩,e1,e2⟩:=bind_some e
 cases e2
 exact⟨ps,F,d,ps1,R,e1,fun v H' F' fv s o r=>q _ _ F' s⟩
def bR(f:tz8):tz1:=fun ps=>(f ps).bind fun r=>some (.ret r.1,r.2)
theorem bO{e:Expr}{f:tz8}(he:QE X U φ e f):QS X U φ (.Return (some e) pos) (bR f):=(vM he).imp fun E σ H hh_=>by
 obtain⟨ps,F,fl,ps',R,e,q⟩:=hh_
 obtain⟨⟨d,ps1⟩,e1,e2⟩:=bind_some e
 cases e2
 exact⟨ps,F,d,ps1,R,e1,fun v H' F' fv s o r=>q v σ H' F' fv s o r⟩
def rY(i:Nat):tz1:=fun ps=>((ps[i]?).join).bind fun d=>some (.ret d,ps.set i none)
theorem join_some{ps:PSt}{i:Nat}{d:D}(h:(ps[i]?).join=some d):ps[i]? =some (some d):=by
 cases q:ps[i]? with
 |none=>rw [q] at h;cases h
 |some o=>rw [q] at h;exact ZS some h
theorem qH(i:Nat){x:Str}{p:Pos}(hb:φ.bor i=false)(hN:X.N[i]? =some x:=by rfl)(hv:Vis X.env.scope x:=by first|exact Or.inl rfl|exact Or.inr (Or.inl rfl)|exact Or.inr (Or.inr rfl))(hd:NDb x:=by decide)
  (hcd:(x==("__classdict__":Str))=false:=by decide):QS X U φ (.Return (some (.Name x p)) pos) (rY i):=(vM (sP hN hv hd hcd)).imp fun E σ H hh_=>by
 obtain⟨ps,F,fl,ps',R,e,q⟩:=hh_
 obtain⟨d,e1,e2⟩:=bind_some e
 cases e2
 obtain⟨v,fp,h1,h2,h3,_⟩:=R.rep i d (join_some e1)
 have h3:=h3 hb
 subst h3
 refine⟨v,h1,q v σ H (lR F i []) (F i) ⟨⟨fun a o h _ _=>h,fun a h=>h⟩,fun j a h=> ?_,R.drop i,fun _ _=>rfl⟩ ⟨fun a h=> .inl ⟨i,h⟩,R.nd i,fun j a h1 h2=> ?_⟩ h2⟩
 ·rcases jN h with z|z
  ·exact absurd z (by simp)
  ·exact .inl ⟨j,z⟩
 ·rcases jN h1 with z|z
  ·exact absurd z (by simp)
  ·have:=R.dis j i a z h2
   subst this
   rw [eR] at h1;exact absurd h1 (by simp)
def fIf(c:PSt->Option (Bool×PSt))(f g:tz1):tz1:=fun ps=>(c ps).bind fun r=>if r.1=true then f r.2 else g r.2
theorem cC(hc:QTE X U φ c tc)(ha:QSs X U φ a f)(hb:QSs X U φ b g):QS X U φ (.If c a b pos) (fIf tc f g):=(xb9 hc ha hb).imp fun E σ H hh_=>by
 obtain⟨ps,F,fl,ps',R,e,q⟩:=hh_
 obtain⟨⟨k,ps1⟩,e1,e2⟩:=bind_some e
 refine⟨ps,F,k,ps1,R,e1,fun H' F' s=> ?_⟩
 cases k with
 |true=>rw [if_pos rfl] at e2|-;exact qQ s e2 q
 |false=>rw [if_neg Z8] at e2|-;exact qQ s e2 q
end
def kU(c:PSt->Option (Bool×PSt))(f:tz1):Nat->tz1
 |0,_=>none
 | n+1,ps=>(c ps).bind fun r=>if r.1=true then(f r.2).bind fun q=>match q with
   |(.nx,p)=>kU c f n p
   |(.ct,p)=>kU c f n p
   |(.bk,p)=>some (.nx,p)
   |(.ret d,p)=>some (.ret d,p)
  else some (.nx,r.2)
section
variable{X:Cx}{φ:Fx}{pos:Pos}{body:List Stmt}{f:tz1}
theorem uX.back(s1:Stp φ σ H F σ1 H1 ps1 F1)(q:uX φ E σ H F fl ps2):uX φ E σ1 H1 F1 fl ps2:=by
 cases fl with
 |nx=>exact fun σ' H' F' s=>q σ' H' F' (s1.trans s)
 |bk=>exact fun σ' H' F' s=>q σ' H' F' (s1.trans s)
 |ct=>exact fun σ' H' F' s=>q σ' H' F' (s1.trans s)
 |ret d=>exact fun v σ' H' F' fv s o r=>q v σ' H' F' fv (s1.trans s) (o.after s1) r
def xz9(φ:Fx)(σ:St)(H:Hp)(F:Nat->List Addr)(tc:PSt->Option (Bool×PSt))(f:tz1)(fl:Fl)(ps':PSt)(m:Nat)(σ1:St)(H1:Hp):Prop:=∃ps1 F1,Stp φ σ H F σ1 H1 ps1 F1/\kU tc f m ps1=some (fl,ps')
theorem yu7{U:tz9}{φ:F0}(n:Nat){c:Expr}{tc:PSt->Option (Bool×PSt)}(hp:PassesOwn (model X.prog X.w) X.A X.env X.xe)(hc:QTE X U φ c tc)(hb:QSs X U φ body f):QS X U φ (.While c body [] pos) (kU tc f n):=
 (ys5 hp hc hb).imp fun E σ H hh_=>by
  obtain⟨ps,F,fl,ps',R,e,q⟩:=hh_
  refine⟨xz9 (φ.fx X.K U) σ H F tc f fl ps',⟨n,ps,F,.refl R,e⟩,?_⟩
  rintro m σ1 H1 ⟨ps1,F1,s1,e1⟩
  cases m with
  |zero=>cases e1
  | succ m=>
   rw [kU] at e1
   obtain⟨⟨k,ps2⟩,e2,e3⟩:=bind_some e1
   refine⟨ps1,F1,k,ps2,s1.rs,e2,fun H2 F2 s2=> ?_⟩
   have s12:=s1.trans s2
   cases k with
   |true=>
    dsimp only at e3|-
    rw [if_pos rfl] at e3|-
    obtain⟨⟨fl3,ps3⟩,e4,e5⟩:=bind_some e3
    refine⟨fun σ' H'=>∃F',Stp (φ.fx X.K U) σ1 H2 F2 σ' H' ps3 F'/\kU tc f m ps3=some (fl,ps'),fun σ' H' ⟨F',s,e⟩=>⟨m,Xd m,ps3,F',s12.trans s,e⟩,?_⟩
    refine⟨ps2,F2,fl3,ps3,s2.rs,e4,?_⟩
    cases fl3 with
    |nx=>exact fun σ' H' F' s=>⟨F',s,e5⟩
    |ct=>exact fun σ' H' F' s=>⟨F',s,e5⟩
    |bk=>cases e5;exact fun σ' H' F' s=>q σ' H' F' (s12.trans s)
    |ret d=>cases e5;exact fun v σ' H' F' fv s o r=>q v σ' H' F' fv (s12.trans s) (o.after s12) r
   |false=>
    dsimp only at e3|-
    rw [if_neg Z8] at e3|-
    cases e3
    exact q _ _ F2 s12
end
def pO(Z:List Addr)(H H':Hp):Prop:=∀a o,H a=some o->(tf o=true\/(kd o=true/\a∈Z))->H' a=some o
structure Walk(K:tz0)(U:tz9)(J:It)(Z:List Addr)(H1:Hp)(ds:List D):Prop where
 go:∀H',pO Z H1 H'->∀(i:Nat) d,ds[i]? =some d->J.go i H'/\∀x H2,J.yld i H' x H2->H2=H'/\Rep K U H' x d []
 stop:∀H',pO Z H1 H'->J.stop ds.length H'
def tIV(K:tz0)(U:tz9)(f:tz3):TI:=fun σ H R=>∃ps ds,WS K U H σ ps/\f ps=some ds/\∀J H1 Z,SameK H H1->Walk K U J Z H1 ds->R J H1
def tIP(K:tz0)(U:tz9)(f:tz3):TI:=fun σ H R=>∃ps ds,WS K U H σ ps/\f ps=some ds/\∀J H1 Z,SameK H H1->(∀a∈Z,H a=none/\H1 a≠none)->Walk K U J Z H1 ds->R J H1
theorem pO.sq{K:tz0}{Z:List Addr}{H H':Hp}{a:Addr}{vs:List V}(k:pO Z H H')(h:Rd H a (.lst vs))(hz:H a=some (.lst vs)->a∈Z):SqL K H' a vs:=by
 rcases h with h|⟨o,h⟩
 ·exact .inl (.inl (k a _ h (.inr ⟨rfl,hz h⟩)))
 ·exact .inl (.inr ⟨o,k a _ h (.inl rfl)⟩)
theorem pO.rep{K:tz0}{U:tz9}{Z:List Addr}{H H':Hp}{v:V}{d:D}(k:pO Z H H')(r:Rep K U H v d []):Rep K U H' v d []:=r.move (fun a o h t=>k a o h (.inl t)) fun a ha=>absurd ha (by simp)
theorem mJ:∀{l₁:List α} {l₂:List β} {i:Nat} {y:β},Paired R l₁ l₂->l₂[i]? =some y->∃x,l₁[i]? =some x/\R x y
 |_,_,_,_,.nil,e=>by simp at e
 |_,_,0,_,.cons h _,e=>by simp at e;subst e;exact⟨_,rfl,h⟩
 |_,_,i+1,_,.cons _ t,e=>by obtain⟨x,h1,h2⟩:=mJ (i:=i) t (by simpa using e);exact⟨x,by simpa using h1,h2⟩
section
variable{K:tz0}{U:tz9}{H1:Hp}{a:Addr}{vs:List V}{ds:List D}{Z:List Addr}
theorem zg3(h:Rd H1 a (.lst vs))(hz:H1 a=some (.lst vs)->a∈Z)(r:Paired (fun v d=>Rep K U H1 v d []) vs ds):Walk K U (Itl K a) Z H1 ds where
 go:=fun H' k i d e=>by
  obtain⟨x,e1,r1⟩:=mJ r e
  have sq:SqL K H' a vs:=k.sq h hz
  refine⟨⟨vs,x,sq,e1⟩,fun y H2 hy=>⟨hy.1,?_⟩⟩
  have e2:=hy.2 vs sq
  rw [e1] at e2;cases e2
  exact k.rep r1
 stop:=fun H' k=>⟨vs,k.sq h hz,by rw [ZC r];exact Z9 _⟩
theorem yu8(h:SqF K H1 a vs)(r:Paired (fun v d=>Rep K U H1 v d []) vs ds):Walk K U (Itl K a) Z H1 ds where
 go:=fun H' k i d e=>by
  obtain⟨x,e1,r1⟩:=mJ r e
  have sq:SqL K H' a vs:=(h.tf fun a o e t=>k a o e (.inl t)).l
  refine⟨⟨vs,x,sq,e1⟩,fun y H2 hy=>⟨hy.1,?_⟩⟩
  have e2:=hy.2 vs sq
  rw [e1] at e2;cases e2
  exact k.rep r1
 stop:=fun H' k=>⟨vs,(h.tf fun a o e t=>k a o e (.inl t)).l,by rw [ZC r];exact Z9 _⟩
theorem yu9(h:SqT K H1 a vs)(r:Paired (fun v d=>Rep K U H1 v d []) vs ds):Walk K U (Itt K a) Z H1 ds where
 go:=fun H' k i d e=>by
  obtain⟨x,e1,r1⟩:=mJ r e
  have sq:SqT K H' a vs:=h.tf fun a o e t=>k a o e (.inl t)
  refine⟨⟨vs,x,sq,e1⟩,fun y H2 hy=>⟨hy.1,?_⟩⟩
  have e2:=hy.2 vs sq
  rw [e1] at e2;cases e2
  exact k.rep r1
 stop:=fun H' k=>⟨vs,h.tf fun a o e t=>k a o e (.inl t),by rw [ZC r];exact Z9 _⟩
end
def eS(lo:Int)(n:Nat):List D:=(List.range n).map fun(k:Nat)=> .int (lo+(k:Int))
theorem zA{K:tz0}{U:tz9}{H1:Hp}{Z:List Addr}(lo:Int)(n:Nat):Walk K U (Itr lo n) Z H1 (eS lo n) where
 go:=fun H' _ i d e=>by
  have hi:=(Z7.mp e).1
  unfold eS at hi e
  rw [Zc,Y3] at hi
  rw [Zi,List.getElem?_range hi] at e
  cases e
  exact⟨hi,fun x H2 ⟨h1,h2⟩=>⟨h1,by rw [h2];exact .int _⟩⟩
 stop:=fun H' _=>by
  show n<=(eS lo n).length
  unfold eS
  rw [Zc,Y3];exact Z9 _
abbrev QIV(X:Cx)(U:tz9)(tg iter:Expr)(f:tz3):Prop:=PI X tg iter (tIV X.K U f)
abbrev QIP(X:Cx)(U:tz9)(tg iter:Expr)(f:tz3):Prop:=PI X tg iter (tIP X.K U f)
theorem PI.imp(h:PI X tg e t)(k:∀σ H Q,t' σ H Q->t σ H Q):PI X tg e t':=⟨fun pins s σ H Q I q=>h pins s σ H Q I (k σ H Q q)⟩
theorem QIP.v(h:QIP X U tg iter f):QIV X U tg iter f:=PI.imp h fun σ H R ⟨ps,ds,w,e,q⟩=>⟨ps,ds,w,e,fun J H1 Z s _ k=>q J H1 Z s k⟩
section
variable{X:Cx}{U:tz9}{tg l a b:Expr}{f:tz2}{g:tz3}{p pos:Pos}
def qB:List D->Option (List D)
 |[.int j]=>if (-(2^62)<=j/\j<2^62) then some (eS 0 j.toNat) else none
 |_=>none
def zl4:List D->Option (List D)
 |[.int i,.int j]=>if (-(2^62)<=i/\i<2^62/\ -(2^62)<=j/\j<2^62) then some (eS i (j-i).toNat) else none
 |_=>none
def iZ(g:tz3):tz3:=fun ps=>(g ps).bind qB
def za2(g:tz3):tz3:=fun ps=>(g ps).bind zl4
theorem oN(hg:Gl X "range")(hm:X.mg "range"=none)(ha:QVA X U [a] g)(hs:starEach [a] X.env=[(false,eval a X.env)]:=by rfl):QIP X U tg (.Call (.Name "range" p) [a] [] pos) (iZ g):=
 PI.imp (yj4 hg hm ha hs) fun σ H R hh_=>by
  obtain⟨ps,ds,w,e,q⟩:=hh_
  obtain⟨as,e1,e2⟩:=bind_some e
  refine⟨ps,as,w,e1,fun vs H1 fp s1 r1=> ?_⟩
  unfold qB at e2
  split at e2
  ·obtain⟨hc,e3⟩:=bQ e2
   cases e3
   obtain⟨v,rfl,r⟩:=r1.one_inv
   exact⟨_,by rw [r.is_int],hc.1,hc.2,q _ H1 [] s1 (fun _ h=>absurd h (by simp)) (zA _ _)⟩
  ·cases e2
theorem ym4(hg:Gl X "range")(hm:X.mg "range"=none)(ha:QVA X U [a,b] g)(hs:starEach [a,b] X.env=[(false,eval a X.env),(false,eval b X.env)]:=by rfl)(hs2:starEach [b] X.env=[(false,eval b X.env)]:=by rfl):QIP X U tg (.Call (.Name "range" p) [a,b] [] pos) (za2 g):=
 PI.imp (yj5 hg hm ha hs hs2) fun σ H R hh_=>by
  obtain⟨ps,ds,w,e,q⟩:=hh_
  obtain⟨as,e1,e2⟩:=bind_some e
  refine⟨ps,as,w,e1,fun vs H1 fp s1 r1=> ?_⟩
  unfold zl4 at e2
  split at e2
  ·obtain⟨hc,e3⟩:=bQ e2
   cases e3
   obtain⟨v,u,f,g,rfl,r,r'⟩:=r1.two_inv
   exact⟨_,_,by rw [r.is_int,r'.is_int],hc,q _ H1 [] s1 (fun _ h=>absurd h (by simp)) (zA _ _)⟩
  ·cases e2
def wa0(K:tz0)(tl:TE):TI:=fun σ H R=>tl σ H fun x H1=>∃a,x= .ref a/\(((∃xs,SqL K H1 a xs)/\R (Itl K a) H1)\/((∃xs,SqT K H1 a xs)/\R (Itt K a) H1))
theorem ym5(hl:PE X l tl):PI X tg l (wa0 X.K tl):=⟨by
 intro pins s σ H R I h
 refine thn (hl pins s σ H _ I h) fun v s1 ⟨x,H1,I1,r1,q1⟩=> ?_
 obtain⟨a,e,q1⟩:=q1
 subst e
 cases r1
 rcases q1 with ⟨⟨xs,hq⟩,q⟩|⟨⟨xs,hq⟩,q⟩
 ·obtain⟨its,rv,p,hz⟩:=I1.list hq
  refine wpAny_pyIter_list p.isList ?_
  refine⟨s1.heap.objs.size,[s1.heap.objs.size],_,_,H1,rfl,I1.kept (t':=s1.toks) fun b o e=>Zk _ e,yj3 a _,⟨_,Zv _ rfl,rfl,rfl⟩,fun b hb=> ?_,q⟩
  have e:b=s1.heap.objs.size:=by simpa using hb
  subst e
  exact I1.fpOk (Z9 _) (I1.hok.fresh (Z9 _))
 ·obtain⟨its,rv,p,hz⟩:=I1.tuple hq
  refine wpAny_pyIter_tuple (show s1.heap.IsTuple a its.toArray from p) ?_
  refine⟨s1.heap.objs.size,[s1.heap.objs.size],_,_,H1,rfl,I1.kept (t':=s1.toks) fun b o e=>Zk _ e,yc0 a _,⟨_,Zv _ rfl,rfl,rfl⟩,fun b hb=> ?_,q⟩
  have e:b=s1.heap.objs.size:=by simpa using hb
  subst e
  exact I1.fpOk (Z9 _) (I1.hok.fresh (Z9 _))⟩
def xb1:D->Option (List D)
 | .lst _ xs=>if D.imms xs=true then some xs else none
 | .tup xs=>some xs
 | .con xs=>some xs
 |_=>none
theorem zy4{K:tz0}{H:Hp}{v:V}{d:D}{fp:List Addr}{ds:List D}{R:It->Hp->Prop}(r:Rep K U H v d fp)(e:xb1 d=some ds)(q:∀J Z,(∀a∈Z,a∈fp)->Walk K U J Z H ds->R J H):
  ∃a,v= .ref a/\(((∃xs,SqL K H a xs)/\R (Itl K a) H)\/((∃xs,SqT K H a xs)/\R (Itt K a) H)):=by
 cases d with
 |lst o xs=>
  obtain⟨hc,e⟩:=bQ e
  cases e
  cases r with
  |lst h hs=>exact⟨_,rfl,.inl ⟨⟨_,.inl (.inl h)⟩,q _ [_] (fun a ha=>by simp at ha;subst ha;exact Z0) (zg3 (.inl h) (fun _=>by simp) (hs.pair hc))⟩⟩
  |lstF h hs=>exact⟨_,rfl,.inl ⟨⟨_,.inl (.inr ⟨_,h⟩)⟩,q _ [] (fun a ha=>absurd ha (by simp)) (zg3 (.inr ⟨_,h⟩) (fun z=>by rw [h] at z;cases z) (hs.pair hc))⟩⟩
 |tup xs=>
  cases e
  obtain⟨a,vs,rfl,h,hs⟩:=r.tup_inv
  exact⟨a,rfl,.inr ⟨⟨_,h⟩,q _ [] (fun a ha=>absurd ha (by simp)) (yu9 h hs.nilp)⟩⟩
 |con xs=>
  cases e
  obtain⟨a,vs,rfl,h,hs⟩:=r.con_inv
  exact⟨a,rfl,.inl ⟨⟨_,h.l⟩,q _ [] (fun a ha=>absurd ha (by simp)) (yu8 h hs.nilp)⟩⟩
 |_=>cases e
def gY(f:tz2):tz3:=fun ps=>(f ps).bind xb1
theorem xo8(h:QV X U l f):QIV X U tg l (gY f):=PI.imp (ym5 h) fun σ H R hh_=>by
 obtain⟨ps,ds,w,e,q⟩:=hh_
 obtain⟨d,e1,e2⟩:=bind_some e
 exact⟨ps,d,w,e1,fun v H1 fv s1 r1=>zy4 r1 e2 fun J Z _ k=>q J H1 Z s1 k⟩
end
def dM(i:Nat)(f:tz1):List D->tz1
 |[],ps=>some (.nx,ps)
 | d::ds,ps=>(f (ps.set i (some d))).bind fun q=>match q with
   |(.nx,p)=>dM i f ds p
   |(.ct,p)=>dM i f ds p
   |(.bk,p)=>some (.nx,p)
   |(.ret d,p)=>some (.ret d,p)
section
variable{X:Cx}{φ:Fx}{pos:Pos}{body:List Stmt}{f:tz1}
theorem Frm.kept(R:RS φ H σ ps F)(k:Frm F H H')(hz:∀a∈Z,∀i,a∉F i):pO Z H H':=fun a o h t=>by
 rcases t with t|⟨t1,t2⟩
 ·refine k.keep a o h (mH t) fun i hi=> ?_
  obtain⟨o',h',_,t'⟩:=R.own hi
  rw [h] at h';cases h';rw [t] at t';cases t'
 ·exact k.keep a o h t1 (hz a t2)
def xx0(J:It)(E:Ends)(V:Nat->Nat->St->Hp->Prop)(g:TG)(tb:TS)(k m:Nat)(σ:St)(H:Hp):Prop:=
 (J.stop k H/\E.nx σ H)\/(J.go k H/\∃N:St->Hp->Prop,(∀σ' H',N σ' H'->∃m',m'<m/\V (k+1) m' σ' H')/\∀x H',J.yld k H x H'->g x σ H' fun σ2 H2=>tb {E with nx:=N,ct:=N,bk:=E.nx} σ2 H2)
def wa1(φ:Fx)(σ:St)(H:Hp)(F:Nat->List Addr)(i:Nat)(f:tz1)(ds:List D)(fl:Fl)(ps':PSt)(k m:Nat)(σ1:St)(H1:Hp):Prop:=k<=ds.length/\m=ds.length-k/\∃ps1 F1,Stp φ σ H F σ1 H1 ps1 F1/\dM i f (ds.drop k) ps1=some (fl,ps')
theorem zp2(R:RS φ H σ ps F)(hz:∀a∈Z,H a≠none/\∀i,a∉F i)(W:Walk φ.K φ.U J Z H ds)(hb:φ.bor i=false)(hm:φ.M i=false)
  (e:dM i f ds ps=some (fl,ps')) (q:uX φ E σ H F fl ps'):∃V:Nat->Nat->St->Hp->Prop,(∃m,V 0 m σ H)/\∀k m σ H,V k m σ H->xx0 J E V (uW i) (tS φ f) k m σ H:=by
 refine⟨wa1 φ σ H F i f ds fl ps',⟨_,ZH _,rfl,ps,F,.refl R,by rw [Xz];exact e⟩,?_⟩
 rintro k m σ1 H1 ⟨hk,rfl,ps1,F1,s1,e1⟩
 have kp:pO Z H H1:=s1.fr.kept R fun a ha=>(hz a ha).2
 by_cases hlt:k<ds.length
 ·right
  have ed:ds[k]? =some ds[k]:=Zn hlt
  obtain⟨hgo,hy⟩:=W.go H1 kp k _ ed
  rw [ZO hlt,dM] at e1
  obtain⟨⟨fl2,ps2⟩,e2,e3⟩:=bind_some e1
  refine⟨hgo,fun σ' H'=>∃F',Stp φ σ H F σ' H' ps2 F'/\dM i f (ds.drop (k+1)) ps2=some (fl,ps'),fun σ' H' ⟨F',s,e⟩=>⟨ds.length-(k+1),by omega,hlt,rfl,ps2,F',s,e⟩,fun x H' y=> ?_⟩
  obtain⟨rfl,rx⟩:=hy x H' y
  obtain⟨F2,s2⟩:=(Stp.refl s1.rs).set (i:=i) (fv:=[]) (v:=x) (d:=ds[k]) ⟨fun _ h=>absurd h (by simp),Zf,fun _ _ _ h=>absurd h (by simp)⟩ s1.rs rx (.inl hb) hm
  have s12:=s1.trans s2
  refine⟨_,F2,fl2,ps2,s2.rs,e2,?_⟩
  cases fl2 with
  |nx=>exact fun σ' H' F' s=>⟨F',s12.trans s,e3⟩
  |ct=>exact fun σ' H' F' s=>⟨F',s12.trans s,e3⟩
  |bk=>cases e3;exact fun σ' H' F' s=>q σ' H' F' (s12.trans s)
  |ret d=>cases e3;exact fun v σ' H' F' fv s o r=>q v σ' H' F' fv (s12.trans s) (o.after s12) r
 ·left
  have ek:k=ds.length:=by omega
  subst ek
  rw [Xg,dM] at e1
  cases e1
  exact⟨W.stop H1 kp,q _ _ F1 s1⟩
def gF(i:Nat)(fi:tz3)(f:tz1):tz1:=fun ps=>(fi ps).bind fun ds=>dM i f ds ps
theorem oO{U:tz9}{φ:F0}(i:Nat){x:Str}{px:Pos}{iter:Expr}{fi:tz3}(hp:PassesOwn (model X.prog X.w) X.A X.env X.xe)(hc:X.calm=true)(hN:X.N.Nodup)(hi:X.N[i]? =some x)(hx:Loc X.env.scope x)(hb:φ.bor i=false)(hm:φ.M i=false)
  (hit:PI X (.Name x px) iter (tIP X.K U fi)) (hbd:QSs X U φ body f) (hs:∀x,foldedSetIterable iter X.env x=pure x:=by intro _;rfl) (hf:X.fn x=true\/X.env.scope.names.lookup x=some .local:=by first|exact .inl rfl|exact .inr rfl|assumption):
  QS X U φ (.For (.Name x px) iter body [] pos) (gF i fi f):=(zn6 hp hc hit (kD hN hi hx hf) hbd hs).imp fun E σ H hh_=>by
 obtain⟨ps,F,fl,ps',R,e,q⟩:=hh_
 obtain⟨ds,e1,e2⟩:=bind_some e
 refine⟨ps,ds,R.ws,e1,fun J H1 Z s1 hz W=> ?_⟩
 have s:=Stp.same R s1
 exact zp2 s.rs (fun a ha=>⟨(hz a ha).2,fun j hj=>by obtain⟨o,h,_⟩:=R.own hj;rw [(hz a ha).1] at h;cases h⟩) W hb hm e2 (q.back s)
def xt3(g:TG)(tb:TS)(E:Ends)(σ:St):It->Hp->Prop:=fun J H1=>∃W:Nat->Nat->St->Hp->Prop,(∃m,W 0 m σ H1)/\∀i m σ H,W i m σ H->
 (J.stop i H/\E.nx σ H)\/(J.go i H/\∃N:St->Hp->Prop,(∀σ' H',N σ' H'->∃m',m'<m/\W (i+1) m' σ' H')/\∀x H',J.yld i H x H'->g x σ H' fun σ2 H2=>tb {E with nx:=N,ct:=N,bk:=E.nx} σ2 H2)
theorem zc3{U:tz9}{φ:F0}(i j:Nat){x y:Str}{px py:Pos}(hp:PassesOwn (model X.prog X.w) X.A X.env X.xe)(hc:X.calm=true)(hN:X.N.Nodup)(hi:X.N[i]? =some x)(hx:Loc X.env.scope x)(hb:φ.bor i=false)(hm:φ.M i=false)(hj:φ.bor j=true)
  (hbd:QSs X U φ body f) (hNj:X.N[j]? =some y:=by rfl) (hv:Vis X.env.scope y:=by first|exact Or.inl rfl|exact Or.inr (Or.inl rfl)|exact Or.inr (Or.inr rfl)) (hd:NDb y:=by decide)
  (hcd:(y==("__classdict__":Str))=false:=by decide) (hs:∀x,foldedSetIterable (.Name y py) X.env x=pure x:=by intro _;rfl) (hf:X.fn x=true\/X.env.scope.names.lookup x=some .local:=by first|exact .inl rfl|exact .inr rfl|assumption):
  QS X U φ (.For (.Name x px) (.Name y py) body [] pos) (gF i (gY (aB j)) f):=(zn6 hp hc (ym5 (sP hNj hv hd hcd)) (kD hN hi hx hf) hbd hs).imp fun E σ H hh_=>by
 obtain⟨ps,F,fl,ps',R,e,q⟩:=hh_
 obtain⟨ds,e1,e2⟩:=bind_some e
 obtain⟨d,e3,e4⟩:=bind_some e1
 obtain⟨v,fp,h1,h2,_,h4⟩:=R.rep j d (join_some e3)
 refine⟨v,h1,?_⟩
 refine zy4 (R:=xt3 (uW i) (tS (φ.fx X.K U) f) E σ) h2 e4 fun J Z hz W=> ?_
 exact zp2 R (fun a ha=>⟨R.bt j a (h4 hj a (hz a ha)),fun k hk=>R.nb k a hk j (h4 hj a (hz a ha))⟩) W hb hm e2 q
end
def gP(np n:Nat)(f:tz1):tz6:=fun ds=>if ds.length=np then(f (ds.map some++List.replicate n none)).bind fun r=>match r with
 |(.ret d,_)=>some d
 |(.nx,_)=>some .non
 |_=>none
 else none
def SpP(np:Nat)(K:tz0)(U:tz9)(g:tz6):Sp:=fun vs H Q _=>vs.length=np/\∃ds fp d,Reps K U H vs ds fp/\g ds=some d/\kF K U H d Q
def fxP(K:tz0)(U:tz9)(np:Nat)(B:Nat->Addr->Prop):Fx:=⟨K,U,fun i=>decide (i<np),fun _=>false,B⟩
def f0P(np:Nat)(B:Nat->Addr->Prop):F0:=⟨fun i=>decide (i<np),fun _=>false,B⟩
theorem ym6{N:List Str}{vs:List V}{i:Nat}{v:V}(h:vs[i]? =some v):(start N vs)[i]? =some (some v):=by
 unfold start
 have hi:=(Z7.mp h).1
 rw [ZN (by simpa using hi),Zi,h];rfl
theorem RS.start{K:tz0}{U:tz9}{H:Hp}{N:List Str}{vs:List V}{ds:List D}{fp:List Addr}{np:Nat}(r:Reps K U H vs ds fp)(hl:vs.length=np)(hn:np<=N.length):
  RS (fxP K U np (fun _ a=>a∈fp)) H (start N vs) (ds.map some++List.replicate (N.length-np) none) (fun _=>[]):=by
 have el:=r.length
 refine⟨fun i d h=> ?_,fun i a h=>absurd h (by simp),fun i j a h=>absurd h (by simp),fun i=>Zf,fun i a h=>absurd h (by simp),fun k a h z=> ?_,?_⟩
 ·by_cases hi:i<ds.length
  ·rw [ZN (by simpa using hi),Zi] at h
   cases e:ds[i]? with
   |none=>rw [e] at h;cases h
   |some d'=>
    rw [e] at h;cases h
    obtain⟨v,f,h1,h2,h3⟩:=r.get e
    refine⟨v,f,ym6 h1,h2,fun z=> ?_,fun _=>h3⟩
    exact absurd (X7 z) (by omega)
  ·rw [Yg (by simpa using hi),Yn] at h
   split at h<;>cases h
 ·obtain⟨o,h,_⟩:=r.own a h
  rw [z] at h;cases h
 ·unfold L2.start
  simp only [Z3,Zc,YR]
  omega
section
variable{P:Program}{w:World}{K:tz0}{mg:tzA}{base:Heap}{U:tz9}
theorem dC{x qual:Str}{st:Stmt}{f:Addr}{fd:FuncData}{N ps:List Str}{k:Nat}{fb:tz1}(F:Fun K x qual st f fd)(S:FnScope N ps (bE st))
  (hbody:∀(cdv:Value) (A:Around) (outer:List Env) (s:Shared) (H:Hp) (E:XK) (B:Nat->Addr->Prop),Room k (A.deeper (envOfC qual (bE st) s.heap.objs.size f cdv))->
   QSs (wK CX0 P w K mg base N qual (bE st) f cdv A outer s H E).nox U (f0P ps.length B) (mT st) fb):
  FnOk P w K mg base CX0 (k+1) f fd ps (SpP ps.length K U (gP ps.length (N.length-ps.length) fb)):=by
 refine F.ok S (fun vs H Q E h=>h.1) fun cdv A outer s H vs Q E hr ⟨hl,ds,fp,d,r,e,q⟩=>⟨_,hbody cdv A outer s H E (fun _ a=>a∈fp) hr,?_⟩
 have hn:ps.length<=N.length:=by have:=ZS List.length S.pre;rw [Yi] at this;omega
 unfold gP at e
 obtain⟨_,e0⟩:=bQ e
 obtain⟨⟨fl,ps'⟩,e1,e2⟩:=bind_some e0
 refine⟨_,fun _=>[],fl,ps',RS.start r hl hn,e1,?_⟩
 have sm:∀{H':Hp},Frm (fun _=>[]) H H'->SameK H H':=fun k=>⟨fun a o h kk=>k.keep a o h kk (fun _=>by simp),k.grow⟩
 cases fl with
 |ret d'=>
  cases e2
  exact fun v σ' H' F' fv s o rv=>q v H' fv (sm s.fr) (fun a ha=>(o.nw a ha).elim (fun⟨j,hj⟩=>absurd hj (by simp)) id) o.nd rv
 |nx=>
  cases e2
  exact fun σ' H' F' s=>q .non H' [] (sm s.fr) (fun a ha=>absurd ha (by simp)) Zf .non
 |bk=>cases e2
 |ct=>cases e2
end
section
variable{X:Cx}{U:tz9}{e:Expr}{es:List Expr}{g:tz3}{pos p:Pos}
theorem cM{x:Str}{st:Stmt}{ps:List Str}{f:Addr}{fd:FuncData}{k np:Nat}{h:tz6}(Dd:Dn X.K X.mg x st ps f fd)(G:FnOk X.prog X.w X.K X.mg X.base CX0 k f fd ps (SpP np X.K U h))(hr:Room k X.A)(hg:Gl X x)(hnp:(e::es).length=np)(ha:QVA X U (e::es) g)
  (hlen:∀ps ds,g ps=some ds->ds.length=(e::es).length)
  (hdb:NDb x:=by decide) (he:StE e es X:=by rfl) (hpl:BkE pos es X:=by rfl):
  QP X U (.Call (.Name x p) (e::es) [] pos) (aJ h g):=(yd5 Dd G hr hg ha hdb he hpl).imp fun σ H Q hh_=>by
 obtain⟨ps,d,w,e,q⟩:=hh_
 obtain⟨ds,e1,e2⟩:=bind_some e
 refine⟨ps,ds,w,e1,fun vs H1 fp s1 r1=> ?_⟩
 show SpP np X.K U h (vs++[]) H1 Q E0
 rw [Zh]
 exact⟨by rw [r1.length,hlen ps ds e1,hnp],ds,fp,d,r1,e2,q.after s1⟩
theorem xo9{x:Str}{st:Stmt}{ps:List Str}{f:Addr}{fd:FuncData}{k:Nat}{h:tz6}(Dd:Dn X.K X.mg x st ps f fd)(G:FnOk X.prog X.w X.K X.mg X.base CX0 k f fd ps (SpP 0 X.K U h))(hr:Room k X.A)(hg:Gl X x)
  (hdb:NDb x:=by decide):QP X U (.Call (.Name x p) [] [] pos) (aJ h aE):=(xn8 Dd G hr hg hdb).imp fun σ H Q hh_=>by
 obtain⟨ps,d,w,e,q⟩:=hh_
 obtain⟨ds,e1,e2⟩:=bind_some e
 cases e1
 exact⟨rfl,[],[],d,.nil,e2,q⟩
theorem bM:∀(ps:PSt) (ds:List D),aE ps=some ds->ds.length=([]:List Expr).length:=fun _ _ h=>by cases h;rfl
theorem aN(h:∀ps ds,g ps=some ds->ds.length=es.length):∀(ps:PSt) (ds:List D),aA f g ps=some ds->ds.length=(e::es).length:=fun ps ds q=>by
 obtain⟨d,es',_,e2,rfl⟩:=uA q
 rw [Z4,Z4,h ps es' e2]
end
def rE(pick:List (Option Nat))(ps:PSt):PSt:=pick.map fun o=>o.bind fun j=>(ps[j]?).join
def kI(psb:PSt)(ft:tz4)(fe:tz2):List D->Option (List D)
 |[]=>some []
 |d::ds=>(ft (psb.set 0 (some d))).bind fun b=>if b=true then(fe (psb.set 0 (some d))).bind fun r=>(kI psb ft fe ds).bind fun rs=>some (r::rs) else kI psb ft fe ds
def uY(pick:List (Option Nat))(fi:tz3)(ft:tz4)(fe:tz2):tz2:=fun ps=>(fi ps).bind fun ds=>if ds.length<=sizeLine then(kI (rE pick ps) ft fe ds).bind fun rs=>some (.lst true rs) else none
def sM:tz4:=fun _=>some true
theorem WS.sub{K:tz0}{U:tz9}{H:Hp}{σ:St}{ps:PSt}(pick:List (Option Nat))(w:WS K U H σ ps):WS K U H (pN pick σ) (rE pick ps):=fun i d h=>by
 unfold rE at h
 unfold pN
 rw [Zi] at h|-
 cases e:pick[i]? with
 |none=>rw [e] at h;cases h
 | some o=>
  rw [e] at h
  cases o with
  |none=>cases h
  |some j=>
   have h':(ps[j]?).join=some d:=ZA h
   obtain⟨v,fp,h1,h2⟩:=w j d (join_some h')
   refine⟨v,fp,?_,h2⟩
   show some ((σ[j]?).join)=some (some v)
   rw [h1];rfl
theorem WS.set0{K:tz0}{U:tz9}{H:Hp}{σ:St}{ps:PSt}{v:V}{d:D}{fp:List Addr}(w:∀(i:Nat) (d:D),i≠0->ps[i]? =some (some d)->∃v fp,σ[i]? =some (some v)/\Rep K U H v d fp)(hl:ps.length<=σ.length)(r:Rep K U H v d fp):WS K U H (σ.set 0 (some v)) (ps.set 0 (some d)):=fun i d' h=>by
 by_cases e:i=0
 ·subst e
  by_cases hp:0<ps.length
  ·rw [Zx hp] at h
   cases h
   exact⟨v,fp,by rw [Zx (by omega)],r⟩
  ·rw [YS (by simpa using hp)] at h;cases h
 ·rw [Zs (fun z=>e z.symm)] at h|-
  exact w i d' e h
section
variable{X:Cx}{U:tz9}{sc:Scope}{NX N:List Str}{pick:List (Option Nat)}{elt iter:Expr}{ifs:List Expr}{scope:Scope}{pos px:Pos}{x:Str}{fi:tz3}{ft:tz4}{fe:tz2}
theorem PTs.imp(h:PTs X ifs t)(k:∀σ H Q,t' σ H Q->t σ H Q):PTs X ifs t':=⟨fun pins s σ H Q I q=>h pins s σ H Q I (k σ H Q q)⟩
theorem zy5:PTs X [] (tQ X.K U sM):=xn9.imp fun σ H Q ⟨ps,b,w,e,q⟩=>by cases e;exact q H (.refl H)
structure Grown(K:tz0)(U:tz9)(H1:Hp)(Dd:Addr)(H':Hp)(vs:List V)(rs:List D)(fv:List Addr):Prop where
 same:SameK H1 H'
 at_:H' Dd=some (.lst vs)
 rep:Reps K U H' vs rs fv
 new:∀a∈fv,H1 a=none
 ne:Dd∉fv
 nd:fv.Nodup
def xx1(K:tz0)(U:tz9)(J:It)(Dd:Addr)(q:Hp->Prop)(V:Nat->Nat->St->Hp->Prop)(ft:tz4)(fe:tz2)(i m:Nat)(σ':St)(H':Hp):Prop:=
  (J.stop i H'/\q H')\/(J.go i H'/\∀x H2,J.yld i H' x H2->uW 0 x σ' H2 fun σ3 H3=>tQ K U ft σ3 H3 fun b H4=>
   if b=true then tP K U fe σ3 H4 fun y H5=>∃ys,H5 Dd=some (.lst ys)/\ys.length<sizeLine/\∃m',m'<m/\V (i+1) m' σ3 (upd H5 Dd (.lst (ys++[y]))) else ∃m',m'<m/\V (i+1) m' σ3 H4)
def wa2(K:tz0)(U:tz9)(H1:Hp)(Dd:Addr)(pick:List (Option Nat))(ps:PSt)(ft:tz4)(fe:tz2)(ds rs:List D)(i m:Nat)(σ':St)(H':Hp):Prop:=i<=ds.length/\m=ds.length-i/\(∀(j:Nat) (d:D),j≠0->(rE pick ps)[j]? =some (some d)->∃v fp,σ'[j]? =some (some v)/\Rep K U H1 v d fp)/\(rE pick ps).length<=σ'.length/\
  ∃vs fv done rest,Grown K U H1 Dd H' vs done fv/\done.length<=i/\kI (rE pick ps) ft fe (ds.drop i)=some rest/\rs=done++rest
theorem yv0{pick:List (Option Nat)}{J:It}{Z:List Addr}{σ:St}{ps:PSt}{H1:Hp}{Dd:Addr}{ds rs:List D}{Q:Addr->Hp->Prop}(w:WS X.K U H1 σ ps)(hD:H1 Dd=none)(W:Walk X.K U J Z H1 ds)(hz:ds.length<=sizeLine)
  (e:kI (rE pick ps) ft fe ds=some rs) (q:∀H' vs fv,Grown X.K U H1 Dd H' vs rs fv->Q Dd H'):
  ∃V:Nat->Nat->St->Hp->Prop,(∃m,V 0 m (pN pick σ) (upd H1 Dd (.lst [])))/\∀i m σ' H',V i m σ' H'->xx1 X.K U J Dd (Q Dd) V ft fe i m σ' H':=by
 refine⟨wa2 X.K U H1 Dd pick ps ft fe ds rs,⟨_,ZH _,rfl,fun j d _ h=>w.sub pick j d h,by simp [rE,pN],[],[],[],rs,⟨.new hD _,bX,.nil,fun _ h=>absurd h (by simp),by simp,Zf⟩,ZH _,by rw [Xz];exact e,rfl⟩,?_⟩
 rintro i m σ' H' ⟨hi,rfl,ws,wl,vs,fv,done,rest,G,hdn,er,ers⟩
 have kp:pO Z H1 H':=fun a o h t=>G.same.keep a o h (t.elim mH fun t=>t.1)
 by_cases hlt:i<ds.length
 ·right
  have ed:ds[i]? =some ds[i]:=Zn hlt
  obtain⟨hgo,hy⟩:=W.go H' kp i _ ed
  refine⟨hgo,fun x H2 y=> ?_⟩
  obtain⟨rfl,rx⟩:=hy x H2 y
  rw [ZO hlt,kI] at er
  obtain⟨b,e1,e2⟩:=bind_some er
  have wset:WS X.K U H2 (σ'.set 0 (some x)) ((rE pick ps).set 0 (some ds[i])):=WS.set0 (fun j d hj h=>by obtain⟨v,fp,h1,h2⟩:=ws j d hj h;exact⟨v,fp,h1,h2.same G.same⟩) wl rx
  refine⟨_,b,wset,e1,fun H3 s3=> ?_⟩
  have keepS:∀(j:Nat) (d:D),j≠0->(rE pick ps)[j]? =some (some d)->∃v fp,(σ'.set 0 (some x))[j]? =some (some v)/\Rep X.K U H1 v d fp:=fun j d hj h=>by
   obtain⟨v,fp,h1,h2⟩:=ws j d hj h
   exact⟨v,fp,by rw [Zs (fun z=>hj z.symm)];exact h1,h2⟩
  have Dkeep:∀{H5:Hp},SameK H2 H5->H5 Dd=some (.lst vs):=fun s=>s.keep _ _ G.at_ rfl
  cases b with
  | true=>
   dsimp only
   rw [if_pos rfl] at e2|-
   obtain⟨r,e3,e4⟩:=bind_some e2
   obtain⟨rs',e5,e6⟩:=bind_some e4
   cases e6
   refine⟨_,r,wset.same s3,e3,fun y H5 fw s5 n5 nd5 r5=> ?_⟩
   have s25:=s3.trans s5
   refine⟨vs,Dkeep s25,?_,ds.length-(i+1),by omega,hlt,rfl,keepS,by simpa using wl,vs++[y],fv++fw,done++[r],rs',?_,?_,e5,by rw [ers];simp⟩
   ·have:=G.rep.length;omega
   ·have hDw:Dd∉fw:=fun z=>by have:=s3.grow Dd (n5 Dd z);rw [G.at_] at this;cases this
    have hup:∀a,a≠Dd->upd H5 Dd (.lst (vs++[y])) a=H5 a:=fun a h=>bA h
    have tfk:∀a o,H5 a=some o->tf o=true->upd H5 Dd (.lst (vs++[y])) a=some o:=fun a o h t=>by
     rw [hup a]
     ·exact h
     ·rintro rfl;rw [Dkeep s25] at h;cases h;cases t
    have rv5:Reps X.K U H5 vs done fv:=G.rep.same s25
    refine⟨⟨fun a o h k=> ?_,fun a h=> ?_⟩,bX,Reps.append (rv5.move tfk fun a ha=>hup a fun z=>G.ne (z▸ha)) (Reps.one (r5.move tfk fun a ha=>hup a fun z=>hDw (z▸ha))),fun a ha=> ?_,fun z=> ?_,?_⟩
    ·rw [hup a (fun z=>by subst z;rw [hD] at h;cases h)]
     exact(G.same.trans s25).keep a o h k
    ·by_cases z:a=Dd
     ·subst z;rw [bX] at h;cases h
     ·rw [hup a z] at h;exact(G.same.trans s25).grow a h
    ·rcases ZE.mp ha with z|z
     ·exact G.new a z
     ·exact(G.same.trans s3).grow a (n5 a z)
    ·rcases ZE.mp z with z|z
     ·exact G.ne z
     ·exact hDw z
    ·rw [Zz]
     refine⟨G.nd,nd5,fun a ha b hb e=> ?_⟩
     subst e
     obtain⟨o,h,k,_⟩:=G.rep.own a ha
     have:=s3.keep a o h k
     rw [n5 a hb] at this;cases this
   ·rw [Z3,XV];omega
  |false=>
   dsimp only
   rw [if_neg Z8] at e2|-
   refine⟨ds.length-(i+1),by omega,hlt,rfl,keepS,by simpa using wl,vs,fv,done,rest,⟨G.same.trans s3,Dkeep s3,G.rep.same s3,G.new,G.ne,G.nd⟩,by omega,e2,ers⟩
 ·left
  have ek:i=ds.length:=by omega
  subst ek
  rw [Xg,kI] at er
  cases er
  rw [Zh] at ers
  subst ers
  exact⟨W.stop H' kp,q H' vs fv G⟩
theorem zy6(S:CScope sc NX N pick scope)(hsc:X.env.scope=sc)(hNX:X.N=NX)(hc:X.calm=true)(hi:QIV X U (.Name x px) iter fi)
  (hg:∀cl fp s H,PG (cxB X N scope cl fp s H) (.Name x px) (uW 0)) (ht:∀cl fp s H,PTs (cxB X N scope cl fp s H) ifs (tQ X.K U ft)) (he:∀cl fp s H,PE (cxB X N scope cl fp s H) elt (tP X.K U fe))
  (hs:∀x,foldedSetIterable iter X.env x=pure x:=by intro _;rfl):QP X U (.ListComp elt [⟨.Name x px,iter,ifs,0⟩] scope pos) (uY pick fi ft fe):=
 (xf9 S hsc hNX hc hi hg ht he hs).imp fun σ H Q hh_=>by
  obtain⟨ps,d,w,e,q⟩:=hh_
  obtain⟨ds,e1,e2⟩:=bind_some e
  obtain⟨hz,e3⟩:=bQ e2
  obtain⟨rs,e4,e5⟩:=bind_some e3
  cases e5
  refine⟨ps,ds,w,e1,fun J H1 Z s1 W Dd hD=> ?_⟩
  refine yv0 (Q:=fun Dd H'=>Q (.ref Dd) H') (w.same s1) hD W hz e4 fun H' vs fv G=> ?_
  refine q _ H' (Dd::fv) (s1.trans G.same) (fun a ha=> ?_) (Zp.mpr ⟨G.ne,G.nd⟩) (.lst G.at_ G.rep)
  rcases Za.mp ha with z|z
  ·rw [z];exact s1.grow Dd hD
  ·exact s1.grow a (G.new a z)
end
inductive Ps1 where
 |ix (n:Nat)|fld (f:Str)
def cY:List Str->Str->Option Nat
 |[],_=>none
 |n::ns,f=>if n=f then some 0 else(cY ns f).map (·+1)
def fS{α:Type}(h:D->Option (α×D)):D->List Ps1->Option (α×D)
 |d,[]=>h d
 | .lst true xs,.ix n::p=>(xs[n]?).bind fun d=>(fS h d p).bind fun r=>some (r.1,.lst true (xs.set n r.2))
 | .obj true C ns vs,.fld f::p=>(cY ns f).bind fun n=>(vs[n]?).bind fun d=>(fS h d p).bind fun r=>some (r.1,.obj true C ns (vs.set n r.2))
 |_,_=>none
def jS:D->List Ps1->Option D
 |d,[]=>some d
 | .lst true xs,.ix n::p=>(xs[n]?).bind fun d=>jS d p
 | .obj true _ ns vs,.fld f::p=>(cY ns f).bind fun n=>(vs[n]?).bind fun d=>jS d p
 |_,_=>none
def At(H:Hp):V->List Ps1->V->Prop
 |v0,[],v=>v=v0
 |v0,.ix n::p,v=>∃a vs v1,v0= .ref a/\H a=some (.lst vs)/\vs[n]? =some v1/\At H v1 p v
 |v0,.fld f::p,v=>∃a C dx fs n v1,v0= .ref a/\H a=some (.ins C dx fs)/\cY (fs.map (·.1)) f=some n/\(fs.map (·.2))[n]? =some v1/\At H v1 p v
theorem At.same(s:SameK H H'):∀{p:List Ps1} {v0 v:V},At H v0 p v->At H' v0 p v
 |[],_,_,h=>h
 | .ix n::p,_,_,⟨a,vs,v1,h1,h2,h3,h4⟩=>⟨a,vs,v1,h1,s.keep _ _ h2 rfl,h3,At.same s h4⟩
 | .fld f::p,_,_,⟨a,C,dx,fs,n,v1,h1,h2,h3,h4,h5⟩=>⟨a,C,dx,fs,n,v1,h1,s.keep _ _ h2 rfl,h3,h4,At.same s h5⟩
theorem At.snoc_ix(h:H a=some (.lst vs))(hv:vs[n]? =some v):∀{p:List Ps1} {v0:V},At H v0 p (.ref a)->At H v0 (p++[.ix n]) v
 |[],_,e=>⟨a,vs,v,e.symm,h,hv,rfl⟩
 | .ix m::p,_,⟨b,us,v1,h1,h2,h3,h4⟩=>⟨b,us,v1,h1,h2,h3,At.snoc_ix h hv h4⟩
 | .fld f::p,_,⟨b,C,dx,fs,m,v1,h1,h2,h3,h4,h5⟩=>⟨b,C,dx,fs,m,v1,h1,h2,h3,h4,At.snoc_ix h hv h5⟩
theorem At.snoc_fld(h:H a=some (.ins C dx fs))(hn:cY (fs.map (·.1)) f=some n)(hv:(fs.map (·.2))[n]? =some v):∀{p:List Ps1} {v0:V},At H v0 p (.ref a)->At H v0 (p++[.fld f]) v
 |[],_,e=>⟨a,C,dx,fs,n,v,e.symm,h,hn,hv,rfl⟩
 | .ix m::p,_,⟨b,us,v1,h1,h2,h3,h4⟩=>⟨b,us,v1,h1,h2,h3,At.snoc_fld h hn hv h4⟩
 | .fld f'::p,_,⟨b,C',dx',fs',m,v1,h1,h2,h3,h4,h5⟩=>⟨b,C',dx',fs',m,v1,h1,h2,h3,h4,At.snoc_fld h hn hv h5⟩
theorem zy7(e:fS h d0 (.ix n::p)=some (r,d')):∃xs d1 d2,d0= .lst true xs/\xs[n]? =some d1/\fS h d1 p=some (r,d2)/\d'= .lst true (xs.set n d2):=by
 unfold fS at e
 split at e
 ·rename_i z;cases z
 ·rename_i z;cases z
  obtain⟨d1,h1,h2⟩:=bind_some e
  obtain⟨⟨r1,d2⟩,h3,h4⟩:=bind_some h2
  cases h4
  exact⟨_,_,_,rfl,h1,h3,rfl⟩
 ·rename_i z;cases z
 ·cases e
theorem zp3(e:fS h d0 (.fld f::p)=some (r,d')):∃C ns xs n d1 d2,d0= .obj true C ns xs/\cY ns f=some n/\xs[n]? =some d1/\fS h d1 p=some (r,d2)/\d'= .obj true C ns (xs.set n d2):=by
 unfold fS at e
 split at e
 ·rename_i z;cases z
 ·rename_i z;cases z
 ·rename_i z;cases z
  obtain⟨n,h0,h9⟩:=bind_some e
  obtain⟨d1,h1,h2⟩:=bind_some h9
  obtain⟨⟨r1,d2⟩,h3,h4⟩:=bind_some h2
  cases h4
  exact⟨_,_,_,_,_,_,rfl,h0,h1,h3,rfl⟩
 ·cases e
theorem zc4(e:jS d0 (.ix n::p)=some d):∃xs d1,d0= .lst true xs/\xs[n]? =some d1/\jS d1 p=some d:=by
 unfold jS at e
 split at e
 ·rename_i z;cases z
 ·rename_i z;cases z
  obtain⟨d1,h1,h2⟩:=bind_some e
  exact⟨_,_,rfl,h1,h2⟩
 ·rename_i z;cases z
 ·cases e
theorem yB(e:jS d0 (.fld f::p)=some d):∃C ns xs n d1,d0= .obj true C ns xs/\cY ns f=some n/\xs[n]? =some d1/\jS d1 p=some d:=by
 unfold jS at e
 split at e
 ·rename_i z;cases z
 ·rename_i z;cases z
 ·rename_i z;cases z
  obtain⟨n,h0,h9⟩:=bind_some e
  obtain⟨d1,h1,h2⟩:=bind_some h9
  exact⟨_,_,_,_,_,rfl,h0,h1,h2⟩
 ·cases e
theorem mK:∀{d0:D},fS h d0 p=some (r,d')->∃d dn,jS d0 p=some d/\h d=some (r,dn):=by
 induction p generalizing d' with
 |nil=>intro d0 e;rw [fS] at e;exact⟨d0,d',by rw [jS],e⟩
 | cons s p ih=>
  intro d0 e
  cases s with
  |ix m=>
   obtain⟨xs,d1,d2,rfl,h1,h3,rfl⟩:=zy7 e
   obtain⟨d,dn,g1,g2⟩:=ih h3
   refine⟨d,dn,?_,g2⟩
   show(xs[m]?).bind _=_
   rw [h1];exact g1
  |fld f=>
   obtain⟨C,ns,xs,m,d1,d2,rfl,h0,h1,h3,rfl⟩:=zp3 e
   obtain⟨d,dn,g1,g2⟩:=ih h3
   refine⟨d,dn,?_,g2⟩
   show(cY ns f).bind _=_
   rw [h0]
   show(xs[m]?).bind _=_
   rw [h1];exact g1
section
variable{K:tz0}{U:tz9}{H:Hp}
theorem Reps.focus:∀{vs:List V} {ds:List D} {g:List Addr} {n:Nat} {d1:D} {v1:V},Reps K U H vs ds g->ds[n]? =some d1->vs[n]? =some v1->∃f1 rest,Rep K U H v1 d1 f1/\g.Perm (f1++rest)/\
  ∀(H':Hp) (d':D) (f':List Addr),(∀a o,H a=some o->tf o=true->H' a=some o)->(∀a∈rest,H' a=H a)->Rep K U H' v1 d' f'->∃g',Reps K U H' vs (ds.set n d') g'/\g'.Perm (f'++rest)
 |_,_,_,_,_,_,.nil,e,_=>by simp at e
 |_,_,_,0,_,_,.cons (f:=f) (g:=g) h hs,e,e'=>by
  simp at e e';subst e;subst e'
  exact⟨f,g,h,.refl _,fun H' d' f' t k r=>⟨f'++g,.cons r (hs.move t k),.refl _⟩⟩
 | _,_,_,n+1,_,_,.cons (f:=f) (g:=g) h hs,e,e'=>by
  obtain⟨f1,rest,h1,h2,h3⟩:=Reps.focus (n:=n) hs (by simpa using e) (by simpa using e')
  refine⟨f1,f++rest,h1,?_,fun H' d' f' t k r=> ?_⟩
  ·refine(h2.append_left f).trans ?_
   rw [<-Zj,<-Zj]
   exact Yw.append_right rest
  ·obtain⟨g',r1,r2⟩:=h3 H' d' f' t (fun a ha=>k a (Zd _ ha)) r
   refine⟨f++g',.cons (h.move t fun a ha=>k a (Zu _ ha)) r1,?_⟩
   refine(r2.append_left f).trans ?_
   rw [<-Zj,<-Zj]
   exact Yw.append_right rest
theorem zg4{b:Addr}{g f1 fd rest rest1:List Addr}(k2:g.Perm (f1++rest1))(m3:f1.Perm (fd++rest)):(b::g).Perm (fd++b::(rest++rest1)):=by
 refine((k2.trans (m3.append_right rest1)).cons b).trans ?_
 rw [Zj]
 exact List.perm_middle.symm
def Foc(K:tz0)(U:tz9)(H:Hp){α:Type}(h:D->Option (α×D))(r:α)(v v0:V)(d0':D)(fp:List Addr):Prop:=∃d d' fd rest,Rep K U H v d fd/\h d=some (r,d')/\fp.Perm (fd++rest)/\
  ∀(H':Hp) (f':List Addr),(∀a o,H a=some o->tf o=true->H' a=some o)->(∀a∈rest,H' a=H a)->Rep K U H' v d' f'->∃fp',Rep K U H' v0 d0' fp'/\fp'.Perm (f'++rest)
theorem focus{α:Type}{h:D->Option (α×D)}{r:α}{p:List Ps1}:∀{v0 v:V} {d0 d0':D} {fp:List Addr},Rep K U H v0 d0 fp->fS h d0 p=some (r,d0')->At H v0 p v->Foc K U H h r v v0 d0' fp:=by
 induction p with
 |nil=>
  intro v0 v d0 d0' fp R e a
  rw [fS] at e
  cases(show v=v0 from a)
  exact⟨d0,d0',fp,[],R,e,by rw [Zh],fun H' f' t k r=>⟨f',r,by rw [Zh]⟩⟩
 | cons s p ih=>
  intro v0 v d0 d0' fp R e a
  have deep:∀(b:Addr) (vs:List V) (xs:List D) (n:Nat) (d1 d2:D) (v1:V) (g:List Addr),fp=b::g->Reps K U H vs xs g->xs[n]? =some d1->vs[n]? =some v1->fS h d1 p=some (r,d2)->At H v1 p v->(∀(H':Hp) (g2:List Addr),H' b=H b->Reps K U H' vs (xs.set n d2) g2->Rep K U H' v0 d0' (b::g2))->
    Foc K U H h r v v0 d0' fp:=fun b vs xs n d1 d2 v1 g ef hs h1 e3 h3 e4 mk=>by
   subst ef
   obtain⟨f1,rest1,k1,k2,k3⟩:=hs.focus h1 e3
   obtain⟨d,d',fd,rest,m1,m2,m3,m4⟩:=ih k1 h3 e4
   refine⟨d,d',fd,b::(rest++rest1),m1,m2,zg4 k2 m3,fun H' f' t k rr=> ?_⟩
   obtain⟨g1,q1,q2⟩:=m4 H' f' t (fun a ha=>k a (Z1 _ (Zu _ ha))) rr
   obtain⟨g2,q3,q4⟩:=k3 H' d2 g1 t (fun a ha=>k a (Z1 _ (Zd _ ha))) q1
   exact⟨b::g2,mk H' g2 (k b Z0) q3,zg4 q4 q2⟩
  cases s with
  |ix n=>
   obtain⟨b,vs,v1,e1,e2,e3,e4⟩:=a
   subst e1
   obtain⟨xs,d1,d2,rfl,h1,h3,rfl⟩:=zy7 e
   obtain⟨_,_,g,e5,hb,hs,ef⟩:=R.lstT_inv
   cases e5
   rw [e2] at hb;cases hb
   exact deep b vs xs n d1 d2 v1 g ef hs h1 e3 h3 e4 fun H' g2 k q3=> .lst (k.trans e2) q3
  |fld f=>
   obtain⟨b,C,dx,fs,n,v1,e1,e2,e2',e3,e4⟩:=a
   subst e1
   obtain⟨C',ns,xs,n',d1,d2,rfl,h0,h1,h3,rfl⟩:=zp3 e
   obtain⟨_,_,_,g,e5,hb,hn,hs,ef⟩:=R.objT_inv
   cases e5
   rw [e2] at hb;cases hb
   subst hn
   rw [e2'] at h0;cases h0
   exact deep b _ xs n d1 d2 v1 g ef hs h1 e3 h3 e4 fun H' g2 k q3=> .obj (k.trans e2) rfl q3
end
theorem sV(R:RS φ H σ ps F)(s1:SameK H H1)(hb:φ.bor j=false)(e0:ps[j]? =some (some d0))(ev:σ[j]? =some (some v0))
  (em:fS h d0 p=some (r,d0')) (at_:At H1 v0 p v):∃d d' fd,Rep φ.K φ.U H1 v d fd/\h d=some (r,d')/\fd.Nodup/\(∀a∈fd,a∈F j)/\
  ∀(H':Hp) (fd' fr:List Addr),(∀a o,H1 a=some o->kd o=true->a∉fd->H' a=some o)->(∀a,H' a=none->H1 a=none)->Rep φ.K φ.U H' v d' fd'->(fd'++fr).Nodup->(∀a∈fd'++fr,a∈fd\/H a=none)->
   ∃F',Stp φ σ H F σ H' (ps.set j (some d0')) F'/\OwnV F H F' fr:=by
 obtain⟨v0',fp,h1,h2,h3,_⟩:=R.rep j d0 e0
 rw [ev] at h1;cases h1
 have h3:=h3 hb
 subst h3
 obtain⟨d,d',fd,rest,m1,m2,m3,m4⟩:=focus (h2.same s1) em at_
 have ndF:=R.nd j
 have ndp:(fd++rest).Nodup:=m3.nodup_iff.mp ndF
 obtain⟨nd1,nd2,nd3⟩:=Zz.mp ndp
 have inF:∀a,a∈fd\/a∈rest->a∈F j:=fun a ha=>m3.mem_iff.mpr (ZE.mpr ha)
 refine⟨d,d',fd,m1,m2,nd1,fun a ha=>inF a (.inl ha),fun H' fd' fr k1 k2 k3 k4 k5=> ?_⟩
 have tfk:∀a o,H1 a=some o->tf o=true->H' a=some o:=fun a o ha t=>k1 a o ha (mH t) fun hm=>by
  obtain⟨o',q,_,q'⟩:=m1.own a hm
  rw [ha] at q;cases q;rw [t] at q';cases q'
 have keepO:∀a,(∃i,a∈F i)->a∉fd->H' a=H1 a:=fun a ⟨i,hi⟩ hn=>by
  obtain⟨o,q,q',_⟩:=R.own hi
  have q1:=s1.keep a o q q'
  rw [q1];exact k1 a o q1 q' hn
 have notfd:∀a,a∈rest->a∉fd:=fun a hr hf=>nd3 a hf a hr rfl
 obtain⟨fp',r1,r2⟩:=m4 H' fd' tfk (fun a ha=>keepO a ⟨j,inF a (.inr ha)⟩ (notfd a ha)) k3
 obtain⟨kd1,kd2,kd3⟩:=Zz.mp k4
 have memfp:∀a,a∈fp'->a∈fd'\/a∈rest:=fun a ha=>ZE.mp (r2.mem_iff.mp ha)
 have lt:j<ps.length:=(Z7.mp e0).1
 have old:∀a,a∈fd'++fr->∀i,a∈F i->a∈fd:=fun a ha i hi=>(k5 a ha).elim id fun z=>by
  obtain⟨o,q,_⟩:=R.own hi
  rw [z] at q;cases q
 refine⟨lR F j fp',⟨⟨fun a o ha hk hn=> ?_,fun a ha=>s1.grow a (k2 a ha)⟩,fun i a ha=> ?_,⟨fun i d2 hi=> ?_,fun i a ha=> ?_,fun i k a ha hk=> ?_,fun i=> ?_,fun i a ha kk hB=> ?_,fun kk a hB z=>R.bt kk a hB (s1.grow a (k2 a z)),by simpa using R.len⟩,fun _ _=>rfl⟩,⟨fun a ha=> ?_,kd2,fun i a ha hr=> ?_⟩⟩
 ·exact k1 a o (s1.keep a o ha hk) hk fun hm=>hn j (inF a (.inl hm))
 ·rcases jN ha with z|z
  ·rcases memfp a z with z|z
   ·exact(k5 a (Zu _ z)).elim (fun z=> .inl ⟨j,inF a (.inl z)⟩) .inr
   ·exact .inl ⟨j,inF a (.inr z)⟩
  ·exact .inl ⟨i,z⟩
 ·by_cases e:i=j
  ·subst e
   rw [Zx lt] at hi
   cases hi
   exact⟨v0,fp',ev,r1,fun _=>eR.symm,fun z=>by rw [hb] at z;cases z⟩
  ·rw [Zs (fun z=>e z.symm)] at hi
   obtain⟨v2,f2,q1,q2,q3,q4⟩:=R.rep i d2 hi
   refine⟨v2,f2,q1,(q2.same s1).move tfk fun a ha=> ?_,fun z=>by rw [eV e];exact q3 z,q4⟩
   obtain⟨o,w1,w2,_⟩:=q2.own a ha
   have w3:=s1.keep a o w1 w2
   rw [w3]
   refine k1 a o w3 w2 fun hm=> ?_
   have hF:=inF a (.inl hm)
   cases hbi:φ.bor i with
   |true=>exact R.nb j a hF i (q4 hbi a ha)
   |false=>rw [q3 hbi] at ha;exact e (R.dis i j a ha hF)
 ·by_cases e:i=j
  ·subst e;exact⟨hb,d0',by rw [Zx lt]⟩
  ·rw [eV e] at ha
   obtain⟨b1,d1,b2⟩:=R.emp i a ha
   exact⟨b1,d1,by rw [Zs (fun z=>e z.symm)];exact b2⟩
 ·have hh:∀a,a∈fp'->∀i,i≠j->a∈F i->False:=fun a ha i hij hi=>by
   rcases memfp a ha with z|z
   ·exact hij (R.dis i j a hi (inF a (.inl (old a (Zu _ z) i hi))))
   ·exact hij (R.dis i j a hi (inF a (.inr z)))
  by_cases e1:i=j
  ·by_cases e2:k=j
   ·rw [e1,e2]
   ·subst e1;rw [eR] at ha;rw [eV e2] at hk;exact(hh a ha k e2 hk).elim
  ·by_cases e2:k=j
   ·subst e2;rw [eR] at hk;rw [eV e1] at ha;exact(hh a hk i e1 ha).elim
   ·rw [eV e1] at ha;rw [eV e2] at hk;exact R.dis i k a ha hk
 ·by_cases e:i=j
  ·subst e
   rw [eR]
   refine r2.nodup_iff.mpr (Zz.mpr ⟨kd1,nd2,fun a ha b hb' e=> ?_⟩)
   subst e
   exact notfd a hb' (old a (Zu _ ha) i (inF a (.inr hb')))
  ·rw [eV e];exact R.nd i
 ·rcases jN ha with z|z
  ·rcases memfp a z with z|z
   ·exact R.notB ((k5 a (Zu _ z)).elim (fun z=> .inl ⟨j,inF a (.inl z)⟩) .inr) kk hB
   ·exact R.nb j a (inF a (.inr z)) kk hB
  ·exact R.nb i a z kk hB
 ·exact(k5 a (Zd _ ha)).elim (fun z=> .inl ⟨j,inF a (.inl z)⟩) .inr
 ·rcases jN ha with z|z
  ·rcases memfp a z with z|z
   ·exact kd3 a z a hr rfl
   ·exact notfd a z (old a (Zd _ hr) j (inF a (.inr z)))
  ·have:=old a (Zd _ hr) i z
   by_cases e:i=j
   ·subst e
    rw [eR] at ha
    rcases memfp a ha with w|w
    ·exact kd3 a w a hr rfl
    ·exact notfd a w this
   ·exact e (R.dis i j a z (inF a (.inl this)))
def nI(K:tz0)(U:tz9)(j:Nat)(pf:PSt->Option (List Ps1)):TE:=fun σ H Q=>∃ps p d0 d,WS K U H σ ps/\ps[j]? =some (some d0)/\pf ps=some p/\jS d0 p=some d/\∀v H' v0,SameK H H'->σ[j]? =some (some v0)->At H' v0 p v->Q v H'
theorem yC{K:tz0}{U:tz9}{H:Hp}{v0 v:V}{d0 d:D}{fp:List Addr}{p:List Ps1}(R:Rep K U H v0 d0 fp)(g:jS d0 p=some d)(a:At H v0 p v):∃fd,Rep K U H v d fd:=by
 have key:∀{p:List Ps1} {v0 v:V} {d0 d:D} {fp:List Addr},Rep K U H v0 d0 fp->jS d0 p=some d->At H v0 p v->∃fd,Rep K U H v d fd:=by
  intro p
  induction p with
  |nil=>intro v0 v d0 d fp R g a;cases g;cases(show v=v0 from a);exact⟨fp,R⟩
  | cons s p ih=>
   intro v0 v d0 d fp R g a
   cases s with
   |ix n=>
    obtain⟨b,vs,v1,e1,e2,e3,e4⟩:=a
    subst e1
    obtain⟨xs,d1,rfl,h1,h2⟩:=zc4 g
    obtain⟨_,_,_,e5,hb,hs,_⟩:=R.lstT_inv
    cases e5
    rw [e2] at hb;cases hb
    obtain⟨v',f,q1,q2,_⟩:=hs.get h1
    rw [e3] at q1;cases q1
    exact ih q2 h2 e4
   |fld f=>
    obtain⟨b,C,dx,fs,n,v1,e1,e2,e2',e3,e4⟩:=a
    subst e1
    obtain⟨C',ns,xs,n',d1,rfl,h0,h1,h2⟩:=yB g
    obtain⟨_,_,_,_,e5,hb,hn,hs,_⟩:=R.objT_inv
    cases e5
    rw [e2] at hb;cases hb
    subst hn
    rw [e2'] at h0;cases h0
    obtain⟨v',f,q1,q2,_⟩:=hs.get h1
    rw [e3] at q1;cases q1
    exact ih q2 h2 e4
 exact key R g a
def cA:PSt->Option (List Ps1):=fun _=>some []
def fY(j:Nat)(pf:PSt->Option (List Ps1))(fb:tz2):PSt->Option (List Ps1):=fun ps=>(pf ps).bind fun p=>((ps[j]?).join).bind fun d0=>(jS d0 p).bind fun d=>(fb ps).bind fun y=>match d,y with
 | .lst true xs,.int i=>(ixN xs.length i).bind fun n=>some (p++[.ix n])
 |_,_=>none
def yh4(j:Nat)(pf:PSt->Option (List Ps1))(C f:Str):PSt->Option (List Ps1):=fun ps=>(pf ps).bind fun p=>((ps[j]?).join).bind fun d0=>(jS d0 p).bind fun d=>match d with
 | .obj true C' _ _=>if C'=C then some (p++[.fld f]) else none
 |_=>none
theorem qR:∀{fs:List (Str×V)} {f:Str} {n:Nat} {v:V},cY (fs.map (·.1)) f=some n->(fs.map (·.2))[n]? =some v->fs.lookup f=some v
 |[],_,_,_,h,_=>by cases h
 | (g,u)::fs,f,n,v,h,hv=>by
  rw [Zb,cY] at h
  by_cases e:g=f
  ·rw [if_pos e] at h
   cases h
   rw [Zy]
   have:(f==g)=true:=by simp [e]
   rw [this]
   simpa using hv
  ·rw [if_neg e] at h
   cases q:cY (fs.map (·.1)) f with
   |none=>rw [q] at h;cases h
   |some m=>
    rw [q] at h;cases h
    rw [Zy]
    have:(f==g)=false:=by simp;exact fun z=>e z.symm
    rw [this]
    exact qR q (by simpa using hv)
section
variable{X:Cx}{φ:F0}{U:tz9}{K:tz0}{o e a b:Expr}{f fb fe:tz2}{g:tz3}{pf:PSt->Option (List Ps1)}{j:Nat}{pos apos:Pos}
theorem cO(j:Nat){x:Str}(hN:X.N[j]? =some x:=by rfl)(hv:Vis X.env.scope x:=by first|exact Or.inl rfl|exact Or.inr (Or.inl rfl)|exact Or.inr (Or.inr rfl))(hd:NDb x:=by decide)
  (hcd:(x==("__classdict__":Str))=false:=by decide):PE X (.Name x pos) (nI K U j cA):=(sP hN hv hd hcd).imp fun σ H Q hh_=>by
 obtain⟨ps,p,d0,d,w,e0,ep,eg,q⟩:=hh_
 cases ep
 obtain⟨v,fp,h1,h2⟩:=w j d0 e0
 exact⟨v,h1,q v H v (.refl H) h1 rfl⟩
theorem kM(ha:PE X a (nI X.K U j pf))(hb:QV X U b fb)(hs:xL b:=by exact fun _ _=>rfl):PE X (.Subscript a b pos) (nI X.K U j (fY j pf fb)):=
 (zk2 zb7 ha hb hs).imp fun σ H Q hh_=>by
  obtain⟨ps,p,d0,d,w,e0,ep,eg,q⟩:=hh_
  obtain⟨p1,e1,e2⟩:=bind_some ep
  obtain⟨d0',e3,e4⟩:=bind_some e2
  have:=join_some e3
  rw [e0] at this;cases this
  obtain⟨d1,e5,e6⟩:=bind_some e4
  obtain⟨y,e7,e8⟩:=bind_some e6
  split at e8
  ·rename_i xs i
   obtain⟨n,e9,e10⟩:=bind_some e8
   cases e10
   refine⟨ps,p1,d0,_,w,e0,e1,e5,fun v H1 v0 s1 ev a1=>⟨ps,_,w.same s1,e7,fun u H2 fq s2 r2=> ?_⟩⟩
   obtain⟨v0',fp,h1,h2⟩:=w j d0 e0
   rw [ev] at h1;cases h1
   obtain⟨fd,rd⟩:=yC (h2.same (s1.trans s2)) e5 (a1.same s2)
   obtain⟨l,vs,g,rfl,hl,hr,_⟩:=rd.lstT_inv
   have ln:=hr.length
   have hn:=(xB e9).2.1
   obtain⟨v1,hv⟩:∃v1,vs[n]? =some v1:=⟨_,Zn (by rw [ln];exact hn)⟩
   refine⟨l,vs,i,v1,rfl,r2.is_int,.inl (.inl hl),?_,q _ H2 v0 (s1.trans s2) ev (At.snoc_ix hl hv (a1.same s2))⟩
   unfold atI
   rw [ln,e9];exact hv
  ·cases e8
theorem ym7{C fn:Str}(hc:Cls X.K (U C))(hna:dJ X.K (U C) fn)(ha:PE X a (nI X.K U j pf))(hb:attributeBase a fn X.env (eval a X.env)=eval a X.env:=by rfl):PE X (.Attribute a fn pos) (nI X.K U j (yh4 j pf C fn)):=
 (xm9 ha hb).imp fun σ H Q hh_=>by
  obtain⟨ps,p,d0,d,w,e0,ep,eg,q⟩:=hh_
  obtain⟨p1,e1,e2⟩:=bind_some ep
  obtain⟨d0',e3,e4⟩:=bind_some e2
  have:=join_some e3
  rw [e0] at this;cases this
  obtain⟨d1,e5,e6⟩:=bind_some e4
  split at e6
  ·rename_i C' ns xs
   obtain⟨hC,e7⟩:=bQ e6
   subst hC
   cases e7
   refine⟨ps,p1,d0,_,w,e0,e1,e5,fun v H1 v0 s1 ev a1=> ?_⟩
   obtain⟨v0',fp,h1,h2⟩:=w j d0 e0
   rw [ev] at h1;cases h1
   obtain⟨fd,rd⟩:=yC (h2.same s1) e5 a1
   have key:∀{p:List Ps1} {d0:D},jS d0 p=some (.obj true C' ns xs)->jS d0 (p++[.fld fn])=some d->∃n d',cY ns fn=some n/\xs[n]? =some d':=by
    intro p
    induction p with
    |nil=>
     intro d0 h1 h2
     cases h1
     obtain⟨n,k1,k2⟩:=bind_some h2
     obtain⟨d',k3,_⟩:=bind_some k2
     exact⟨n,d',k1,k3⟩
    | cons s p ih=>
     intro d0 h1 h2
     cases s with
     |ix m=>
      obtain⟨ys,x1,rfl,k1,k2⟩:=zc4 h1
      obtain⟨_,x2,z,k3,k4⟩:=zc4 h2
      cases z
      rw [k1] at k3;cases k3
      exact ih k2 k4
     |fld f'=>
      obtain⟨C2,ns2,ys,m1,x1,rfl,k0,k1,k2⟩:=yB h1
      obtain⟨_,_,_,m2,x2,z,k5,k3,k4⟩:=yB h2
      cases z
      rw [k0] at k5;cases k5
      rw [k1] at k3;cases k3
      exact ih k2 k4
   obtain⟨n,d',k1,k2⟩:=key e5 eg
   obtain⟨l,dx,fs,g,rfl,hl,hn,hr,_⟩:=rd.objT_inv
   subst hn
   obtain⟨v1,f1,k3,_⟩:=hr.get k2
   exact⟨l,U C',dx,fs,v1,rfl,hl,hc,hna,qR k1 k3,q _ H1 v0 s1 ev (At.snoc_fld hl k1 k3 a1)⟩
  ·cases e6
def dY(j:Nat)(pf:PSt->Option (List Ps1))(g:tz3)(h:List D->D->Option (D×D)):tz8:=fun ps=>((ps[j]?).join).bind fun d0=>(pf ps).bind fun p=>(g ps).bind fun ys=>(fS (h ys) d0 p).bind fun r=>some (r.1,ps.set j (some r.2))
theorem vP(e:dY j pf g h ps=some (d,ps')):∃d0 p ys d0',ps[j]? =some (some d0)/\pf ps=some p/\g ps=some ys/\fS (h ys) d0 p=some (d,d0')/\ps'=ps.set j (some d0'):=by
 obtain⟨d0,e1,e2⟩:=bind_some e
 obtain⟨p,e3,e4⟩:=bind_some e2
 obtain⟨ys,e5,e6⟩:=bind_some e4
 obtain⟨⟨r,d0'⟩,e7,e8⟩:=bind_some e6
 cases e8
 exact⟨d0,p,ys,d0',join_some e1,e3,e5,e7,rfl⟩
def dS:List D->D->Option (D×D)
 |[y],.lst true xs=>if xs.length<sizeLine then some (.non,.lst true (xs++[y])) else none
 |_,_=>none
theorem vQ(h:dS ys d=some (r,d')):∃y xs,ys=[y]/\d= .lst true xs/\xs.length<sizeLine/\r= .non/\d'= .lst true (xs++[y]):=by
 unfold dS at h
 split at h
 ·obtain⟨hc,e⟩:=bQ h
  cases e
  exact⟨_,_,rfl,rfl,hc,rfl,rfl⟩
 ·cases h
theorem zc5(w:WS K U H σ ps)(s1:SameK H H1)(e0:ps[j]? =some (some d0))(ev:σ[j]? =some (some v0))(g:jS d0 p=some d)(a:At H1 v0 p v):∃fd,Rep K U H1 v d fd:=by
 obtain⟨v0',fp,h1,h2⟩:=w j d0 e0
 rw [ev] at h1;cases h1
 exact yC (h2.same s1) g a
theorem mP(hb:φ.bor j=false)(ho:PE X o (nI X.K U j pf))(ha:PA X [e] (tPA X.K U g))
  (hbase:attributeBase o "append" X.env (eval o X.env)=eval o X.env:=by rfl)
  (hfew:((backTo pos (starEach [e] X.env)).all (fun x=> !x.1)&&(backToKw pos (keywordEach [] X.env)).all (fun x=>x.1.isSome)
   &&decide ([e].length+([]:List Keyword).length+(if ([]:List Keyword).isEmpty then 0 else 1)<30))=true:=by rfl)
  (hline:(apos.endLine==pos.line)=true:=by rfl) (hs:starEach [e] X.env=(false,eval e X.env)::starEach [] X.env:=by rfl) (hplain:(backTo pos (starEach [] X.env)).any (·.1)=false:=by rfl):
  QE X U φ (.Call (.Attribute o "append" apos) [e] [] pos) (dY j pf g dS):=
 (xc1 XL PySem.F.slot_list_append PySem.F.type_list_append zf7 ho ha hbase hfew hline hs hplain).imp fun σ H Q hh_=>by
  obtain⟨ps,F,d,ps',R,e,q⟩:=hh_
  obtain⟨d0,p,ys,d0',e0,ep,eg,em,rfl⟩:=vP e
  obtain⟨dd,dn,gp,hh⟩:=mK em
  refine⟨ps,p,d0,dd,R.ws,e0,ep,gp,fun v H1 v0 s1 ev a1=>⟨?_,ps,ys,R.ws.same s1,eg,fun vs H2 fy s2 n2 nd2 r2=> ?_⟩⟩
  ·obtain⟨y,xs,rfl,rfl,_⟩:=vQ hh
   obtain⟨fd,rd⟩:=zc5 R.ws s1 e0 ev gp a1
   obtain⟨_,_,_,rfl,hl,hr,rfl⟩:=rd.lstT_inv
   exact .inl ⟨rfl,_,.inl (.inl hl)⟩
  ·obtain⟨d1,d1',fd,m1,m2,m3,m4,m5⟩:=sV R (s1.trans s2) hb e0 ev em (a1.same s2)
   obtain⟨y,xs,rfl,rfl,hz,rfl,rfl⟩:=vQ m2
   obtain⟨u,rfl,ru⟩:=r2.one_inv
   obtain⟨l,us,g1,rfl,hl,hr,rfl⟩:=m1.lstT_inv
   have ln:=hr.length
   refine⟨l,us,u,rfl,rfl,hl,by omega,?_⟩
   have nl:l∉fy:=fun z=>by have:=n2 l z;have:=s1.keep l;obtain⟨o,h1,h2,_⟩:=R.own (m4 l Z0);have:=s1.keep l o h1 h2;rw [n2 l z] at this;cases this
   obtain⟨nl2,nd3⟩:=Zp.mp m3
   have up:∀a,a≠l->upd H2 l (.lst (us++[u])) a=H2 a:=fun a h=>bA h
   have tfk:∀a o,H2 a=some o->tf o=true->upd H2 l (.lst (us++[u])) a=some o:=fun a o h t=>by
    rw [up a]
    ·exact h
    ·rintro rfl;rw [hl] at h;cases h;cases t
   obtain⟨F',st,ow⟩:=m5 (upd H2 l (.lst (us++[u]))) (l::(g1++fy)) [] (fun a o h _ hn=>by rw [up a (fun z=>hn (z▸Z0))];exact h)
    (fun a h=>by
     by_cases z:a=l
     ·subst z;rw [bX] at h;cases h
     ·rw [up a z] at h;exact h)
    (.lst bX (Reps.append (hr.move tfk fun a ha=>up a fun z=>nl2 (z▸ha)) (Reps.one (ru.move tfk fun a ha=>up a fun z=>nl (z▸ha)))))
    (by
     rw [Zh,Zp,Zz]
     refine⟨fun z=>(ZE.mp z).elim nl2 nl,nd3,nd2,fun a ha b hb e=> ?_⟩
     subst e
     obtain⟨o,h1,h2,_⟩:=R.own (m4 a (Z1 _ ha))
     have:=s1.keep a o h1 h2
     rw [n2 a hb] at this;cases this)
    (fun a ha=>by
     rw [Zh] at ha
     rcases Za.mp ha with z|z
     ·exact .inl (z▸Z0)
     ·rcases ZE.mp z with z|z
      ·exact .inl (Z1 _ z)
      ·exact .inr (s1.grow a (n2 a z)))
   exact q .non _ F' [] st ow .non
end
section
variable{K:tz0}{U:tz9}{H:Hp}{l:Addr}{o0 o:HO}
theorem ym8(hl:H l=some o0)(ht:tf o0=false):∀a u,H a=some u->tf u=true->upd H l o a=some u:=fun a u h t=>by
 rw [bA]
 ·exact h
 ·rintro rfl;rw [hl] at h;cases h;rw [ht] at t;cases t
theorem Rep.updL(r:Rep K U H v d g)(hl:H l=some o0)(ht:tf o0=false)(n:l∉g):Rep K U (upd H l o) v d g:=r.move (ym8 hl ht) fun a ha=>bA fun z=>n (z▸ha)
theorem Reps.updL(r:Reps K U H v d g)(hl:H l=some o0)(ht:tf o0=false)(n:l∉g):Reps K U (upd H l o) v d g:=r.move (ym8 hl ht) fun a ha=>bA fun z=>n (z▸ha)
theorem qS(h:H a=some u)(n:a∉l::g):upd H l o a=some u:=by
 rw [bA (fun z=>n (by rw [z];exact Z0))];exact h
theorem fW(h:upd H l o a=none):H a=none:=by
 by_cases z:a=l
 ·subst z;rw [bX] at h;cases h
 ·rw [bA z] at h;exact h
theorem Reps.pop:∀{vs:List V} {ds:List D} {g:List Addr} {d:D},Reps K U H vs ds g->ds[ds.length-1]? =some d->∃v g1 f,vs[vs.length-1]? =some v/\Rep K U H v d f/\Reps K U H vs.dropLast ds.dropLast g1/\g=g1++f
 |_,_,_,_,.nil,e=>by simp at e
 |_,[d1],_,d,.cons (f:=f) h .nil,e=>by
  have e':d1=d:=by simpa using e
  subst e'
  exact⟨_,[],f,by simp,h,.nil,by simp⟩
 |v::v2::vs,d1::d2::ds,_,d,.cons (f:=f) h (.cons (f:=f2) (g:=g2) h2 hs),e=>by
  obtain⟨w,g1,f',k1,k2,k3,k4⟩:=Reps.pop (.cons h2 hs) (d:=d) (by simpa using e)
  refine⟨w,f++g1,f',by simpa using k1,k2,?_,by rw [Zj,<-k4]⟩
  rw [XZ,XZ]
  exact .cons h k3
theorem Reps.setV:∀{vs:List V} {ds:List D} {g:List Addr} {n:Nat} {v':V} {d':D} {f':List Addr},Reps K U H vs ds g->n<ds.length->Rep K U H v' d' f'->∃f1 rest g',g.Perm (f1++rest)/\Reps K U H (vs.set n v') (ds.set n d') g'/\g'.Perm (f'++rest)
 |_,_,_,_,_,_,_,.nil,e,_=>by simp at e
 |_,_,_,0,_,_,f',.cons (f:=f) (g:=g) h hs,_,r=>⟨f,g,f'++g,.refl _,.cons r hs,.refl _⟩
 | _,_,_,n+1,_,_,f',.cons (f:=f) (g:=g) h hs,e,r=>by
  obtain⟨f1,rest,g',h1,h2,h3⟩:=Reps.setV (n:=n) hs (by simpa using e) r
  refine⟨f1,f++rest,f++g',?_,.cons h h2,?_⟩
  ·refine(h1.append_left f).trans ?_
   rw [<-Zj,<-Zj]
   exact Yw.append_right rest
  ·refine(h3.append_left f).trans ?_
   rw [<-Zj,<-Zj]
   exact Yw.append_right rest
end
section
variable{X:Cx}{φ:F0}{U:tz9}{K:tz0}{o e a b:Expr}{f fi fe:tz2}{g:tz3}{pf:PSt->Option (List Ps1)}{j:Nat}{pos apos:Pos}
def sN:List D->D->Option (D×D)
 |[],.lst true xs=>(xs[xs.length-1]?).bind fun y=>some (y,.lst true xs.dropLast)
 |_,_=>none
theorem zg5(h:sN ys d=some (r,d')):∃xs,ys=[]/\d= .lst true xs/\xs[xs.length-1]? =some r/\d'= .lst true xs.dropLast:=by
 unfold sN at h
 split at h
 ·obtain⟨y,h1,h2⟩:=bind_some h
  cases h2
  exact⟨_,rfl,rfl,h1,rfl⟩
 ·cases h
theorem xp0(hb:φ.bor j=false)(ho:PE X o (nI X.K U j pf))
  (hbase:attributeBase o "pop" X.env (eval o X.env)=eval o X.env:=by rfl) (hline:(apos.endLine==pos.line)=true:=by rfl):QE X U φ (.Call (.Attribute o "pop" apos) [] [] pos) (dY j pf aE sN):=
 (xn5 XL PySem.F.slot_list_pop PySem.F.type_list_pop xn6 ho hbase hline).imp fun σ H Q hh_=>by
  obtain⟨ps,F,d,ps',R,e,q⟩:=hh_
  obtain⟨d0,p,ys,d0',e0,ep,eg,em,rfl⟩:=vP e
  cases eg
  obtain⟨dd,dn,gp,hh⟩:=mK em
  refine⟨ps,p,d0,dd,R.ws,e0,ep,gp,fun v H1 v0 s1 ev a1=>⟨?_,?_⟩⟩
  ·obtain⟨xs,_,rfl,_⟩:=zg5 hh
   obtain⟨fd,rd⟩:=zc5 R.ws s1 e0 ev gp a1
   obtain⟨_,_,_,rfl,hl,hr,rfl⟩:=rd.lstT_inv
   exact .inl ⟨rfl,_,.inl (.inl hl)⟩
  ·obtain⟨d1,d1',fd,m1,m2,m3,m4,m5⟩:=sV R s1 hb e0 ev em a1
   obtain⟨xs,_,rfl,hx,rfl⟩:=zg5 m2
   obtain⟨l,us,g1,rfl,hl,hr,rfl⟩:=m1.lstT_inv
   obtain⟨u,g2,f2,k1,k2,k3,rfl⟩:=hr.pop hx
   obtain⟨nl,nd3⟩:=Zp.mp m3
   have n1:l∉g2:=fun z=>nl (Zu _ z)
   have n2:l∉f2:=fun z=>nl (Zd _ z)
   refine⟨l,us,u,rfl,rfl,hl,k1,?_⟩
   obtain⟨F',st,ow⟩:=m5 (upd H1 l (.lst us.dropLast)) (l::g2) f2 (fun a o h _ hn=>qS h hn)
    (fun a h=>fW h)
    (.lst bX (k3.updL hl rfl n1)) (by rw [ZU,Zp];exact⟨nl,nd3⟩) (fun a ha=> .inl ha)
   exact q u _ F' f2 st ow (k2.updL hl rfl n2)
def rF:D->D->D->Option (Unit×D)
 | .int i,y,.lst true xs=>(ixN xs.length i).bind fun n=>some ((),.lst true (xs.set n y))
 |_,_,_=>none
def gG(j:Nat)(pf:PSt->Option (List Ps1))(fi fe:tz2):tz1:=fun ps=>(fe ps).bind fun y=>((ps[j]?).join).bind fun d0=>(pf ps).bind fun p=>(fi ps).bind fun i=>(fS (rF i y) d0 p).bind fun r=>some (.nx,ps.set j (some r.2))
theorem zw6(h:rF i y d=some (r,d')):∃k xs n,i= .int k/\d= .lst true xs/\ixN xs.length k=some n/\d'= .lst true (xs.set n y):=by
 unfold rF at h
 split at h
 ·obtain⟨n,h1,h2⟩:=bind_some h
  cases h2
  exact⟨_,_,n,rfl,rfl,h1,rfl⟩
 ·cases h
theorem qU(hb:φ.bor j=false)(he:PE X e (tP X.K U fe))(ho:PE X o (nI X.K U j pf))(hi:PE X i (tV X.K U fi))(hs:swapsWithSole [.Subscript o i apos] e pos.line X.env=pure false:=by rfl)(hw:swappedStores [.Subscript o i apos] e X.env=pure none:=by rfl)
  (h1:(assignEach [.Subscript o i apos] X.env).map (·.2)=[assign (.Subscript o i apos) X.env]:=by rfl)
  (ha:∀v,assign (.Subscript o i apos) X.env v=(do
   let ov<-holding [v] (eval o X.env)
   let iv<-holding [v,ov] (eval i X.env)
   standAt apos
   holding [v,ov,iv] (setItem ov iv v)
   release [v,ov,iv] []):=by intro _;rfl):QS X U φ (.Assign [.Subscript o i apos] e pos) (gG j pf fi fe):=
 (yj2 he (xm3 ho hi yt5 ha) hs hw h1).imp fun E σ H hh_=>by
  obtain⟨ps,F,fl,ps',R,e,q⟩:=hh_
  obtain⟨y,e1,e2⟩:=bind_some e
  obtain⟨d0,e3,e4⟩:=bind_some e2
  have e0:=join_some e3
  obtain⟨p,e5,e6⟩:=bind_some e4
  obtain⟨iv,e7,e8⟩:=bind_some e6
  obtain⟨⟨r,d0'⟩,em,e9⟩:=bind_some e8
  cases e9
  obtain⟨dd,dn,gp,hh⟩:=mK em
  refine⟨ps,y,R.ws,e1,fun v H1 fy s1 n1 nd1 ry=>⟨ps,p,d0,dd,R.ws.same s1,e0,e5,gp,fun lv H2 v0 s2 ev a2=>⟨ps,iv,(R.ws.same s1).same s2,e7,fun u H3 fu s3 r3=> ?_⟩⟩⟩
  have s13:=(s1.trans s2).trans s3
  obtain⟨d1,d1',fd,m1,m2,m3,m4,m5⟩:=sV R s13 hb e0 ev em (a2.same s3)
  obtain⟨k,xs,n,rfl,rfl,hn,rfl⟩:=zw6 m2
  obtain⟨l,us,g1,rfl,hl,hr,rfl⟩:=m1.lstT_inv
  have ln:=hr.length
  have ry3:=(ry.same s2).same s3
  obtain⟨nl,nd3⟩:=Zp.mp m3
  have own0:∀a∈l::g1,H a≠none:=fun a ha z=>by obtain⟨o,h,_⟩:=R.own (m4 a ha);rw [z] at h;cases h
  have nl2:l∉fy:=fun z=>own0 l Z0 (n1 l z)
  obtain⟨f1,rest,g2,k1,k2,k3⟩:=hr.setV (n:=n) (xB hn).2.1 ry3
  have mem2:∀a∈g2,a∈fy\/a∈g1:=fun a ha=>(ZE.mp (k3.mem_iff.mp ha)).elim .inl fun z=> .inr (k1.mem_iff.mpr (Zd _ z))
  have n2:l∉g2:=fun z=>(mem2 l z).elim nl2 nl
  refine⟨l,us,k,n,rfl,r3.is_int,hl,by rw [ln];exact hn,?_⟩
  obtain⟨F',st,ow⟩:=m5 (upd H3 l (.lst (us.set n v))) (l::g2) [] (fun a o h _ hn=>qS h hn)
   (fun a h=>fW h)
   (.lst bX (k2.updL hl rfl n2))
   (by
    rw [Zh,Zp]
    refine⟨n2,k3.nodup_iff.mpr (Zz.mpr ⟨nd1,?_,fun a ha b hb e=> ?_⟩)⟩
    ·exact(Zz.mp (k1.nodup_iff.mp nd3)).2.1
    ·subst e
     exact own0 a (Z1 _ (k1.mem_iff.mpr (Zd _ hb))) (n1 a ha))
   (fun a ha=>by
    rw [Zh] at ha
    rcases Za.mp ha with z|z
    ·exact .inl (by rw [z];exact Z0)
    ·exact(mem2 a z).elim (fun z=> .inr (n1 a z)) fun z=> .inl (Z1 _ z))
  exact q _ _ F' st
end
section
variable{φ:Fx}{H H1:Hp}{σ σ1:St}{ps ps1:PSt}{F F1:Nat->List Addr}
theorem Stp.set'(s1:Stp φ σ H F σ1 H1 ps1 F1)(o:OwnV F H F1 fv)(R:RS φ H σ ps F)(r:Rep φ.K φ.U H1 v d fv)(hb:φ.bor i=false\/fv=[])(hm:φ.M i=false):
  ∃F',Stp φ σ H F (σ1.set i (some v)) H1 (ps1.set i (some d)) F'/\∀k a,a∈F' k->a∈fv\/a∈F1 k:=by
 refine⟨_,⟨s1.fr,fun j a h=> ?_,s1.rs.set r hb (fun j _=>o.dis j) o.nd fun a ha=>R.notB (o.nw a ha),fun j h=> ?_⟩,fun k a h=> ?_⟩
 ·rcases jN h with z|z
  ·by_cases k:i<ps1.length
   ·rw [if_pos k] at z;exact o.nw a z
   ·rw [if_neg k] at z;exact absurd z (by simp)
  ·exact s1.nw j a z
 ·rw [Zs (fun z=>by subst z;rw [hm] at h;cases h)]
  exact s1.msk j h
 ·rcases jN h with z|z
  ·by_cases k:i<ps1.length
   ·rw [if_pos k] at z;exact .inl z
   ·rw [if_neg k] at z;exact absurd z (by simp)
  ·exact .inr z
def setN:St->List Nat->List V->St
 |σ,i::is,v::vs=>setN (σ.set i (some v)) is vs
 |σ,_,_=>σ
def sO:PSt->List Nat->List D->PSt
 |ps,i::is,d::ds=>sO (ps.set i (some d)) is ds
 |ps,_,_=>ps
def tM:List Nat->TGs
 |[]=>xr8
 |i::is=>xd3 (uW i) (tM is)
theorem rP:∀{is:List Nat} {vs:List V} {σ:St},vs.length=is.length->Q (setN σ is vs) H->tM is vs σ H Q
 |[],[],σ,_,q=>⟨rfl,q⟩
 |i::is,v::vs,σ,h,q=>⟨v,vs,rfl,rP (is:=is) (by simpa using h) q⟩
 |[],_::_,_,h,_=>by simp at h
 |_::_,[],_,h,_=>by simp at h
theorem Stp.setN(R:RS φ H σ ps F):∀{is:List Nat} {vs:List V} {ds:List D} {g:List Addr} {σ1:St} {ps1:PSt} {F1:Nat->List Addr},Stp φ σ H F σ1 H1 ps1 F1->OwnV F H F1 g->Reps φ.K φ.U H1 vs ds g->(∀i∈is,φ.bor i=false/\φ.M i=false)->
  ∃F',Stp φ σ H F (L2.setN σ1 is vs) H1 (sO ps1 is ds) F':=by
 intro is
 induction is with
 |nil=>intro vs ds g σ1 ps1 F1 s _ _ _;exact⟨F1,by simpa [L2.setN,sO] using s⟩
 | cons i is ih=>
  intro vs ds g σ1 ps1 F1 s o r hi
  cases ds with
  |nil=>cases r;exact⟨F1,by simpa [L2.setN,sO] using s⟩
  |cons d ds=>
   obtain⟨v,us,f,g',rfl,h,hs,rfl⟩:=r.split
   obtain⟨nd1,nd2,nd3⟩:=Zz.mp o.nd
   obtain⟨F2,s2,hF⟩:=s.set' (i:=i) (fv:=f) ⟨fun a ha=>o.nw a (Zu _ ha),nd1,fun k a ha hf=>o.dis k a ha (Zu _ hf)⟩ R h (.inl (hi i Z0).1) (hi i Z0).2
   refine ih s2 ⟨fun a ha=>o.nw a (Zd _ ha),nd2,fun k a ha hg=> ?_⟩ hs fun k hk=>hi k (Z1 _ hk)
   rcases hF k a ha with z|z
   ·exact nd3 a z a hg rfl
   ·exact o.dis k a z (Zd _ hg)
end
def zu4:D->Option (List D)
 | .lst _ ds=>some ds
 | .tup ds=>some ds
 |_=>none
def wM(is:List Nat)(f:tz8):tz1:=fun ps=>(f ps).bind fun r=>(zu4 r.1).bind fun ds=>if ds.length=is.length then some (.nx,sO r.2 is ds) else none
section
variable{X:Cx}{U:tz9}{φ:F0}{es:List Expr}{pos p:Pos}{k:Nat}{is:List Nat}{e:Expr}{f:tz8}
theorem ym9(hc:X.calm=true)(h:PGs X es t)
  (hn:(assignEach es X.env).length=n:=by rfl) (hst:(assignEach es X.env).findIdx? (·.1)=none:=by rfl):PG X (.Tuple es k pos) (fun v σ H Q=>xa9 X.K n t v σ H Q\/xa3 X.K n t v σ H Q):=⟨by
 intro pins s σ H v u Q I r hw
 rcases hw with hw|hw
 ·exact xo3 hc h hn hst pins s σ H v u Q I r hw
 ·exact xm2 hc h hn hst pins s σ H v u Q I r hw⟩
theorem yn0(hc:X.calm=true)(hg:PGs X es (tM is))(he:QE X U φ e f)(hb:∀i∈is,φ.bor i=false/\φ.M i=false)(hn:(assignEach es X.env).length=is.length:=by rfl)(hst:(assignEach es X.env).findIdx? (·.1)=none:=by rfl)
  (hs:swapsWithSole [.Tuple es k p] e pos.line X.env=pure false:=by rfl) (hw:swappedStores [.Tuple es k p] e X.env=pure none:=by rfl)
  (h1:(assignEach [.Tuple es k p] X.env).map (·.2)=[assign (.Tuple es k p) X.env]:=by rfl):QS X U φ (.Assign [.Tuple es k p] e pos) (wM is f):=
 (yj2 he (ym9 (n:=is.length) hc hg hn hst) hs hw h1).imp fun E σ H hh_=>by
  obtain⟨ps,F,fl,ps',R,e,q⟩:=hh_
  obtain⟨⟨d,ps1⟩,e1,e2⟩:=bind_some e
  obtain⟨ds,e3,e4⟩:=bind_some e2
  obtain⟨hl,e5⟩:=bQ e4
  cases e5
  refine⟨ps,F,d,ps1,R,e1,fun v H' F' fv s o r=> ?_⟩
  cases d with
  |lst ow xs=>
   cases e3
   obtain⟨a,vs,g,rfl,h,hs,sub⟩:=r.lst_inv
   have ln:=hs.length
   obtain⟨F2,s2⟩:=Stp.setN R s ⟨fun a ha=>o.nw a (sub.subset ha),o.nd.sublist sub,fun k a ha hg=>o.dis k a ha (sub.subset hg)⟩ hs hb
   exact .inl ⟨a,vs,rfl,.inl h,by omega,rP (by omega) (q _ _ F2 s2)⟩
  |tup xs=>
   cases e3
   obtain⟨a,vs,rfl,h,hs⟩:=r.tup_inv
   have ln:=hs.length
   obtain⟨F2,s2⟩:=Stp.setN R s ⟨fun a ha=>absurd ha (by simp),Zf,fun k a ha hg=>absurd hg (by simp)⟩ hs hb
   exact .inr ⟨a,vs,rfl,h,by omega,rP (by omega) (q _ _ F2 s2)⟩
  |_=>cases e3
end
def D.key:D->Option Key
 | .int i=>some (.inl i)
 | .str x=>some (.inr x)
 |_=>none
theorem xE{K:tz0}{U:tz9}{H:Hp}{v:V}{d:D}{fp:List Addr}{k:Key}(r:Rep K U H v d fp)(h:d.key=some k):v=kV k:=by
 cases r<;>first|(cases h;rfl)|cases h
def iC{α:Type}[DecidableEq α]:List α->List D->α->Option D
 |k::ks,d::ds,j=>if k=j then some d else iC ks ds j
 |_,_,_=>none
def jT:D->D->Option D
 | .dic _ ks ds,y=>y.key.bind fun k=>iC ks ds k
 | .dit _ ks ds,.kt k=>iC ks ds k
 |_,_=>none
theorem yD{K:tz0}{U:tz9}{H:Hp}{α:Type}[DecidableEq α]:∀{kvs:List (α×V)} {ks:List α} {ds:List D} {g:List Addr} {k:α} {d:D},kvs.map (·.1)=ks->Reps K U H (kvs.map (·.2)) ds g->iC ks ds k=some d->∃v f,nY kvs k=some v/\Rep K U H v d f/\f.Sublist g
 |[],_,_,_,_,_,e,r,h=>by subst e;cases r;cases h
 | (k0,v0)::kvs,_,_,_,k,d,e,.cons (f:=f) (g:=g) h hs,q=>by
  subst e
  rw [Zb,iC] at q
  by_cases z:k0=k
  ·rw [if_pos z] at q
   cases q
   exact⟨v0,f,qO z,h,XG _ _⟩
  ·rw [if_neg z] at q
   obtain⟨v,f',q1,q2,q3⟩:=yD rfl hs q
   exact⟨v,f',by rw [qP z];exact q1,q2,q3.trans (XB _ _)⟩
theorem Rep.dic_inv{K:tz0}{U:tz9}{H:Hp}{v:V}{o:Bool}{ks:List Key}{ds:List D}{fp:List Addr}(r:Rep K U H v (.dic o ks ds) fp):∃a kvs g,v= .ref a/\Rd H a (.dK kvs)/\kvs.map (·.1)=ks/\Reps K U H (kvs.map (·.2)) ds g/\g.Sublist fp:=by
 cases r with
 |dic h e hs=>exact⟨_,_,_,rfl,.inl h,e,hs,Yr _ _⟩
 |dicF h e hs=>exact⟨_,_,_,rfl,.inr ⟨_,h⟩,e,hs,.refl _⟩
theorem Rep.dit_inv{K:tz0}{U:tz9}{H:Hp}{v:V}{o:Bool}{ks:List (List Key)}{ds:List D}{fp:List Addr}(r:Rep K U H v (.dit o ks ds) fp):∃a kvs g,v= .ref a/\Rd H a (.dT kvs)/\kvs.map (·.1)=ks/\Reps K U H (kvs.map (·.2)) ds g/\g.Sublist fp:=by
 cases r with
 |dit h e hs=>exact⟨_,_,_,rfl,.inl h,e,hs,Yr _ _⟩
 |ditF h e hs=>exact⟨_,_,_,rfl,.inr ⟨_,h⟩,e,hs,.refl _⟩
theorem Rep.kt_inv{K:tz0}{U:tz9}{H:Hp}{v:V}{ks:List Key}{fp:List Addr}(r:Rep K U H v (.kt ks) fp):∃b,v= .ref b/\H b=some (.tup (ks.map kV)):=by
 cases r with
 |kt h=>exact⟨_,rfl,h⟩
section
variable{X:Cx}{U:tz9}{a b:Expr}{fa fb:tz2}{pos:Pos}
theorem xg5{K:tz0}{H:Hp}{x y:V}{dx dy d:D}{fx fy:List Addr}{Q:VK}(r1:Rep K U H x dx fx)(r2:Rep K U H y dy fy)(e:jT dx dy=some d)(q:∀v f,Rep K U H v d f->f.Sublist fx->Q v H):∃a v,x= .ref a/\ze5 H a y (some v)/\Q v H:=by
 cases dx with
 |dic o ks ds=>
  obtain⟨k,e1,e2⟩:=bind_some e
  obtain⟨a,kvs,g,rfl,h,hk,hs,sub⟩:=r1.dic_inv
  obtain⟨v,f,q1,q2,q3⟩:=yD hk hs e2
  exact⟨a,v,rfl,.inl ⟨kvs,k,h,xE r2 e1,q1.symm⟩,q v f q2 (q3.trans sub)⟩
 | dit o ks ds=>
  cases dy with
  |kt k=>
   obtain⟨a,kvs,g,rfl,h,hk,hs,sub⟩:=r1.dit_inv
   obtain⟨b,rfl,hb⟩:=r2.kt_inv
   obtain⟨v,f,q1,q2,q3⟩:=yD hk hs e
   exact⟨a,v,rfl,.inr ⟨kvs,k,b,h,rfl,hb,q1.symm⟩,q v f q2 (q3.trans sub)⟩
  |_=>cases e
 |_=>cases e
theorem sW(hu:X.A.units+1<cLine)(ha:QV X U a fa)(hb:QV X U b fb)(hs:xa8 b:=by exact fun _ _=>rfl):QV X U (.Subscript a b pos) (f2 jT fa fb):=
 (xf7 hu ha hb hs).imp fun σ H Q hh_=>by
  obtain⟨ps,d,w,e,q⟩:=hh_
  obtain⟨x,y,e1,e2,e3⟩:=sS e
  exact⟨ps,x,w,e1,fun v H1 fp s1 r1=>⟨ps,y,w.same s1,e2,fun u H2 fq s2 r2=>xg5 (r1.same s2) r2 e3 fun v f r _=>q v H2 f (s1.trans s2) r⟩⟩
end
def fxE(K:tz0)(U:tz9)(np:Nat)(m:Nat->Bool):Fx:=⟨K,U,fun i=>decide (i<np)&& !m i,m,fun _ _=>False⟩
def f0E(np:Nat)(m:Nat->Bool):F0:=⟨fun i=>decide (i<np)&& !m i,m,fun _ _=>False⟩
def SpE(np:Nat)(K:tz0)(U:tz9)(m:Nat->Bool)(g:tz7):Sp:=fun vs H Q _=>vs.length=np/\∃ds r ds' F,ds.length=np/\RS (fxE K U np m) H (vs.map some) (ds.map some) F/\g ds=some (r,ds')/\
 ∀v H' F' fv,Stp (fxE K U np m) (vs.map some) H F (vs.map some) H' (ds'.map some) F'->OwnV F H F' fv->Rep K U H' v r fv->Q v H'
def uZ(m:Nat->Bool)(ps:PSt):Nat->List D->Option (List D)
 |_,[]=>some []
 |i,d::ds=>(if m i=true then(ps[i]?).join else some d).bind fun d'=>(uZ m ps (i+1) ds).bind fun ds'=>some (d'::ds')
theorem zg6:∀{ds ds':List D} {i:Nat},uZ m ps i ds=some ds'->ds'.length=ds.length/\∀(k:Nat) (d':D),ds'[k]? =some d'->(m (i+k)=true->ps[i+k]? =some (some d'))/\(m (i+k)=false->ds[k]? =some d')
 |[],_,_,e=>by cases e;exact⟨rfl,fun k d' h=>by simp at h⟩
 | d::ds,_,i,e=>by
  obtain⟨d1,e1,e2⟩:=bind_some e
  obtain⟨ds1,e3,e4⟩:=bind_some e2
  cases e4
  obtain⟨l,h⟩:=zg6 e3
  refine⟨by simp [l],fun k d' hk=> ?_⟩
  cases k with
  |zero=>
   simp at hk;subst hk
   refine⟨fun z=> ?_,fun z=> ?_⟩
   ·rw [Xb] at z|-;rw [if_pos z] at e1;exact join_some e1
   ·rw [Xb] at z;rw [if_neg (by rw [z];simp)] at e1;simpa using e1
  |succ k=>
   obtain⟨h1,h2⟩:=h k d' (by simpa using hk)
   have ea:i+(k+1)=i+1+k:=by omega
   rw [ea]
   exact⟨h1,fun z=>by simpa using h2 z⟩
def gE(np n:Nat)(m:Nat->Bool)(f:tz1):tz7:=fun ds=>if ds.length=np then(f (ds.map some++List.replicate n none)).bind fun r=>match r with
 |(.ret d,ps)=>(uZ m ps 0 ds).bind fun ds'=>some (d,ds')
 |(.nx,ps)=>(uZ m ps 0 ds).bind fun ds'=>some (.non,ds')
 |_=>none
 else none
theorem RS.more(R:RS φ H σ ps F)(hl:ps.length=σ.length)(h2:n<=σ2.length):RS φ H (σ++σ2) (ps++List.replicate n none) F:=by
 refine⟨fun i d h=> ?_,fun i a h=> ?_,R.dis,R.nd,R.nb,R.bt,by simp [hl];omega⟩
 ·by_cases hi:i<ps.length
  ·rw [ZN hi] at h
   rw [ZN (by omega)]
   exact R.rep i d h
  ·rw [Yg (by omega),Yn] at h
   split at h<;>cases h
 ·obtain⟨b,d,e⟩:=R.emp i a h
  have hi:=(Z7.mp e).1
  exact⟨b,d,by rw [ZN hi];exact e⟩
theorem zp4{K:tz0}{U:tz9}{np n:Nat}{m:Nat->Bool}{H H':Hp}{vs:List V}{σ2 σ':St}{ds ds':List D}{ps':PSt}{F F':Nat->List Addr}{fv:List Addr}(hm:∀i,m i=true->i<np)(hl:vs.length=np)(hd:ds.length=np)(R:RS (fxE K U np m) H (vs.map some) (ds.map some) F)
  (s:Stp (fxE K U np m) (vs.map some++σ2) H F σ' H' ps' F') (o:OwnV F H F' fv) (e:uZ m ps' 0 ds=some ds'):
  ∃F2,Stp (fxE K U np m) (vs.map some) H F (vs.map some) H' (ds'.map some) F2/\OwnV F H F2 fv:=by
 obtain⟨l,ho⟩:=zg6 e
 have sub:∀i a,a∈(if m i=true then F' i else [])->m i=true/\a∈F' i:=fun i a h=>by
  by_cases z:m i=true
  ·rw [if_pos z] at h;exact⟨z,h⟩
  ·rw [if_neg z] at h;exact absurd h (by simp)
 have tfk:∀a u,H a=some u->tf u=true->H' a=some u:=fun a u h t=>s.fr.keep a u h (mH t) fun i hi=>by
  obtain⟨u',h',_,t'⟩:=R.own hi
  rw [h] at h';cases h';rw [t] at t';cases t'
 have mb:∀i,m i=true->(fxE K U np m).bor i=false:=fun i h=>by simp [fxE,h]
 refine⟨fun i=>if m i=true then F' i else [],⟨s.fr,fun i a h=>s.nw i a (sub i a h).2,⟨fun i d h=> ?_,fun i a h=> ?_,fun i j a h1 h2=>s.rs.dis i j a (sub i a h1).2 (sub j a h2).2,fun i=> ?_,fun i a h=>s.rs.nb i a (sub i a h).2,fun _ a h=>h.elim,by simp [l,hl,hd]⟩,fun _ _=>rfl⟩,⟨o.nw,o.nd,fun i a h=>o.dis i a (sub i a h).2⟩⟩
 ·rw [Zi] at h
  cases q:ds'[i]? with
  |none=>rw [q] at h;cases h
  | some d1=>
   rw [q] at h;cases h
   obtain⟨h1,h2⟩:=ho i d q
   rw [Yt] at h1 h2
   by_cases z:m i=true
   ·obtain⟨v,fp,k1,k2,k3,_⟩:=s.rs.rep i d (h1 z)
    refine⟨v,fp,?_,k2,fun _=>by rw [if_pos z];exact k3 (mb i z),fun w=>by rw [mb i z] at w;cases w⟩
    rw [<-k1]
    have:=s.msk i z
    rw [this,ZN (by simp [hl];exact hm i z)]
   ·have zf:m i=false:=by simpa using z
    have hi:(ds.map some)[i]? =some (some d):=by rw [Zi,h2 zf];rfl
    have hib:(fxE K U np m).bor i=true:=by
     have:=(Z7.mp (h2 zf)).1
     simp [fxE,zf];omega
    obtain⟨v,fp,k1,k2,_,k4⟩:=R.rep i d hi
    have efp:fp=[]:=by
     cases fp with
     |nil=>rfl
     |cons a r=>exact(k4 hib a Z0).elim
    subst efp
    exact⟨v,[],k1,k2.move tfk (fun a ha=>absurd ha (by simp)),(fun w=>by rw [hib] at w;cases w),(fun _ a ha=>absurd ha (by simp))⟩
 ·obtain⟨z,h⟩:=sub i a h
  refine⟨mb i z,?_⟩
  have hi:i<ds'.length:=by rw [l,hd];exact hm i z
  exact⟨ds'[i],by rw [Zi,Zn hi];rfl⟩
 ·by_cases z:m i=true
  ·rw [if_pos z];exact s.rs.nd i
  ·rw [if_neg z];exact Zf
section
variable{P:Program}{w:World}{K:tz0}{mg:tzA}{base:Heap}{U:tz9}
theorem pX{x qual:Str}{st:Stmt}{f:Addr}{fd:FuncData}{N ps:List Str}{k:Nat}{fb:tz1}{m:Nat->Bool}(F:Fun K x qual st f fd)(S:FnScope N ps (bE st))(hm:∀i,m i=true->i<ps.length)
  (hbody:∀(cdv:Value) (A:Around) (outer:List Env) (s:Shared) (H:Hp) (E:XK),Room k (A.deeper (envOfC qual (bE st) s.heap.objs.size f cdv))->
   QSs (wK CX0 P w K mg base N qual (bE st) f cdv A outer s H E).nox U (f0E ps.length m) (mT st) fb):
  FnOk P w K mg base CX0 (k+1) f fd ps (SpE ps.length K U m (gE ps.length (N.length-ps.length) m fb)):=by
 refine F.ok S (fun vs H Q E h=>h.1) fun cdv A outer s H vs Q E hr ⟨hl,ds,r,ds',F0,hd,R,e,q⟩=>⟨_,hbody cdv A outer s H E hr,?_⟩
 have hn:ps.length<=N.length:=by have:=ZS List.length S.pre;rw [Yi] at this;omega
 unfold gE at e
 obtain⟨_,e0⟩:=bQ e
 obtain⟨⟨fl,ps'⟩,e1,e2⟩:=bind_some e0
 have R0:=R.more (σ2:=List.replicate (N.length-vs.length) none) (n:=N.length-ps.length) (by simp [hl,hd]) (by simp [hl])
 refine⟨_,F0,fl,ps',R0,e1,?_⟩
 cases fl with
 | ret d'=>
  obtain⟨ds1,e3,e4⟩:=bind_some e2
  cases e4
  exact fun v σ' H' F' fv s o rv=>by
   obtain⟨F2,s2,o2⟩:=zp4 (n:=0) hm hl hd R s o e3
   exact q v H' F2 fv s2 o2 rv
 | nx=>
  obtain⟨ds1,e3,e4⟩:=bind_some e2
  cases e4
  exact fun σ' H' F' s=>by
   obtain⟨F2,s2,o2⟩:=zp4 (n:=0) (fv:=[]) hm hl hd R s ⟨fun _ h=>absurd h (by simp),Zf,fun _ _ _ h=>absurd h (by simp)⟩ e3
   exact q .non H' F2 [] s2 o2 .non
 |bk=>cases e2
 |ct=>cases e2
end
set_option genInjectivity true in
inductive Arg where
 |io (j:Nat)|im (f:tz2)
def cV:List Arg->tz3
 |[],_=>some []
 | .io j::as,ps=>((ps[j]?).join).bind fun d=>(cV as ps).bind fun ds=>some (d::ds)
 | .im f::as,ps=>(aZ f ps).bind fun d=>(cV as ps).bind fun ds=>some (d::ds)
def lS:List Arg->Nat->Bool
 | .io _::_,0=>true
 |_::as,i+1=>lS as i
 |_,_=>false
def slots:List Arg->List Nat
 |[]=>[]
 | .io j::as=>j::slots as
 | .im _::as=>slots as
def iL:PSt->List Arg->List D->PSt
 |ps,.io j::as,d::ds=>iL (ps.set j (some d)) as ds
 |ps,.im _::as,_::ds=>iL ps as ds
 |ps,_,_=>ps
inductive ArgsAt(K:tz0)(U:tz9)(H:Hp)(σ:St)(ps:PSt):List Arg->List V->List D->Prop
 |nil:ArgsAt K U H σ ps [] [] []
 |io {j:Nat} {as:List Arg} {v:V} {vs:List V} {d:D} {ds:List D}:σ[j]? =some (some v)->ps[j]? =some (some d)->ArgsAt K U H σ ps as vs ds->ArgsAt K U H σ ps (.io j::as) (v::vs) (d::ds)
 |im {f:tz2} {as:List Arg} {v:V} {vs:List V} {d:D} {ds:List D}:Rep K U H v d []->ArgsAt K U H σ ps as vs ds->ArgsAt K U H σ ps (.im f::as) (v::vs) (d::ds)
theorem ArgsAt.len{K:tz0}{U:tz9}{H:Hp}{σ:St}{ps:PSt}:∀{as:List Arg} {vs:List V} {ds:List D},ArgsAt K U H σ ps as vs ds->vs.length=as.length/\ds.length=as.length
 |_,_,_,.nil=>⟨rfl,rfl⟩
 |_,_,_,.io _ _ h=>by have:=h.len;simp [this]
 |_,_,_,.im _ h=>by have:=h.len;simp [this]
theorem ArgsAt.get{K:tz0}{U:tz9}{H:Hp}{σ:St}{ps:PSt}:∀{as:List Arg} {vs:List V} {ds:List D} {i:Nat} {d:D},ArgsAt K U H σ ps as vs ds->ds[i]? =some d->∃v,vs[i]? =some v/\((∃j,as[i]? =some (.io j)/\lS as i=true/\σ[j]? =some (some v)/\ps[j]? =some (some d))\/(lS as i=false/\Rep K U H v d []))
 |_,_,_,_,_,.nil,e=>by simp at e
 |_,_,_,0,_,.io h1 h2 _,e=>by simp at e;subst e;exact⟨_,rfl,.inl ⟨_,rfl,rfl,h1,h2⟩⟩
 |_,_,_,0,_,.im r _,e=>by simp at e;subst e;exact⟨_,rfl,.inr ⟨rfl,r⟩⟩
 |_,_,_,i+1,_,.io _ _ h,e=>by
  obtain⟨v,h1,h2⟩:=ArgsAt.get (i:=i) h (by simpa using e)
  exact⟨v,by simpa using h1,by simpa [lS] using h2⟩
 |_,_,_,i+1,_,.im _ h,e=>by
  obtain⟨v,h1,h2⟩:=ArgsAt.get (i:=i) h (by simpa using e)
  exact⟨v,by simpa using h1,by simpa [lS] using h2⟩
theorem zc6:∀{as:List Arg} {i:Nat},lS as i=true->∃j,as[i]? =some (.io j)
 | .io j::_,0,_=>⟨j,rfl⟩
 | .im _::_,0,h=>by cases h
 | .io _::as,i+1,h=>by obtain⟨j,e⟩:=zc6 (as:=as) (i:=i) h;exact⟨j,by simpa using e⟩
 | .im _::as,i+1,h=>by obtain⟨j,e⟩:=zc6 (as:=as) (i:=i) h;exact⟨j,by simpa using e⟩
 |[],_,h=>by cases h
theorem nV:∀{as:List Arg} {i j:Nat},as[i]? =some (.io j)->lS as i=true
 | .io _::_,0,_,_=>rfl
 | .im _::_,0,_,h=>by simp at h
 | .io _::as,i+1,j,h=>nV (as:=as) (i:=i) (j:=j) (by simpa using h)
 | .im _::as,i+1,j,h=>nV (as:=as) (i:=i) (j:=j) (by simpa using h)
 |[],_,_,h=>by simp at h
theorem iO:∀{as:List Arg} {i j:Nat},as[i]? =some (.io j)->j∈slots as
 | .io _::_,0,_,h=>by simp at h;subst h;exact Z0
 | .im _::_,0,_,h=>by simp at h
 | .io _::as,i+1,j,h=>Z1 _ (iO (as:=as) (i:=i) (by simpa using h))
 | .im _::as,i+1,j,h=>iO (as:=as) (i:=i) (by simpa using h)
 |[],_,_,h=>by simp at h
theorem vR:∀{as:List Arg} {i k j:Nat},(slots as).Nodup->as[i]? =some (.io j)->as[k]? =some (.io j)->i=k
 |[],_,_,_,_,h,_=>by simp at h
 |a::as,0,0,_,_,_,_=>rfl
 | .io j'::as,0,k+1,j,nd,h1,h2=>by
  simp at h1;subst h1
  exact absurd (iO (as:=as) (i:=k) (by simpa using h2)) (Zp.mp nd).1
 | .im _::as,0,k+1,j,_,h1,_=>by simp at h1
 | .io j'::as,i+1,0,j,nd,h1,h2=>by
  simp at h2;subst h2
  exact absurd (iO (as:=as) (i:=i) (by simpa using h1)) (Zp.mp nd).1
 | .im _::as,i+1,0,j,_,_,h2=>by simp at h2
 | .io j'::as,i+1,k+1,j,nd,h1,h2=>by rw [vR (as:=as) (i:=i) (k:=k) (j:=j) (Zp.mp nd).2 (by simpa using h1) (by simpa using h2)]
 | .im _::as,i+1,k+1,j,nd,h1,h2=>by rw [vR (as:=as) (i:=i) (k:=k) (j:=j) nd (by simpa using h1) (by simpa using h2)]
def fF:List Arg->Nat->Option Nat
 |[],_=>none
 | .io i::as,j=>if i=j then some 0 else(fF as j).map (·+1)
 | .im _::as,j=>(fF as j).map (·+1)
theorem lK:∀{as:List Arg} {j i:Nat},fF as j=some i->as[i]? =some (.io j)
 |[],_,_,h=>by cases h
 | .io k::as,j,i,h=>by
  rw [fF] at h
  by_cases z:k=j
  ·rw [if_pos z] at h;cases h;rw [z];rfl
  ·rw [if_neg z] at h
   cases q:fF as j with
   |none=>rw [q] at h;cases h
   |some n=>rw [q] at h;cases h;simpa using lK q
 | .im _::as,j,i,h=>by
  rw [fF] at h
  cases q:fF as j with
  |none=>rw [q] at h;cases h
  |some n=>rw [q] at h;cases h;simpa using lK q
theorem jO:∀{as:List Arg} {j:Nat},fF as j=none->j∉slots as
 |[],_,_=>by simp [slots]
 | .io k::as,j,h=>by
  rw [fF] at h
  by_cases z:k=j
  ·rw [if_pos z] at h;cases h
  ·rw [if_neg z] at h
   have h':fF as j=none:=by
    cases q:fF as j with
    |none=>rfl
    |some n=>rw [q] at h;cases h
   exact fun hm=>(Za.mp hm).elim (fun e=>z e.symm) (jO h')
 | .im _::as,j,h=>by
  rw [fF] at h
  have h':fF as j=none:=by
   cases q:fF as j with
   |none=>rfl
   |some n=>rw [q] at h;cases h
  exact fun hm=>jO (as:=as) h' hm
theorem uB:∀{as:List Arg} {ds:List D} {ps:PSt},(iL ps as ds).length=ps.length
 |[],_,_=>by simp [iL]
 | .io j::as,[],_=>by simp [iL]
 | .im _::as,[],_=>by simp [iL]
 | .io j::as,d::ds,ps=>by rw [iL,uB (as:=as)];simp
 | .im _::as,d::ds,ps=>by rw [iL,uB (as:=as)]
theorem nA:∀{as:List Arg} {ds:List D} {ps:PSt} {j:Nat},j∉slots as->(iL ps as ds)[j]? =ps[j]?
 |[],_,_,_,_=>by simp [iL]
 | .io _::_,[],_,_,_=>by simp [iL]
 | .im _::_,[],_,_,_=>by simp [iL]
 | .io k::as,d::ds,ps,j,h=>by
  rw [iL,nA (as:=as) (fun z=>h (Z1 _ z)),Zs (fun z=>h (by rw [<-z];exact Z0))]
 | .im _::as,d::ds,ps,j,h=>by rw [iL];exact nA (as:=as) h
theorem xF:∀{as:List Arg} {ds:List D} {ps:PSt} {i j:Nat} {d:D},(slots as).Nodup->as[i]? =some (.io j)->ds[i]? =some d->j<ps.length->(iL ps as ds)[j]? =some (some d)
 |[],_,_,_,_,_,_,h,_,_=>by simp at h
 |_::_,[],_,_,_,_,_,_,h,_=>by simp at h
 | .io k::as,d1::ds,ps,0,j,d,nd,h1,h2,h3=>by
  simp at h1 h2;subst h1;subst h2
  rw [iL,nA (Zp.mp nd).1,Zx h3]
 | .im _::as,d1::ds,ps,0,j,d,_,h1,_,_=>by simp at h1
 | .io k::as,d1::ds,ps,i+1,j,d,nd,h1,h2,h3=>by
  rw [iL];exact xF (Zp.mp nd).2 (by simpa using h1) (by simpa using h2) (by simpa using h3)
 | .im _::as,d1::ds,ps,i+1,j,d,nd,h1,h2,h3=>by
  rw [iL];exact xF (as:=as) nd (by simpa using h1) (by simpa using h2) h3
def oA(as:List Arg)(F:Nat->List Addr):Nat->List Addr:=fun i=>match as[i]? with
 |some (.io j)=>F j
 |_=>[]
theorem zy8(e:as[i]? =some (.io j)):oA as F i=F j:=by unfold oA;rw [e]
theorem zp5(h:b∈oA as F i):∃j,as[i]? =some (.io j)/\b∈F j:=by
 unfold oA at h
 cases q:as[i]? with
 |none=>rw [q] at h;exact absurd h (by simp)
 |some x=>
  cases x with
  |io j=>rw [q] at h;exact⟨j,rfl,h⟩
  |im _=>rw [q] at h;exact absurd h (by simp)
theorem zc7(e:lS as i=false):oA as F i=[]:=by
 unfold oA
 cases q:as[i]? with
 |none=>rfl
 |some x=>cases x with
  |io j=>rw [nV q] at e;cases e
  |im _=>rfl
theorem yv1{φ:Fx}{H:Hp}{σ:St}{ps:PSt}{F:Nat->List Addr}{as:List Arg}{vs:List V}{ds:List D}(R:RS φ H σ ps F)(nd:(slots as).Nodup)(hb:∀j∈slots as,φ.bor j=false)(a:ArgsAt φ.K φ.U H σ ps as vs ds):
  RS (fxE φ.K φ.U as.length (lS as)) H (vs.map some) (ds.map some) (oA as F):=by
 obtain⟨lv,ld⟩:=a.len
 have memF:∀i b,b∈oA as F i->∃j,as[i]? =some (Arg.io j)/\b∈F j:=fun i b h=>zp5 h
 refine⟨fun i d h=> ?_,fun i b h=> ?_,fun i k b h1 h2=> ?_,fun i=> ?_,fun i b h k z=>z.elim,fun k b z=>z.elim,by simp [lv,ld]⟩
 ·rw [Zi] at h
  cases q:ds[i]? with
  |none=>rw [q] at h;cases h
  | some d1=>
   rw [q] at h;cases h
   obtain⟨v,h1,h2⟩:=a.get q
   have hi:=(Z7.mp q).1
   refine⟨v,oA as F i,by rw [Zi,h1];rfl,?_,fun _=>rfl,fun z=> ?_⟩
   ·rcases h2 with ⟨j,e1,e2,e3,e4⟩|⟨e1,r⟩
    ·obtain⟨v',fp,k1,k2,k3,_⟩:=R.rep j d e4
     rw [e3] at k1;cases k1
     rw [zy8 e1]
     have:=k3 (hb j (iO e1))
     subst this
     exact k2
    ·rw [zc7 e1];exact r
   ·rcases h2 with ⟨j,e1,e2,_⟩|⟨e1,r⟩
    ·simp [fxE,e2] at z
    ·rw [zc7 e1];intro b hb;exact absurd hb (by simp)
 ·obtain⟨j,e,hj⟩:=memF i b h
  have hi:i<ds.length:=by rw [ld];exact(Z7.mp e).1
  exact⟨by simp [fxE,nV e],ds[i],by rw [Zi,Zn hi];rfl⟩
 ·obtain⟨j1,e1,m1⟩:=memF i b h1
  obtain⟨j2,e2,m2⟩:=memF k b h2
  have:=R.dis j1 j2 b m1 m2
  subst this
  exact vR nd e1 e2
 ·cases z:lS as i with
  |true=>obtain⟨j,e⟩:=zc6 z;rw [zy8 e];exact R.nd j
  |false=>rw [zc7 z];exact Zf
def rZ(as:List Arg)(F Fc:Nat->List Addr):Nat->List Addr:=fun j=>match fF as j with
 |some i=>Fc i
 |none=>F j
theorem yn1(h:b∈rZ as F Fc j):(∃i,fF as j=some i/\b∈Fc i)\/(fF as j=none/\b∈F j):=by
 unfold rZ at h
 cases q:fF as j with
 |none=>rw [q] at h;exact .inr ⟨rfl,h⟩
 |some i=>rw [q] at h;exact .inl ⟨i,rfl,h⟩
theorem zB(e:fF as j=some i):rZ as F Fc j=Fc i:=by unfold rZ;rw [e]
theorem zC(e:fF as j=none):rZ as F Fc j=F j:=by unfold rZ;rw [e]
theorem xg6{φ:Fx}{H H1 H':Hp}{σ:St}{ps:PSt}{F Fc':Nat->List Addr}{as:List Arg}{vs:List V}{ds ds':List D}{fv:List Addr}(R:RS φ H σ ps F)(s1:SameK H H1)(nd:(slots as).Nodup)(hb:∀j∈slots as,φ.bor j=false)(a:ArgsAt φ.K φ.U H1 σ ps as vs ds)(hl:ds'.length=as.length)
  (s:Stp (fxE φ.K φ.U as.length (lS as)) (vs.map some) H1 (oA as F) (vs.map some) H' (ds'.map some) Fc') (o:OwnV (oA as F) H1 Fc' fv):
  ∃F',Stp φ σ H F σ H' (iL ps as ds') F'/\OwnV F H F' fv:=by
 have memF:∀i b,b∈oA as F i->∃j,as[i]? =some (Arg.io j)/\b∈F j:=fun i b h=>zp5 h
 have nwA:∀b,((∃i,b∈oA as F i)\/H1 b=none)->(∃j∈slots as,b∈F j)\/H b=none:=fun b h=>by
  rcases h with ⟨i,h⟩|h
  ·obtain⟨j,e,m⟩:=memF i b h
   exact .inl ⟨j,iO e,m⟩
  ·exact .inr (s1.grow b h)
 have isDisj:∀b,((∃i,b∈Fc' i)\/b∈fv)->∀j,j∉slots as->b∉F j:=fun b h j hj hm=>by
  have h':(∃j∈slots as,b∈F j)\/H b=none:=by
   rcases h with ⟨i,h⟩|h
   ·exact nwA b (s.nw i b h)
   ·exact nwA b (o.nw b h)
  rcases h' with ⟨k,hk,hm2⟩|z
  ·exact hj (R.dis j k b hm hm2▸hk)
  ·obtain⟨u,q,_⟩:=R.own hm;rw [z] at q;cases q
 have keepN:∀b u,H b=some u->kd u=true->(∀j∈slots as,b∉F j)->H' b=some u:=fun b u h k n=>s.fr.keep b u (s1.keep b u h k) k fun i hi=>by
  obtain⟨j,e,m⟩:=memF i b hi
  exact n j (iO e) m
 have tfk:∀b u,H b=some u->tf u=true->H' b=some u:=fun b u h t=>keepN b u h (mH t) fun j _ hm=>by
  obtain⟨u',h',_,t'⟩:=R.own hm
  rw [h] at h';cases h';rw [t] at t';cases t'
 have posmem:∀j b,b∈rZ as F Fc' j->(∃i,fF as j=some i/\b∈Fc' i)\/(fF as j=none/\b∈F j):=fun j b h=>yn1 h
 refine⟨rZ as F Fc',⟨⟨fun b u h k n=>keepN b u h k fun j _=>n j,fun b h=>s1.grow b (s.fr.grow b h)⟩,fun j b h=> ?_,⟨fun j d h=> ?_,fun j b h=> ?_,fun j k b h1 h2=> ?_,fun j=> ?_,fun j b h=> ?_,fun kk b hB z=>R.bt kk b hB (s1.grow b (s.fr.grow b z)),by rw [uB];exact R.len⟩,fun _ _=>rfl⟩,⟨fun b hb'=> ?_,o.nd,fun j b h hv=> ?_⟩⟩
 ·rcases posmem j b h with ⟨i,e,m⟩|⟨e,m⟩
  ·exact(nwA b (s.nw i b m)).elim (fun⟨k,_,hk⟩=> .inl ⟨k,hk⟩) .inr
  ·exact .inl ⟨j,m⟩
 ·cases q:fF as j with
  | some i=>
   have e:=lK q
   have hi:i<ds'.length:=by rw [hl];exact(Z7.mp e).1
   have ei:ds'[i]? =some ds'[i]:=Zn hi
   have hj:j<ps.length:=by
    have:=(Z7.mp h).1
    rwa [uB] at this
   rw [xF nd e ei hj] at h
   cases h
   obtain⟨v,fp,k1,k2,k3,_⟩:=s.rs.rep i ds'[i] (by rw [Zi,ei];rfl)
   have hbi:(fxE φ.K φ.U as.length (lS as)).bor i=false:=by simp [fxE,nV e]
   have k3:=k3 hbi
   subst k3
   have hvi:i<vs.length:=by rw [a.len.1];exact(Z7.mp e).1
   have hdi:i<ds.length:=by rw [a.len.2];exact(Z7.mp e).1
   obtain⟨v',g1,g2⟩:=a.get (Zn hdi)
   rw [Zi,g1] at k1
   cases k1
   rcases g2 with ⟨j',e1,_,e3,_⟩|⟨e1,_⟩
   ·rw [e] at e1;cases e1
    exact⟨v,Fc' i,e3,k2,(fun _=>(zB q).symm),(fun z=>by rw [hb j (iO e)] at z;cases z)⟩
   ·rw [nV e] at e1;cases e1
  |none=>
   have hn:=jO q
   rw [nA hn] at h
   obtain⟨v,fp,k1,k2,k3,k4⟩:=R.rep j d h
   refine⟨v,fp,k1,k2.move tfk fun b hb'=> ?_,(fun z=>by rw [zC q];exact k3 z),k4⟩
   obtain⟨u,q1,q2,_⟩:=k2.own b hb'
   rw [q1]
   refine keepN b u q1 q2 fun k hk hm=> ?_
   cases z:φ.bor j with
   |true=>exact R.nb k b hm j (k4 z b hb')
   |false=>rw [k3 z] at hb';exact hn (R.dis j k b hb' hm▸hk)
 ·rcases posmem j b h with ⟨i,e,m⟩|⟨e,m⟩
  ·have e':=lK e
   refine⟨hb j (iO e'),?_⟩
   have hi:i<ds'.length:=by rw [hl];exact(Z7.mp e').1
   have hdi:i<ds.length:=by rw [a.len.2];exact(Z7.mp e').1
   obtain⟨v',g1,g2⟩:=a.get (Zn hdi)
   rcases g2 with ⟨j',e1,_,_,e4⟩|⟨e1,_⟩
   ·rw [e'] at e1;cases e1
    exact⟨_,xF nd e' (Zn hi) (Z7.mp e4).1⟩
   ·rw [nV e'] at e1;cases e1
  ·obtain⟨b1,d,b2⟩:=R.emp j b m
   exact⟨b1,d,by rw [nA (jO e)];exact b2⟩
 ·rcases posmem j b h1 with ⟨i,e,m⟩|⟨e,m⟩
  ·rcases posmem k b h2 with ⟨i',e',m'⟩|⟨e',m'⟩
   ·have:=s.rs.dis i i' b m m'
    subst this
    have q1:=lK e
    have q2:=lK e'
    rw [q1] at q2
    cases q2;rfl
   ·exact absurd m' (isDisj b (.inl ⟨i,m⟩) k (jO e'))
  ·rcases posmem k b h2 with ⟨i',e',m'⟩|⟨e',m'⟩
   ·exact absurd m (isDisj b (.inl ⟨i',m'⟩) j (jO e))
   ·exact R.dis j k b m m'
 ·cases q:fF as j with
  |some i=>rw [zB q];exact s.rs.nd i
  |none=>rw [zC q];exact R.nd j
 ·rcases posmem j b h with ⟨i,e,m⟩|⟨e,m⟩
  ·exact R.notB ((nwA b (s.nw i b m)).elim (fun⟨k,_,hk⟩=> .inl ⟨k,hk⟩) .inr)
  ·exact R.nb j b m
 ·exact(nwA b (o.nw b hb')).elim (fun⟨k,_,hk⟩=> .inl ⟨k,hk⟩) .inr
 ·rcases posmem j b h with ⟨i,e,m⟩|⟨e,m⟩
  ·exact o.dis i b m hv
  ·exact isDisj b (.inr hv) j (jO e) m
def tIO(K:tz0)(U:tz9)(as:List Arg):TA:=fun σ H Q=>∃ps ds,WS K U H σ ps/\cV as ps=some ds/\∀vs H',SameK H H'->ArgsAt K U H' σ ps as vs ds->Q vs H'
def fIO(as:List Arg)(g:tz7):tz8:=fun ps=>(cV as ps).bind fun ds=>(g ds).bind fun r=>if r.2.length=as.length then some (r.1,iL ps as r.2) else none
section
variable{X:Cx}{φ:F0}{U:tz9}{e:Expr}{es:List Expr}{as:List Arg}{f:tz2}{pos p:Pos}
theorem dR:PA X [] (tIO X.K U []):=mW.imp fun σ H Q ⟨ps,ds,w,e,q⟩=>by cases e;exact q [] H (.refl H) .nil
theorem kN(j:Nat){x:Str}(hr:PA X es (tIO X.K U as))(hN:X.N[j]? =some x:=by rfl)(hv:Vis X.env.scope x:=by first|exact Or.inl rfl|exact Or.inr (Or.inl rfl)|exact Or.inr (Or.inr rfl))(hd:NDb x:=by decide)
  (hcd:(x==("__classdict__":Str))=false:=by decide) (hs:starEach (.Name x pos::es) X.env=(false,eval (.Name x pos) X.env)::starEach es X.env:=by rfl):PA X (.Name x pos::es) (tIO X.K U (.io j::as)):=
 (fV (sP hN hv hd hcd) hr hs).imp fun σ H Q hh_=>by
  obtain⟨ps,ds,w,e,q⟩:=hh_
  obtain⟨d,e1,e2⟩:=bind_some e
  obtain⟨ds',e3,e4⟩:=bind_some e2
  cases e4
  have e0:=join_some e1
  obtain⟨v,fp,h1,h2⟩:=w j d e0
  exact⟨v,h1,ps,ds',w,e3,fun vs H1 s1 a1=>q (v::vs) H1 s1 (.io h1 e0 a1)⟩
theorem bY(ha:QV X U e f)(hr:PA X es (tIO X.K U as))(hs:StE e es X:=by rfl):PA X (e::es) (tIO X.K U (.im f::as)):=
 (fV ha.p hr hs).imp fun σ H Q hh_=>by
  obtain⟨ps,ds,w,e,q⟩:=hh_
  obtain⟨d,e1,e2⟩:=bind_some e
  obtain⟨ds',e3,e4⟩:=bind_some e2
  cases e4
  refine⟨ps,d,w,e1,fun v H1 fv s1 n1 nd1 r1=>⟨ps,ds',w.same s1,e3,fun vs H2 s2 a2=>q (v::vs) H2 (s1.trans s2) (.im ?_ a2)⟩⟩
  unfold aZ at e1
  obtain⟨d1,k1,k2⟩:=bind_some e1
  obtain⟨k3,k4⟩:=bQ k2
  cases k4
  have:=r1.imm k3
  subst this
  exact r1.same s2
theorem nB{x:Str}{st:Stmt}{ps:List Str}{fa:Addr}{fd:FuncData}{k np:Nat}{m:Nat->Bool}{g:tz7}(Dd:Dn X.K X.mg x st ps fa fd)(G:FnOk X.prog X.w X.K X.mg X.base CX0 k fa fd ps (SpE np X.K U m g))(hr:Room k X.A)(hg:Gl X x)(ha:PA X (e::es) (tIO X.K U as))
  (hnp:np=as.length) (hm:m=lS as) (nd:(slots as).Nodup) (hb:∀j∈slots as,φ.bor j=false)
  (hdb:NDb x:=by decide) (he:StE e es X:=by rfl) (hpl:BkE pos es X:=by rfl):
  QE X U φ (.Call (.Name x p) (e::es) [] pos) (fIO as g):=(yd5 Dd G hr hg ha hdb he hpl).imp fun σ H Q hh_=>by
 obtain⟨ps,F,d,ps',R,e,q⟩:=hh_
 obtain⟨ds,e1,e2⟩:=bind_some e
 obtain⟨⟨r,ds'⟩,e3,e4⟩:=bind_some e2
 obtain⟨hl,e5⟩:=bQ e4
 cases e5
 subst hnp hm
 refine⟨ps,ds,R.ws,e1,fun vs H1 s1 a1=> ?_⟩
 show SpE _ X.K U _ g (vs++[]) H1 Q E0
 rw [Zh]
 refine⟨a1.len.1,ds,r,ds',_,a1.len.2,yv1 (R.same s1) nd hb a1,e3,fun v H' F' fv s o rv=> ?_⟩
 obtain⟨F2,s2,o2⟩:=xg6 R s1 nd hb a1 hl s o
 exact q v H' F2 fv s2 o2 rv
end
inductive AreD:List Expr->List D->Prop
 |nil:AreD [] []
 |int {i:Int} {j:Nat} {pos:Pos} {es:List Expr} {ds:List D}:AreD es ds->AreD (.Constant (.int i) j pos::es) (.int i::ds)
 |str {x:Str} {j:Nat} {pos:Pos} {es:List Expr} {ds:List D}:AreD es ds->AreD (.Constant (.str x) j pos::es) (.str x::ds)
def fKs(ds:List D):tz3:=fun _=>some ds
theorem lL(h:AreD es ds):QPA X U es (fKs ds):=by
 have key:∃vs,AreC es vs/\∀K U H,Reps K U H vs ds []:=by
  induction h with
  |nil=>exact⟨[],.nil,fun _ _ _=> .nil⟩
  |int _ ih=>obtain⟨vs,h1,h2⟩:=ih;exact⟨_,.int h1,fun K U H=> .cons (f:=[]) (g:=[]) (.int _) (h2 K U H)⟩
  |str _ ih=>obtain⟨vs,h1,h2⟩:=ih;exact⟨_,.str h1,fun K U H=> .cons (f:=[]) (g:=[]) (.str _) (h2 K U H)⟩
 obtain⟨vs,h1,h2⟩:=key
 exact(yl8 h1).imp fun σ H Q ⟨ps,ds',w,e,q⟩=>by cases e;exact q vs H [] (.refl H) (fun _ h=>absurd h (by simp)) Zf (h2 _ _ _)
def cI(l:List Bool):Nat->Bool:=fun i=>(l[i]?).getD false
def ys0(as:List Arg):List Bool:=as.map fun a=>match a with
 | .io _=>true
 | .im _=>false
theorem fK:∀{as:List Arg} {l:List Bool},ys0 as=l->cI l=lS as:=by
 intro as l h
 subst h
 funext i
 induction as generalizing i with
 |nil=>cases i<;>rfl
 | cons a as ih=>
  cases i with
  |zero=>cases a<;>rfl
  |succ i=>
   have e:lS (a::as) (i+1)=lS as i:=by cases a<;>rfl
   rw [e,<-ih i]
   simp [cI,ys0]
theorem jP(h:cI l i=true):i<l.length:=by
 unfold cI at h
 cases q:l[i]? with
 |none=>rw [q] at h;cases h
 |some b=>exact(Z7.mp q).1
section
variable{P:Program}{w:World}{K:tz0}{mg:tzA}{base:Heap}{U:tz9}
theorem FnOk.noneP:FnOk P w K mg base CX0 k f fd ps (SpP ps.length K U fun _=>none):=
 ⟨fun vs H Q E h=>h.1,fun A outer s H args us vs Q E _ _ _ _ ⟨_,ds,fp,d,_,e,_⟩=>by cases e⟩
theorem FnOk.noneE:FnOk P w K mg base CX0 k f fd ps (SpE ps.length K U m fun _=>none):=
 ⟨fun vs H Q E h=>h.1,fun A outer s H args us vs Q E _ _ _ _ ⟨_,ds,r,ds',F,_,_,e,_⟩=>by cases e⟩
end
section
variable{X:Cx}{U:tz9}{a b c:Expr}{fa fb fc:tz2}{g g':D->D->Option D}{pos:Pos}
theorem yv2(h:tP X.K U (f3 g g' fa fb fc) σ H Q):yr9 (POp X.K U g) (POp X.K U g') (tV X.K U fa) (tV X.K U fb) (tV X.K U fc) σ H Q:=by
 obtain⟨ps,d,w,e,q⟩:=h
 obtain⟨x,e1,e2⟩:=bind_some e
 obtain⟨y,e3,e4⟩:=bind_some e2
 obtain⟨k,e5,e6⟩:=bind_some e4
 obtain⟨t,rfl,e7⟩:=zk6 (x:=(fc ps).bind fun z=>g' y z) (y:=some (D.bl false)) e6
 refine⟨ps,x,w,e1,fun v H1 f1 s1 r1=>⟨ps,y,w.same s1,e3,fun u H2 f2 s2 r2=>⟨x,y,_,f1,f2,r1.same s2,r2,e5,fun z H3 fz s3 n3 nd3 r3=>⟨t,r3.is_bl,?_⟩⟩⟩⟩
 have s13:=(s1.trans s2).trans s3
 cases t with
 |true=>
  rw [if_pos rfl] at e7|-
  obtain⟨zz,e8,e9⟩:=bind_some e7
  exact⟨ps,zz,w.same s13,e8,fun u' H4 f4 s4 r4=>⟨y,zz,d,f2,f4,(r2.same s3).same s4,r4,e9,q.after (s13.trans s4)⟩⟩
 |false=>
  rw [if_neg Z8] at e7|-
  cases e7
  exact(q.after s13).now (.bl false)
theorem zp6(ho:OpR X (compareOp op) (POp X.K U g))(ho':OpR X (compareOp op') (POp X.K U g'))(ha:QV X U a fa)(hb:QV X U b fb)(hc:QV X U c fc)(hm:lastMarks [op,op'] [b,c]=false:=by with_unfolding_all rfl):QT X U (.Compare a [op,op'] [b,c] pos) (fB (f3 g g' fa fb fc)):=
 (ys8 ho ho' ha hb hc hm).imp fun σ H Q ⟨ps,k,w,e,q⟩=>yv2 (Q:=fun x H'=>∃k,x= .bl k/\Q k H') ⟨ps,_,w,zb9 e,fun v H' fv s _ _ r=>⟨k,r.is_bl,q H' s⟩⟩
end
theorem xg7(h:uU k u=true):cL (kV k) u:=by
 rcases fH h with ⟨i,t,rfl,rfl⟩|⟨x,t,rfl,rfl⟩
 ·exact⟨t,rfl⟩
 ·exact⟨t,rfl⟩
def zu5:Key->D
 | .inl i=> .int i
 | .inr x=> .str x
theorem zp7{K:tz0}{U:tz9}{H:Hp}(k:Key):Rep K U H (kV k) (zu5 k) []:=by
 cases k with
 |inl i=>exact .int i
 |inr x=>exact .str x
theorem zD:∀ys:List (Str×Tok),bT (ys.map fun p=>V.str p.1) (ys.map fun p=>Value.str p.1 p.2)
 |[]=> .nil
 |y::ys=> .cons ⟨y.2,rfl⟩ (zD ys)
theorem zg7{K:tz0}{U:tz9}{H:Hp}:∀ys:List (Str×Tok),Reps K U H (ys.map fun p=>V.str p.1) (ys.map fun p=>D.str p.1) []
 |[]=> .nil
 |y::ys=> .cons (f:=[]) (g:=[]) (.str _) (zg7 ys)
theorem yv3{K:tz0}{U:tz9}{a:Addr}{ys:List (Str×Tok)}{od:Option Addr}{n:Nat}{sl:Array (Option Value)}(h:K.lookup a=some ⟨.type "tuple",od,.seq (ys.map fun p=>Value.str p.1 p.2).toArray n,sl⟩)(hl:ys.length<=1000)(H:Hp):
  Rep K U H (.ref a) (.tup (ys.map fun p=>D.str p.1)) []:=
 .tup (.inr ⟨_,_,n,h,rfl,rfl,by rw [Zm,Zc];exact yY hl,zD ys⟩) (zg7 ys)
section
variable{X:Cx}{pins:tzB}{σ:St}{H:Hp}{s:Shared}{a C dx:Addr}{fs:List (Str×V)}{f:Str}{v:V}{A:Around}{E:Value->Shared->Prop}
theorem yn2(hok:HOk P w H h)(e:Rd H a (.ins C dx fs)):∃mA,ObjM h a dx C mA/\(∀f,jR (fs.lookup f) (mA f)):=by
 obtain⟨d,z,ne,ob,mA,n,r,q⟩:=(show dH P w H h a (.ins C dx fs) from e.ok hok)
 exact⟨mA,⟨ob,n,ne⟩,r⟩
theorem ye3(I:Inv X pins σ H s)(e:Rd H a (.ins C dx fs))(c:Cls X.K C)(n:dJ X.K C f)(l:fs.lookup f=some v)
  (h:∀u s',Inv X pins σ H s'->cL v u->Q u s'):wpAny (model X.prog X.w) A (getAttr (.ref a) f b) Q E s:=by
 obtain⟨mA,O,r⟩:=yn2 I.hok e
 obtain⟨u,hu,ru⟩:=jR.some_of (v:=v) (o:=mA f) (by rw [<-l];exact r f)
 exact zx9 I.kIn O (c.get f) c.hd n hu (zf2 ru) (h u _ (I.tok _) ru)
theorem ye4(I:Inv X pins σ H s)(e:Rd H a (.ins C dx fs))(c:Cls X.K C)(k:Meth X.K C m g)(l:fs.lookup m=none)
  (h:Q (.ref g,[.ref a]) s):wpAny (model X.prog X.w) A (getMethod (.ref a) m pl) Q E s:=by
 obtain⟨mA,O,r⟩:=yn2 I.hok e
 have hn:mA m=none:=jR.none_of (by rw [<-l];exact r m)
 exact zn8 I.kIn O (c.get m) k.at_ k.fn hn h
end
def xx2(K:tz0)(ta:TE)(f:Str):TE:=fun σ H Q=>ta σ H fun x H1=>∃a C dx fs v,x= .ref a/\Rd H1 a (.ins C dx fs)/\Cls K C/\dJ K C f/\fs.lookup f=some v/\Q v H1
theorem xg8(he:PE X e ta)(hb:attributeBase e f X.env (eval e X.env)=eval e X.env):PE X (.Attribute e f pos) (xx2 X.K ta f):=⟨by
 intro pins s σ H Q I h
 refine zy0 hb (thn (he pins s σ H _ I h) fun u s1 ⟨x,H1,I1,rx,a,C,dx,fs,v,ex,ea,c,n,l,q⟩=> ?_)
 subst ex
 obtain rfl:u=Value.ref a:=rx
 exact ye3 I1 ea c n l fun w' s2 I2 rw'=>⟨v,H1,I2,rw',q⟩⟩
def zu6(C f:Str):D->Option D
 | .obj _ C' ns vs=>if C'=C then(cY ns f).bind fun n=>vs[n]? else none
 |_=>none
def dG(C f:Str)(fo:tz2):tz2:=fun ps=>(fo ps).bind (zu6 C f)
theorem Rep.obj_inv{K:tz0}{U:tz9}{H:Hp}{v:V}{o:Bool}{C:Str}{ns:List Str}{ds:List D}{fp:List Addr}(r:Rep K U H v (.obj o C ns ds) fp):∃a dx fs g,v= .ref a/\Rd H a (.ins (U C) dx fs)/\fs.map (·.1)=ns/\Reps K U H (fs.map (·.2)) ds g/\g.Sublist fp:=by
 cases r with
 |obj h e hs=>exact⟨_,_,_,_,rfl,.inl h,e,hs,Yr _ _⟩
 |objF h e hs=>exact⟨_,_,_,_,rfl,.inr ⟨_,h⟩,e,hs,.refl _⟩
section
variable{X:Cx}{U:tz9}{o e:Expr}{C fn:Str}{fo:tz2}{pos:Pos}
theorem eM(hc:Cls X.K (U C))(hna:dJ X.K (U C) fn)(ho:QV X U o fo)(hb:attributeBase o fn X.env (eval o X.env)=eval o X.env:=by rfl):QV X U (.Attribute o fn pos) (dG C fn fo):=
 (xg8 ho hb).imp fun σ H Q hh_=>by
  obtain⟨ps,d,w,e,q⟩:=hh_
  obtain⟨x,e1,e2⟩:=bind_some e
  refine⟨ps,x,w,e1,fun v H1 fp s1 r1=> ?_⟩
  cases x with
  |obj ow C' ns ds=>
   have e2':(if C'=C then(cY ns fn).bind fun n=>ds[n]? else none)=some d:=e2
   by_cases hC:C'=C
   case neg=>rw [if_neg hC] at e2';cases e2'
   rw [if_pos hC] at e2'
   subst hC
   obtain⟨n,e4,e5⟩:=bind_some e2'
   obtain⟨a,dx,fs,g,rfl,h,hk,hs,sub⟩:=r1.obj_inv
   subst hk
   obtain⟨u,f1,k3,k4,_⟩:=hs.get e5
   exact⟨a,U C',dx,fs,u,rfl,h,hc,hna,qR e4 k3,q u H1 f1 s1 k4⟩
  |_=>cases e2
end
theorem zy9:∀{fs:List (Str×V)} {f:Str} {n:Nat} (v:V),cY (fs.map (·.1)) f=some n->(gD f v fs).map (·.1)=fs.map (·.1)/\(gD f v fs).map (·.2)=(fs.map (·.2)).set n v
 |[],_,_,_,h=>by cases h
 | (g,x)::r,f,n,v,h=>by
  rw [Zb,cY] at h
  by_cases z:g=f
  ·have z':(g,x).1=f:=z
   rw [if_pos z'] at h;cases h
   rw [gD,if_pos z];exact⟨rfl,rfl⟩
  ·have z':¬(g,x).1=f:=z
   rw [if_neg z'] at h
   obtain⟨m,h1,h2⟩:=Zl.mp h
   subst h2
   obtain⟨k1,k2⟩:=zy9 v h1
   rw [gD,if_neg z]
   exact⟨by rw [Zb,Zb,k1],by rw [Zb,Zb,List.set_cons_succ,k2]⟩
theorem zp8:∀{fs:List (Str×V)} {f:Str} (v:V),cY (fs.map (·.1)) f=none->(gD f v fs).map (·.1)=fs.map (·.1)++[f]/\(gD f v fs).map (·.2)=fs.map (·.2)++[v]
 |[],_,_,_=>⟨rfl,rfl⟩
 | (g,x)::r,f,v,h=>by
  rw [Zb,cY] at h
  by_cases z:g=f
  ·have z':(g,x).1=f:=z
   rw [if_pos z'] at h;cases h
  ·have z':¬(g,x).1=f:=z
   rw [if_neg z'] at h
   obtain⟨k1,k2⟩:=zp8 v (XS.mp h)
   rw [gD,if_neg z]
   exact⟨by rw [Zb,Zb,k1];rfl,by rw [Zb,Zb,k2];rfl⟩
def tN(C f:Str)(y:D):D->Option (Unit×D)
 | .obj true C' ns vs=>if (C'=C/\ns.length<900) then(match cY ns f with
   |some n=>some ((),.obj true C' ns (vs.set n y))
   |none=>some ((),.obj true C' (ns++[f]) (vs++[y]))) else none
 |_=>none
theorem zp9(h:tN C f y d=some (r,d')):∃ns vs,d= .obj true C ns vs/\ns.length<900/\((∃n,cY ns f=some n/\d'= .obj true C ns (vs.set n y))\/(cY ns f=none/\d'= .obj true C (ns++[f]) (vs++[y]))):=by
 unfold tN at h
 split at h
 ·rename_i C' ns vs
  by_cases hh:C'=C/\ns.length<900
  ·rw [if_pos hh] at h
   obtain⟨hC,hl⟩:=hh
   subst hC
   cases q:cY ns f with
   |some n=>rw [q] at h;cases h;exact⟨ns,vs,rfl,hl,.inl ⟨n,q,rfl⟩⟩
   |none=>rw [q] at h;cases h;exact⟨ns,vs,rfl,hl,.inr ⟨q,rfl⟩⟩
  ·rw [if_neg hh] at h;cases h
 ·cases h
def mU(j:Nat)(pf:PSt->Option (List Ps1))(C f:Str)(fe:tz2):tz1:=fun ps=>(fe ps).bind fun y=>((ps[j]?).join).bind fun d0=>(pf ps).bind fun p=>(fS (tN C f y) d0 p).bind fun r=>some (.nx,ps.set j (some r.2))
theorem zq0:∀{ns:List Str} {f:Str} {n:Nat},cY ns f=some n->n<ns.length
 |[],_,_,h=>by cases h
 | m::ns,f,n,h=>by
  rw [cY] at h
  by_cases z:m=f
  ·rw [if_pos z] at h;cases h;simp
  ·rw [if_neg z] at h
   obtain⟨k,h1,h2⟩:=Zl.mp h
   subst h2
   have:=zq0 h1
   simp;omega
section
variable{X:Cx}{U:tz9}{φ:F0}{o e:Expr}{C fn:Str}{j:Nat}{pf:PSt->Option (List Ps1)}{fe:tz2}{pos pos':Pos}
theorem oP(hc:Cls X.K (U C))(hna:dJ X.K (U C) fn)(hb:φ.bor j=false)(he:PE X e (tP X.K U fe))(ho:PE X o (nI X.K U j pf))(hs:swapsWith e (some (.Attribute o fn pos')) pos.line X.env=pure false:=by rfl):
  QS X U φ (.Assign [.Attribute o fn pos'] e pos) (mU j pf C fn fe):=
 (xn0 ho he hs).imp fun E σ H hh_=>by
  obtain⟨ps,F,fl,ps',R,e,q⟩:=hh_
  obtain⟨y,e1,e2⟩:=bind_some e
  obtain⟨d0,e3,e4⟩:=bind_some e2
  have e0:=join_some e3
  obtain⟨p,e5,e6⟩:=bind_some e4
  obtain⟨⟨r,d0'⟩,em,e9⟩:=bind_some e6
  cases e9
  obtain⟨dd,dn,gp,hh⟩:=mK em
  refine⟨ps,y,R.ws,e1,fun v H1 fy s1 n1 nd1 ry=>⟨ps,p,d0,dd,R.ws.same s1,e0,e5,gp,fun lv H2 v0 s2 ev a2=> ?_⟩⟩
  have s12:=s1.trans s2
  obtain⟨d1,d1',fd,m1,m2,m3,m4,m5⟩:=sV R s12 hb e0 ev em a2
  obtain⟨ns,vs,rfl,hlen,hd⟩:=zp9 m2
  obtain⟨l,dx,fs,g1,rfl,hl,hn,hr,rfl⟩:=m1.objT_inv
  subst hn
  have ry2:=ry.same s2
  obtain⟨nl,nd3⟩:=Zp.mp m3
  have own0:∀a∈l::g1,H a≠none:=fun a ha z=>by obtain⟨o,h,_⟩:=R.own (m4 a ha);rw [z] at h;cases h
  have nl2:l∉fy:=fun z=>own0 l Z0 (n1 l z)
  have hl9:fs.length<900:=by rw [Zc] at hlen;exact hlen
  refine⟨l,U C,dx,fs,rfl,hl,hc,hna,by omega,?_⟩
  have go:∀(g2:List Addr),(∀a∈g2,a∈fy\/a∈g1)->g2.Nodup->Rep X.K U (upd H2 l (.ins (U C) dx (gD fn v fs))) (.ref l) d1' (l::g2)->∃F',Stp (φ.fx X.K U) σ H F σ (upd H2 l (.ins (U C) dx (gD fn v fs))) (ps.set j (some d0')) F':=fun g2 mem2 nd2 rp=>by
   have n2:l∉g2:=fun z=>(mem2 l z).elim nl2 nl
   obtain⟨F',st,ow⟩:=m5 (upd H2 l (.ins (U C) dx (gD fn v fs))) (l::g2) [] (fun a o h _ hn=>qS h hn) (fun a h=>fW h) rp
    (by rw [Zh,Zp];exact⟨n2,nd2⟩)
    (fun a ha=>by
     rw [Zh] at ha
     rcases Za.mp ha with z|z
     ·exact .inl (by rw [z];exact Z0)
     ·exact(mem2 a z).elim (fun z=> .inr (n1 a z)) fun z=> .inl (Z1 _ z))
   exact⟨F',st⟩
  rcases hd with ⟨n,hx,rfl⟩|⟨hx,rfl⟩
  ·obtain⟨k1,k2⟩:=zy9 v hx
   have hn':=zq0 hx
   obtain⟨f1,rest,g2,p1,p2,p3⟩:=hr.setV (n:=n) (by rw [<-hr.length,Zc];rw [Zc] at hn';exact hn') ry2
   have mem2:∀a∈g2,a∈fy\/a∈g1:=fun a ha=>(ZE.mp (p3.mem_iff.mp ha)).elim .inl fun z=> .inr (p1.mem_iff.mpr (Zd _ z))
   have n2:l∉g2:=fun z=>(mem2 l z).elim nl2 nl
   have nd2:g2.Nodup:=p3.nodup_iff.mpr (Zz.mpr ⟨nd1,(Zz.mp (p1.nodup_iff.mp nd3)).2.1,fun a ha b hb e=>by
    subst e
    exact own0 a (Z1 _ (p1.mem_iff.mpr (Zd _ hb))) (n1 a ha)⟩)
   obtain⟨F',st⟩:=go g2 mem2 nd2 (.obj bX k1 (by rw [k2];exact p2.updL hl rfl n2))
   exact q _ _ F' st
  ·obtain⟨k1,k2⟩:=zp8 v hx
   have mem2:∀a∈g1++fy,a∈fy\/a∈g1:=fun a ha=>(ZE.mp ha).elim .inr .inl
   have n2:l∉g1++fy:=fun z=>(mem2 l z).elim nl2 nl
   have nd2:(g1++fy).Nodup:=Zz.mpr ⟨nd3,nd1,fun a ha b hb e=>by
    subst e
    exact own0 a (Z1 _ ha) (n1 a hb)⟩
   obtain⟨F',st⟩:=go (g1++fy) mem2 nd2 (.obj bX k1 (by rw [k2];exact(Reps.append hr (Reps.one ry2)).updL hl rfl n2))
   exact q _ _ F' st
end
structure Mn(K:tz0)(U:tz9)(C m qual:Str)(st:Stmt)(ps:List Str)(f:Addr)(fd:FuncData):Prop where
 F:Fun K m qual st f fd
 b:lO K fd ps []
 c:Cls K (U C)
 h:Meth K (U C) m f
theorem sI:∀{fs:List (Str×V)} {m:Str},cY (fs.map (·.1)) m=none->fs.lookup m=none
 |[],_,_=>rfl
 | (g,x)::r,m,h=>by
  rw [Zb,cY] at h
  by_cases z:g=m
  ·have z':(g,x).1=m:=z
   rw [if_pos z'] at h;cases h
  ·have z':¬(g,x).1=m:=z
   rw [if_neg z'] at h
   have ih:=sI (XS.mp h)
   rw [Zy]
   have:(m==g)=false:=by
    rw [Y5];exact fun e=>z e.symm
   rw [this];exact ih
def nJ:Nat->Bool:=fun i=>decide (i=0)
def sA(fd:List Addr):Nat->List Addr:=fun i=>if i=0 then fd else []
theorem kO(h:a∈sA fd i):i=0/\a∈fd:=by
 unfold sA at h
 by_cases z:i=0
 ·rw [if_pos z] at h;exact⟨z,h⟩
 ·rw [if_neg z] at h;exact absurd h (by simp)
theorem zE{K:tz0}{U:tz9}{H:Hp}{v:V}{vs:List V}{d:D}{ds:List D}{fd:List Addr}(r:Rep K U H v d fd)(nd:fd.Nodup)(rs:Reps K U H vs ds []):
  RS (fxE K U (ds.length+1) nJ) H ((v::vs).map some) ((d::ds).map some) (sA fd):=by
 refine⟨fun i x hx=> ?_,fun i a ha=> ?_,fun i j a h1 h2=> ?_,fun i=> ?_,fun i a _ k z=>z.elim,fun k a z=>z.elim,by simp [rs.length]⟩
 ·cases i with
  |zero=>
   simp at hx;subst hx
   exact⟨v,fd,rfl,r,fun _=>rfl,fun z=>by simp [fxE,nJ] at z⟩
  | succ i=>
   rw [Zb,Yo,Zi] at hx
   obtain⟨y,hy,e⟩:=Zl.mp hx
   cases e
   obtain⟨u,f1,k1,k2,k3⟩:=rs.get hy
   have ef:f1=[]:=by
    cases f1 with
    |nil=>rfl
    |cons b l=>exact absurd (k3 b Z0) (by simp)
   subst ef
   exact⟨u,[],by rw [Zb,Yo,Zi,k1];rfl,k2,(fun _=>by simp [sA]),fun _ a ha=>absurd ha (by simp)⟩
 ·obtain⟨e,h⟩:=kO ha
  subst e
  exact⟨by simp [fxE,nJ],d,rfl⟩
 ·rw [(kO h1).1,(kO h2).1]
 ·unfold sA;split
  ·exact nd
  ·exact Zf
def zl5:List Arg->Bool
 |[]=>true
 | .im _::as=>zl5 as
 | .io _::_=>false
theorem ArgsAt.reps{K:tz0}{U:tz9}{H:Hp}{σ:St}{ps:PSt}:∀{as:List Arg} {vs:List V} {ds:List D},ArgsAt K U H σ ps as vs ds->zl5 as=true->Reps K U H vs ds []
 |_,_,_,.nil,_=> .nil
 |_,_,_,.io _ _ _,h=>by cases h
 |_,_,_,.im r a,h=> .cons (f:=[]) (g:=[]) r (ArgsAt.reps a h)
def iR(C m:Str)(g:tz7)(ys:List D)(d:D):Option (D×D):=match d with
 | .obj true C' ns vs=>if (C'=C/\cY ns m=none) then(g (.obj true C' ns vs::ys)).bind fun r=>match r.2 with
   |d'::ds=>if ds.length=ys.length then some (r.1,d') else none
   |[]=>none
  else none
 |_=>none
theorem zF(h:iR C m g ys d=some (r,d')):∃ns vs ds,d= .obj true C ns vs/\cY ns m=none/\g (d::ys)=some (r,d'::ds)/\ds.length=ys.length:=by
 unfold iR at h
 split at h
 ·rename_i C' ns vs
  by_cases hc:C'=C/\cY ns m=none
  ·rw [if_pos hc] at h
   obtain⟨hC,hn⟩:=hc
   subst hC
   obtain⟨⟨r1,ds⟩,e1,e2⟩:=bind_some h
   cases ds with
   |nil=>cases e2
   |cons d1 ds=>
    obtain⟨hl,e3⟩:=bQ e2
    cases e3
    exact⟨ns,vs,ds,rfl,hn,e1,hl⟩
  ·rw [if_neg hc] at h;cases h
 ·cases h
section
variable{X:Cx}{U:tz9}{φ:F0}{o e:Expr}{es:List Expr}{C m qual:Str}{st:Stmt}{ps:List Str}{f:Addr}{fd:FuncData}{k np j:Nat}{mk:Nat->Bool}{g:tz7}{pf:PSt->Option (List Ps1)}{as:List Arg}{apos pos p:Pos}{pl:Sem Bool}
theorem yv4{σ:St}{H H1:Hp}{Q:VK}{ps:PSt}{F:Nat->List Addr}{d0 d0' r:D}{pp:List Ps1}{v0 v:V}{ys:List D}{us:List V}(R:RS (φ.fx X.K U) H σ ps F)(s1:SameK H H1)(hb:φ.bor j=false)(e0:ps[j]? =some (some d0))(ev:σ[j]? =some (some v0))
  (em:fS (iR C m g ys) d0 pp=some (r,d0')) (at_:At H1 v0 pp v) (ry:Reps X.K U H1 us ys []) (hnp:np=ys.length+1) (hm:mk=nJ)
  (q:∀v H' F' fv,Stp (φ.fx X.K U) σ H F σ H' (ps.set j (some d0')) F'->OwnV F H F' fv->Rep X.K U H' v r fv->Q v H'):SpE np X.K U mk g (v::us) H1 Q E0:=by
 subst hnp hm
 obtain⟨d1,d1',fd,m1,m2,m3,m4,m5⟩:=sV R s1 hb e0 ev em at_
 obtain⟨ns,vs,ds,rfl,hn,eg,hl⟩:=zF m2
 refine⟨by rw [Z4,ry.length],_,r,d1'::ds,sA fd,by simp,zE m1 m3 ry,eg,fun u H' F' fv s o rv=> ?_⟩
 obtain⟨v2,fp2,k1,k2,k3,_⟩:=s.rs.rep 0 d1' rfl
 have ek:v2=v:=by
  have:(List.map some (v::us))[0]? =some (some v2):=k1
  simp at this;exact this.symm
 subst ek
 have k3':=k3 (by simp [fxE,nJ])
 subst k3'
 have old:∀a,((∃i,a∈sA fd i)\/H1 a=none)->a∈fd\/H a=none:=fun a h=>h.elim (fun⟨i,hi⟩=> .inl (kO hi).2) fun z=> .inr (s1.grow a z)
 obtain⟨F2,st2,ow2⟩:=m5 H' (F' 0) fv (fun a o h k hn=>s.fr.keep a o h k fun i hi=>hn (kO hi).2) (fun a h=>s.fr.grow a h) k2
  (Zz.mpr ⟨s.rs.nd 0,o.nd,fun a ha b hb e=>by subst e;exact o.dis 0 a ha hb⟩)
  (fun a ha=>(ZE.mp ha).elim (fun z=>old a (s.nw 0 a z)) fun z=>old a (o.nw a z))
 exact q u H' F2 fv st2 ow2 rv
theorem yv5{σ:St}{H H1:Hp}{ps:PSt}{F:Nat->List Addr}{d0 d0' r:D}{pp:List Ps1}{v0 v:V}{ys:List D}(R:RS (φ.fx X.K U) H σ ps F)(s1:SameK H H1)(e0:ps[j]? =some (some d0))(ev:σ[j]? =some (some v0))
  (em:fS (iR C m g ys) d0 pp=some (r,d0')) (at_:At H1 v0 pp v):∃a dx fs,v= .ref a/\H1 a=some (.ins (U C) dx fs)/\fs.lookup m=none:=by
 obtain⟨dd,dn,gp,hh⟩:=mK em
 obtain⟨ns,vs,ds,rfl,hn,_⟩:=zF hh
 obtain⟨fd,rd⟩:=zc5 R.ws s1 e0 ev gp at_
 obtain⟨_,_,_,_,rfl,hl,hk,hs,rfl⟩:=rd.objT_inv
 subst hk;exact⟨_,_,_,rfl,hl,sI hn⟩
theorem sX(M:Mn X.K U C m qual st ps f fd)(G:FnOk X.prog X.w X.K X.mg X.base CX0 k f fd ps (SpE np X.K U mk g))(hr:Room k X.A)(hb:φ.bor j=false)(ho:PE X o (nI X.K U j pf))(ha:PA X (e::es) (tIO X.K U as))(has:zl5 as=true)(hnp:np=as.length+1)(hm:mk=nJ)
  (hst:StE e es X:=by rfl) (hpl:BkE pos es X:=by rfl)
  (ht:eval (.Call (.Attribute o m apos) (e::es) [] pos) X.env=(do
   let ov<-eval o X.env
   standAt apos.atName
   let (f,first)<-holding [ov] (getMethod ov m pl)
   callWith pos f first (backTo pos (starEach (e::es) X.env)) (backToKw pos (keywordEach [] X.env))):=by rfl):
  QE X U φ (.Call (.Attribute o m apos) (e::es) [] pos) (dY j pf (cV as) (iR C m g)):=(xe8 ho M.c M.h G hr M.b .nil yW ha hst hpl ht).imp fun σ H Q hh_=>by
 obtain⟨ps,F,d,ps',R,e,q⟩:=hh_
 obtain⟨d0,pp,ys,d0',e0,ep,eg,em,rfl⟩:=vP e
 obtain⟨dd,dn,gp,hh⟩:=mK em
 refine⟨ps,pp,d0,dd,R.ws,e0,ep,gp,fun v H1 v0 s1 ev a1=> ?_⟩
 obtain⟨a,dx,fs,rfl,hl,hn⟩:=yv5 R s1 e0 ev em a1
 refine⟨a,dx,fs,rfl,hl,hn,ps,ys,R.ws.same s1,eg,fun us H2 s2 a2=> ?_⟩
 show SpE np X.K U mk g (_::(us++[])) H2 Q E0
 rw [Zh]
 exact yv4 R (s1.trans s2) hb e0 ev em (a1.same s2) (a2.reps has) (by rw [hnp,a2.len.2]) hm q
end
structure Kn(K:tz0)(mg:tzA)(U:tz9)(C qual:Str)(st:Stmt)(ps:List Str)(f:Addr)(fd:FuncData):Prop where
 F:Fun K "__init__" qual st f fd
 b:lO K fd ps []
 M:Mk K (U C) f
 m:mg C=some (.ref (U C))
def eX(C:Str)(ga:tz3)(g:tz7):tz2:=fun ps=>(ga ps).bind fun ys=>(g (.obj true C [] []::ys)).bind fun r=>match r with
 |(.non,d'::_)=>some d'
 |_=>none
theorem ye5(h:eX C ga g ps=some d):∃ys ds,ga ps=some ys/\g (.obj true C [] []::ys)=some (.non,d::ds):=by
 obtain⟨ys,e1,e2⟩:=bind_some h
 obtain⟨⟨r,ds⟩,e3,e4⟩:=bind_some e2
 cases r with
 |non=>cases ds with
  |nil=>cases e4
  |cons d1 ds=>cases e4;exact⟨ys,ds,e1,e3⟩
 |_=>cases e4
section
variable{X:Cx}{U:tz9}{e:Expr}{es:List Expr}{C qual:Str}{st:Stmt}{ps:List Str}{f:Addr}{fd:FuncData}{k np:Nat}{mk:Nat->Bool}{g:tz7}{as:List Arg}{pos p:Pos}
theorem xg9{H H1:Hp}{Q:VK}{d:D}{ys ds:List D}{us:List V}{x dx:Addr}(s1:SameK H H1)(hx:H1 x=none)(hdx:H1 dx=none)(hne:dx≠x)(ry:Reps X.K U H1 us ys [])(hnp:np=ys.length+1)(hm:mk=nJ)(eg:g (.obj true C [] []::ys)=some (.non,d::ds))(q:kF X.K U H d Q):
  SpE np X.K U mk g (.ref x::us) (upd (upd H1 dx (.own x)) x (.ins (U C) dx [])) (fun v H2=>v= .non/\Q (.ref x) H2) E0:=by
 subst hnp hm
 have ne:∀a o,H1 a=some o->a≠x/\a≠dx:=fun a o h=>⟨fun z=>(by rw [z,hx] at h;cases h),fun z=>(by rw [z,hdx] at h;cases h)⟩
 have up:∀a o,H1 a=some o->upd (upd H1 dx (.own x)) x (.ins (U C) dx []) a=some o:=fun a o h=>by rw [bA (ne a o h).1,bA (ne a o h).2];exact h
 have gr:∀a,upd (upd H1 dx (.own x)) x (.ins (U C) dx []) a=none->H1 a=none:=fun a h=>by
  by_cases z:a=x
  ·rw [z];exact hx
  ·rw [bA z] at h
   by_cases z2:a=dx
   ·rw [z2];exact hdx
   ·rwa [bA z2] at h
 have s2:SameK H1 (upd (upd H1 dx (.own x)) x (.ins (U C) dx [])):=⟨fun a o h _=>up a o h,gr⟩
 have r0:Rep X.K U (upd (upd H1 dx (.own x)) x (.ins (U C) dx [])) (.ref x) (.obj true C [] []) [x]:= .obj (fs:=[]) bX rfl .nil
 have ry2:Reps X.K U (upd (upd H1 dx (.own x)) x (.ins (U C) dx [])) us ys []:=ry.move (fun a o h _=>up a o h) fun a ha=>absurd ha (by simp)
 refine⟨by rw [Z4,ry.length],_,.non,d::ds,sA [x],by simp,zE r0 (by simp) ry2,eg,fun u H' F' fv s o rv=>⟨by cases rv;rfl,?_⟩⟩
 obtain⟨v2,fp2,k1,k2,k3,_⟩:=s.rs.rep 0 d rfl
 have ek:v2= .ref x:=by
  have:(List.map some (V.ref x::us))[0]? =some (some v2):=k1
  simp at this;exact this.symm
 subst ek
 have k3':=k3 (by simp [fxE,nJ])
 subst k3'
 refine q (.ref x) H' (F' 0) ⟨fun a o h hk=> ?_,fun a h=>s1.grow a (gr a (s.fr.grow a h))⟩ (fun a ha=> ?_) (s.rs.nd 0) k2
 ·have h1:=s1.keep a o h hk
  refine s.fr.keep a o (up a o h1) hk fun i hi=> ?_
  have:=(kO hi).2
  simp at this
  exact(ne a o h1).1 this
 ·rcases s.nw 0 a ha with ⟨i,hi⟩|z
  ·have:=(kO hi).2
   simp at this
   subst this
   exact s1.grow a hx
  ·exact s1.grow a (gr a z)
theorem mQ(Kd:Kn X.K X.mg U C qual st ps f fd)(G:FnOk X.prog X.w X.K X.mg X.base CX0 k f fd ps (SpE np X.K U mk g))(hr:Room (k+1) X.A)(hg:Gl X C)(ha:PA X (e::es) (tIO X.K U as))(has:zl5 as=true)(hnp:np=as.length+1)(hm:mk=nJ)
  (hdb:NDb C:=by decide) (he:StE e es X:=by rfl) (hpl:BkE pos es X:=by rfl):
  QP X U (.Call (.Name C p) (e::es) [] pos) (eX C (cV as) g):=(xe9 Kd.M G hr hg Kd.m Kd.b .nil yW ha hdb he hpl).imp fun σ H Q hh_=>by
 obtain⟨ps,d,w,e,q⟩:=hh_
 obtain⟨ys,ds,e1,e2⟩:=ye5 e
 refine⟨ps,ys,w,e1,fun us H1 s1 a1 x dx hx hdx hne=> ?_⟩
 show SpE np X.K U mk g (_::(us++[])) _ _ E0
 rw [Zh]
 exact xg9 s1 hx hdx hne (a1.reps has) (by rw [hnp,a1.len.2]) hm e2 q
end
section
variable{X:Cx}{U:tz9}
theorem yn3:MtR X "str.startswith" (fun x xs H Q=>∃z y,x= .str z/\xs=[.str y]/\Q (.bl (Txt.startswith z y)) H):=⟨by
 intro pins s σ H x xs v us Q I rx r h
 obtain⟨z,y,rfl,rfl,q⟩:=h
 obtain⟨t,rfl⟩:=rx
 obtain⟨u,rfl,t',rfl⟩:=wZ r
 exact SC.startswith ⟨.bl _,H,I.tok _,rfl,q⟩⟩
def oG:D->tz6
 | .str z,[.str y]=>some (.bl (Txt.startswith z y))
 |_,_=>none
theorem zq1:MtR X "str.startswith" (PMt X.K U oG):=⟨by
 rintro pins s σ H x vs v us Q I rx r ⟨dx,ds,fx,fp,d,r1,rs,e,q⟩
 unfold oG at e
 split at e
 ·cases e
  obtain⟨w,rfl,r2⟩:=rs.one_inv
  exact yn3 pins s σ H x _ v us Q I rx r ⟨_,_,r1.is_str,by rw [r2.is_str],q.now (.bl _)⟩
 ·cases e⟩
end
theorem eJ(n:Nat):cI (true::List.replicate n false)=nJ:=by
 funext i
 unfold cI nJ
 cases i with
 |zero=>rfl
 |succ i=>
  rw [Yo,Yn]
  split<;>simp
def kap:List (Str×Addr)->tz9
 |[],_=>mainGlobals
 |(x,a)::r,y=>if x=y then a else kap r y
section
variable{X:Cx}{pins:tzB}{σ:St}{H:Hp}{s:Shared}{a C dx:Addr}{fs:List (Str×V)}
theorem Inv.freeze(I:Inv X pins σ H s)(h:H a=some (.ins C dx fs)):Inv X pins σ (upd H a (.frz (PySem.W.instObj C dx) (.ins C dx fs))) s:=by
 have ne:∀b,H b=none->b≠a:=fun b hb z=>by rw [z,h] at hb;cases hb
 have nt:∀b o,H b=some o->(∀C' dx' fs',o≠ .ins C' dx' fs')->b≠a:=fun b o hb ho z=>by
  rw [z,h] at hb
  cases hb
  exact ho _ _ _ rfl
 refine⟨I.ok,I.os,I.bare,⟨I.base.keep,I.base.slot,fun b o h1 h2 h3=> ?_,I.base.there,fun b xs h1=> ?_,fun b o u h1=> ?_,fun b ps h1=> ?_⟩,I.loc,I.cell,?_,fun x c e=> ?_,fun p hp=> ?_,fun b o e=> ?_,I.len⟩
 ·have:=I.base.free b o h1 h2 h3
  rw [bA (ne b this)];exact this
 ·have:=I.base.tups b xs h1
  rw [bA (nt b _ this fun _ _ _ z=>by cases z)];exact this
 ·have:=I.base.frzs b o u h1
  rw [bA (nt b _ this fun _ _ _ z=>by cases z)];exact this
 ·obtain⟨more,this⟩:=I.base.tbls b ps h1
  exact⟨more,by rw [bA (nt b _ this fun _ _ _ z=>by cases z)];exact this⟩
 ·rw [bA (ne _ I.free)];exact I.free
 ·have:=I.freeC x c e
  rw [bA (ne _ this)];exact this
 ·obtain⟨p1,p2,p3⟩:=I.pin p hp
  exact⟨p1,by rw [bA (ne _ p2)];exact p2,p3⟩
 ·have st:∀{b o},dH X.prog X.w H s.heap b o->dH X.prog X.w (upd H a (.frz (PySem.W.instObj C dx) (.ins C dx fs))) s.heap b o:=fun x=>
   x.stay (fun _ _ _ q=>q) (fun b' hb=>by rw [bA (nt b' _ hb fun _ _ _ z=>by cases z)];exact hb) fun b' xs hb=>by rw [bA (nt b' _ hb fun _ _ _ z=>by cases z)];exact hb
  by_cases z:b=a
  ·subst z
   rw [bX] at e
   cases e
   have x:=I.hok b _ h
   obtain⟨_,_,_,ob,_⟩:=(show dH X.prog X.w H s.heap b (.ins C dx fs) from x)
   exact⟨ob,st x⟩
  ·rw [bA z] at e
   exact st (I.hok b o e)
end
theorem PE.frz(h:PE X e t):PE X e (fun σ H Q=>t σ H fun x H'=>∃a C dx fs,x= .ref a/\H' a=some (.ins C dx fs)/\Q x (upd H' a (.frz (PySem.W.instObj C dx) (.ins C dx fs)))):=⟨by
 intro pins s σ H Q I q
 exact thn (h pins s σ H _ I q) fun v s1 ⟨x,H1,I1,rx,a,C,dx,fs,ex,ea,q1⟩=>⟨x,_,I1.freeze ea,rx,q1⟩⟩
def lU(f:tz2):tz2:=fun ps=>(f ps).bind fun d=>match d with
 | .obj true C ns vs=>if D.imms vs=true then some (.obj false C ns vs) else none
 |_=>none
theorem zG(h:QP X U e f):QP X U e (lU f):=
 (PE.frz h).imp fun σ H Q hh_=>by
  obtain⟨ps,d,w,e,q⟩:=hh_
  obtain⟨d0,e1,e2⟩:=bind_some e
  refine⟨ps,d0,w,e1,fun v H1 fv s1 n1 nd1 r1=> ?_⟩
  cases d0 with
  | obj o C ns vs=>cases o with
   | true=>
    have e2':(if D.imms vs=true then some (D.obj false C ns vs) else none)=some d:=e2
    obtain⟨hi,e3⟩:=bQ e2'
    cases e3
    obtain⟨l,dx,fs,g,rfl,hl,hn,hs,rfl⟩:=r1.objT_inv
    have eg:=hs.imm hi
    subst eg
    have hln:=n1 l Z0
    have up:∀b o,H b=some o->b≠l:=fun b o hb z=>by rw [z,hln] at hb;cases hb
    refine⟨l,U C,dx,fs,rfl,hl,q (.ref l) _ [] ⟨fun b o hb hk=> ?_,fun b hb=> ?_⟩ (fun _ h=>absurd h (by simp)) Zf (.objF bX hn (hs.move (fun b o hb ht=> ?_) fun _ h=>absurd h (by simp)))⟩
    ·rw [bA (up b o hb)];exact s1.keep b o hb hk
    ·by_cases z:b=l
     ·rw [z,bX] at hb;cases hb
     ·rw [bA z] at hb;exact s1.grow b hb
    ·by_cases z:b=l
     ·rw [z,hl] at hb;cases hb;cases ht
     ·rw [bA z];exact hb
   |false=>cases e2
  |_=>cases e2
section
variable{X:Cx}{U:tz9}
theorem yv6:MtR X "str.rfind" (fun x xs H Q=>∃z y,x= .str z/\xs=[.str y]/\Q (.int (Txt.rfind z y)) H):=⟨by
 intro pins s σ H x xs v us Q I rx r h
 obtain⟨z,y,rfl,rfl,q⟩:=h
 obtain⟨t,rfl⟩:=rx
 obtain⟨u,rfl,t',rfl⟩:=wZ r
 exact SC.rfind ⟨.int _,H,I.tok _,⟨_,rfl⟩,q⟩⟩
def wN:D->tz6
 | .str z,[.str y]=>some (.int (Txt.rfind z y))
 |_,_=>none
theorem xh0:MtR X "str.rfind" (PMt X.K U wN):=⟨by
 rintro pins s σ H x vs v us Q I rx r ⟨dx,ds,fx,fp,d,r1,rs,e,q⟩
 unfold wN at e
 split at e
 ·cases e
  obtain⟨w,rfl,r2⟩:=rs.one_inv
  exact yv6 pins s σ H x _ v us Q I rx r ⟨_,_,r1.is_str,by rw [r2.is_str],q.now (.int _)⟩
 ·cases e⟩
end
def oH(f:PSt->Option (Bool×PSt)):PSt->Option (Bool×PSt):=fun ps=>(f ps).bind fun r=>some (!r.1,r.2)
def fTE(f:tz8):PSt->Option (Bool×PSt):=fun ps=>(f ps).bind fun r=>(ze6 r.1).bind fun b=>some (b,r.2)
section
variable{X:Cx}{U:tz9}{φ:F0}{a b:Expr}{pos:Pos}
theorem zc8(h:QTE X U φ a f):QTE X U φ (.UnaryOp .Not a pos) (oH f):=(yi9 h).imp fun σ H Q hh_=>by
 obtain⟨ps,F,c,ps',R,e,q⟩:=hh_
 obtain⟨⟨c1,p1⟩,e1,e2⟩:=bind_some e
 cases e2
 exact⟨ps,F,c1,p1,R,e1,fun H' F' s=>q H' F' s⟩
theorem zc9(h:QE X U φ a f)(he:∀whole,isTrue a X.env whole=(do let v<-whole;standAt a.pos;holding [v] (truthy v)):=by intro _;rfl):QTE X U φ a (fTE f):=(zn7 h he).imp fun σ H Q hh_=>by
 obtain⟨ps,F,c,ps',R,e,q⟩:=hh_
 obtain⟨⟨d,p1⟩,e1,e2⟩:=bind_some e
 obtain⟨c1,e3,e4⟩:=bind_some e2
 cases e4
 exact⟨ps,F,d,p1,R,e1,fun v H' F' fv s o r=>⟨_,zy2 r e3,q H' F' s⟩⟩
end
section
variable{X:Cx}{U:tz9}{φ:F0}{a b o e:Expr}{es rest:List Expr}{pos apos p:Pos}{j:Nat}{pf:PSt->Option (List Ps1)}
def xt4(X:Cx)(e:Expr)(t:TE):Prop:=
 ∀(pins:tzB) (s:Shared) (σ:St) (H:Hp) (Q:VK),0<s.toks->Inv X pins σ H s->t σ H Q->wpAny (model X.prog X.w) X.A (eval e X.env) (EP X pins σ Q) X.xe s
structure PEk(X:Cx)(e:Expr)(t:TE):Prop where
 go:xt4 X e t
instance {X:Cx} {e:Expr} {t:TE}:CoeFun (PEk X e t) fun _=>xt4 X e t:=⟨PEk.go⟩
theorem zg8{i:Nat}{x:Str}{pins:tzB}{s:Shared}{σ:St}{H:Hp}{v:V}{Q:Value->Shared->Prop}(hN:X.N[i]? =some x)(hv:Vis X.env.scope x)(hd:(x==("__debug__":Str))=false)(hcd:(x==("__classdict__":Str))=false)(I:Inv X pins σ H s)(e:σ[i]? =some (some v))(fin:∀u,cL v u->Q u s):wpAny (model X.prog X.w) X.A (eval (.Name x pos) X.env) Q X.xe s:=by
 obtain⟨m,hn,hl⟩:=I.loc
 obtain⟨u,r,l⟩:=hl i x v hN e hv
 rcases l with ⟨hk,hm⟩|⟨hk,c,hc,hcell⟩
 ·exact YX (wpAny_loadName_local I.ok.kind hk hn hm (fin u r)) hd
 ·rcases hk with hk|hk
  ·exact YX (wpAny_loadName_cell I.ok.kind hk hc hcell (fin u r)) hd
  ·exact YX (wpAny_loadName_free I.ok.kind hk hc hcell (fin u r) hcd) hd
def za3(i:Nat)(y z:Str):tz2:=fun ps=>((ps[i]?).join).bind fun d=>match d with
 | .str x=>if (x.length+(x.length+1)*z.length<=16777216/\(y==z)=false) then some (.str (Txt.replace x y z)) else none
 |_=>none
theorem xh1(i:Nat){x y z:Str}{j1 j2:Nat}{p1 p2 p0:Pos}(hN:X.N[i]? =some x:=by rfl)(hv:Vis X.env.scope x:=by first|exact Or.inl rfl|exact Or.inr (Or.inl rfl)|exact Or.inr (Or.inr rfl))(hd:NDb x:=by decide)
  (hcd:(x==("__classdict__":Str))=false:=by decide)
  (hbase:attributeBase (.Name x p0) "replace" X.env (eval (.Name x p0) X.env)=eval (.Name x p0) X.env:=by rfl)
  (hfew:((backTo pos (starEach [.Constant (.str y) j1 p1,.Constant (.str z) j2 p2] X.env)).all (fun x=> !x.1)&&(backToKw pos (keywordEach [] X.env)).all (fun x=>x.1.isSome)
   &&decide (([.Constant (.str y) j1 p1,.Constant (.str z) j2 p2]:List Expr).length+([]:List Keyword).length+(if ([]:List Keyword).isEmpty then 0 else 1)<30))=true:=by rfl)
  (hline:(apos.endLine==pos.line)=true:=by rfl)
  (hs:starEach [.Constant (.str y) j1 p1,.Constant (.str z) j2 p2] X.env=[(false,eval (.Constant (.str y) j1 p1) X.env),(false,eval (.Constant (.str z) j2 p2) X.env)]:=by rfl):
  PEk X (.Call (.Attribute (.Name x p0) "replace" apos) [.Constant (.str y) j1 p1,.Constant (.str z) j2 p2] [] pos) (tP X.K U (za3 i y z)):=⟨by
 intro pins s σ H Q ht I h
 obtain⟨ps,d,w,e,q⟩:=h
 obtain⟨d0,e0,e1⟩:=bind_some e
 split at e1
 ·rename_i x0
  obtain⟨⟨hb,hyz⟩,e2⟩:=bQ e1
  cases e2
  obtain⟨v,fp,hσ,r⟩:=w i _ (join_some e0)
  have:=r.is_str
  subst this
  refine wpAny_Call_method_late hbase hfew hline rfl (zg8 hN hv hd hcd I hσ fun u ru=> ?_)
  obtain⟨h1,h2⟩:=zo3 (T:="str") I ru rfl
  refine⟨"str","str.replace",XR,PySem.F.slot_str_replace,PySem.F.type_str_replace,h1,h2,?_⟩
  rw [hs]
  refine X0 rfl (Calls.evalArgs_plain ?_)
  refine YH (Xk (k:=j1) (pos:=p1) (YH (Xk (k:=j2) (pos:=p2) (Xv ?_))))
  obtain⟨t,rfl⟩:=ru
  exact SC.replace (by show s.toks≠0;omega) (by show s.toks+1≠0;omega) (by show s.toks≠s.toks+1;omega) hyz hb fun t' k=>⟨.str _,H,I.tok k,⟨_,rfl⟩,q.now (.str _)⟩
 ·cases e1⟩
end
def xb2:D->Option (List D)
 | .tup ds=>some ds
 |_=>none
theorem yn4(h:xb2 d=some ys):d= .tup ys:=by
 unfold xb2 at h
 split at h
 ·cases h;rfl
 ·cases h
def lZ(is:List Nat)(f:tz1):List D->tz1
 |[],ps=>some (.nx,ps)
 | d::ds,ps=>(xb2 d).bind fun ys=>if ys.length=is.length then(f (sO ps is ys)).bind fun q=>match q with
   |(.nx,p)=>lZ is f ds p
   |(.ct,p)=>lZ is f ds p
   |(.bk,p)=>some (.nx,p)
   |(.ret d,p)=>some (.ret d,p)
  else none
def zl6(is:List Nat)(fi:tz3)(f:tz1):tz1:=fun ps=>(fi ps).bind fun ds=>lZ is f ds ps
def zl7:D->Option (List D)
 | .lst true xs=>if D.imms xs=true then some xs else none
 |_=>none
theorem zH(h:zl7 d=some xs):d= .lst true xs/\D.imms xs=true:=by
 unfold zl7 at h
 split at h
 ·obtain⟨h1,h2⟩:=bQ h
  cases h2
  exact⟨rfl,h1⟩
 ·cases h
section
variable{X:Cx}{pins:tzB}{σ:St}{H:Hp}{s:Shared}{a:Addr}{xs:List V}
theorem zw7(I:Inv X pins σ H s)(h:H a=some (.lst xs)):∃ob,Inv X pins σ (upd H a (.frz ob (.lst xs))) s:=by
 have ne:∀b,H b=none->b≠a:=fun b hb z=>by rw [z,h] at hb;cases hb
 have nt:∀b o,H b=some o->(∀ys,o≠ .lst ys)->b≠a:=fun b o hb ho z=>by
  rw [z,h] at hb
  cases hb
  exact ho _ rfl
 obtain⟨z0,its,n,r,e0⟩:=I.hok a _ h
 generalize ({cls:= .type "list",data:= .seq its.toArray n}:Obj)=ob at e0
 refine⟨ob,I.ok,I.os,I.bare,⟨I.base.keep,I.base.slot,fun b o h1 h2 h3=> ?_,I.base.there,fun b xs h1=> ?_,fun b o u h1=> ?_,fun b ps h1=> ?_⟩,I.loc,I.cell,?_,fun x c e=> ?_,fun p hp=> ?_,fun b o e=> ?_,I.len⟩
 ·have:=I.base.free b o h1 h2 h3
  rw [bA (ne b this)];exact this
 ·have:=I.base.tups b xs h1
  rw [bA (nt b _ this fun _ z=>by cases z)];exact this
 ·have:=I.base.frzs b o u h1
  rw [bA (nt b _ this fun _ z=>by cases z)];exact this
 ·obtain⟨more,this⟩:=I.base.tbls b ps h1
  exact⟨more,by rw [bA (nt b _ this fun _ z=>by cases z)];exact this⟩
 ·rw [bA (ne _ I.free)];exact I.free
 ·have:=I.freeC x c e
  rw [bA (ne _ this)];exact this
 ·obtain⟨p1,p2,p3⟩:=I.pin p hp
  exact⟨p1,by rw [bA (ne _ p2)];exact p2,p3⟩
 ·have st:∀{b o},dH X.prog X.w H s.heap b o->dH X.prog X.w (upd H a (.frz ob (.lst xs))) s.heap b o:=fun x=>
   x.stay (fun _ _ _ q=>q) (fun b' hb=>by rw [bA (nt b' _ hb fun _ z=>by cases z)];exact hb) fun b' xs hb=>by rw [bA (nt b' _ hb fun _ z=>by cases z)];exact hb
  by_cases z:b=a
  ·subst z
   rw [bX] at e
   cases e
   exact⟨e0,st (I.hok b _ h)⟩
  ·rw [bA z] at e
   exact st (I.hok b o e)
end
theorem xh2(h:PE X e t):PE X e (fun σ H Q=>t σ H fun x H'=>∃a xs,x= .ref a/\H' a=some (.lst xs)/\∀ob,Q x (upd H' a (.frz ob (.lst xs)))):=⟨by
 intro pins s σ H Q I q
 refine thn (h pins s σ H _ I q) fun v s1 ⟨x,H1,I1,rx,a,xs,ex,ea,q1⟩=> ?_
 obtain⟨ob,I2⟩:=zw7 I1 ea
 exact⟨x,_,I2,rx,q1 ob⟩⟩
end L2
namespace L2
section
open PySem PySem.W PySem.Calls PyProof.Rows Builtin Builtin.ObjectAttr Builtin.Getset_descriptor
variable{prog:Program}{w:World}{A:Around}{E:Value->Shared->Prop}{s:Shared}{K:tz0}{x D:Addr}{name:Str}
end
open PySem PySem.Spec PyProof.Rows
def zl8(f:tz2):tz2:=fun ps=>(f ps).bind fun d=>(zl7 d).bind fun xs=>some (.lst false xs)
theorem xh3{X:Cx}{U:tz9}{e:Expr}{f:tz2}(h:QP X U e f):QP X U e (zl8 f):=
 (xh2 h).imp fun σ H Q hh_=>by
  obtain⟨ps,d,w,e,q⟩:=hh_
  obtain⟨d0,e1,e2⟩:=bind_some e
  obtain⟨xs,e3,e4⟩:=bind_some e2
  cases e4
  obtain⟨rfl,hi⟩:=zH e3
  refine⟨ps,_,w,e1,fun v H1 fv s1 n1 nd1 r1=> ?_⟩
  obtain⟨l,us,g,rfl,hl,hs,rfl⟩:=r1.lstT_inv
  have eg:=hs.imm hi
  subst eg
  have hln:=n1 l Z0
  have up:∀b o,H b=some o->b≠l:=fun b o hb z=>by rw [z,hln] at hb;cases hb
  refine⟨l,us,rfl,hl,fun ob=>q (.ref l) _ [] ⟨fun b o hb hk=> ?_,fun b hb=> ?_⟩ (fun _ h=>absurd h (by simp)) Zf (.lstF bX (hs.move (fun b o hb ht=> ?_) fun _ h=>absurd h (by simp)))⟩
  ·rw [bA (up b o hb)];exact s1.keep b o hb hk
  ·by_cases z:b=l
   ·rw [z,bX] at hb;cases hb
   ·rw [bA z] at hb;exact s1.grow b hb
  ·by_cases z:b=l
   ·rw [z,hl] at hb;cases hb;cases ht
   ·rw [bA z];exact hb
section
variable{P:Program}{w:World}{A:Around}{E:Value->Shared->Prop}{h:Heap}{g:Array GenState}{d:Drawn}{t:Nat}{os:OsState}{nm q:Str}{C N:Addr}{bs bm bmB:List Value}{hdct ab:Bool}{sn:List Str}{sub:List Value}
 {col:Option Bool} {dd:Option Addr} {k0 k1 k2 k3 k5:Option Value} {B newId initId:String}
end
section
variable{P:Program}{w:World}{A:Around}{E:Value->Shared->Prop}{s:Shared}{env:Env}{nm q:Str}{C N:Addr}{bs bm bmB:List Value}{hdct ab:Bool}{sn:List Str}{sub:List Value}
 {col:Option Bool} {dd:Option Addr} {k0 k1 k2 k3 k5:Option Value} {B newId initId:String}
end
end L2
namespace L2
section
open PySem PySem.W PySem.Calls PyProof.Rows Builtin Builtin.ObjectAttr Builtin.Getset_descriptor
variable{prog:Program}{w:World}{A:Around}{E:Value->Shared->Prop}{K:tz0}{x C:Addr}{name:Str}
end
open PySem PySem.Spec PyProof.Rows
section
variable{K:tz0}{U:tz9}{H:Hp}
theorem lY{α:Type}[DecidableEq α]:∀{kvs:List (α×V)} {ks:List α} {ds:List D} {g:List Addr} {k:α},kvs.map (·.1)=ks->Reps K U H (kvs.map (·.2)) ds g->(nY kvs k).isSome=(iC ks ds k).isSome
 |[],_,_,_,_,e,r=>by subst e;cases r;rfl
 |(k0,v0)::kvs,_,_,_,k,e,.cons h hs=>by
  subst e
  rw [Zb,iC]
  by_cases z:k0=k
  ·rw [if_pos z,qO z];rfl
  ·rw [if_neg z,qP z];exact lY rfl hs
theorem Rep.dicT_inv(r:Rep K U H v (.dic true ks ds) fp):∃a kvs g,v= .ref a/\H a=some (.dK kvs)/\kvs.map (·.1)=ks/\Reps K U H (kvs.map (·.2)) ds g/\fp=a::g:=by
 cases r with
 |dic h e hs=>exact⟨_,_,_,rfl,h,e,hs,rfl⟩
theorem Rep.dicF_inv(r:Rep K U H v (.dic false ks ds) fp):∃a o kvs,v= .ref a/\H a=some (.frz o (.dK kvs))/\kvs.map (·.1)=ks/\Reps K U H (kvs.map (·.2)) ds []:=by
 cases r with
 |dicF h e hs=>exact⟨_,_,_,rfl,h,e,hs⟩
theorem Rep.ditT_inv(r:Rep K U H v (.dit true ks ds) fp):∃a kvs g,v= .ref a/\H a=some (.dT kvs)/\kvs.map (·.1)=ks/\Reps K U H (kvs.map (·.2)) ds g/\fp=a::g:=by
 cases r with
 |dit h e hs=>exact⟨_,_,_,rfl,h,e,hs,rfl⟩
theorem Rep.ditF_inv(r:Rep K U H v (.dit false ks ds) fp):∃a o kvs,v= .ref a/\H a=some (.frz o (.dT kvs))/\kvs.map (·.1)=ks/\Reps K U H (kvs.map (·.2)) ds []:=by
 cases r with
 |ditF h e hs=>exact⟨_,_,_,rfl,h,e,hs⟩
end
def qC:tz2:=fun _=>some (.dit true [] [])
theorem yv7{X:Cx}{U:tz9}{pos:Pos}:QP X U (.Dict [] [] pos) qC:=yt8.imp fun σ H Q hh_=>by
 obtain⟨ps,d,w,e,q⟩:=hh_
 cases e
 exact fun p hp=>q.at hp (fv:=[p]) (fun a ha=>by rw [ZB.mp ha];exact hp) (by simp) (.dit (kvs:=[]) bX rfl .nil)
def iM:D->D->Option D
 |y,.dic _ ks ds=>y.key.bind fun k=>some (.bl (!(iC ks ds k).isSome))
 | .kt k,.dit _ ks ds=>some (.bl (!(iC ks ds k).isSome))
 |_,_=>none
def pP{α:Type}[DecidableEq α]:List α->List D->α->D->List D
 |k::ks,d::ds,j,y=>(if k=j then y else d)::pP ks ds j y
 |_,_,_,_=>[]
def oI:D->D->D->Option (Unit×D)
 |i,y,.dic true ks ds=>i.key.bind fun k=>if D.imms ds=true/\y.imm=true/\ks.length<sizeLine then some ((),if (iC ks ds k).isSome=true then .dic true ks (pP ks ds k y) else .dic true (ks++[k]) (ds++[y])) else none
 | .kt k,y,.dit true ks ds=>if D.imms ds=true/\y.imm=true/\ks.length<sizeLine then some ((),if (iC ks ds k).isSome=true then .dit true ks (pP ks ds k y) else .dit true (ks++[k]) (ds++[y])) else none
 |_,_,_=>none
theorem ye6(h:oI i y d=some (r,d')):(∃k ks ds,d= .dic true ks ds/\i.key=some k/\D.imms ds=true/\y.imm=true/\ks.length<sizeLine/\d'=if (iC ks ds k).isSome=true then .dic true ks (pP ks ds k y) else .dic true (ks++[k]) (ds++[y]))\/
  ∃k ks ds,d= .dit true ks ds/\i= .kt k/\D.imms ds=true/\y.imm=true/\ks.length<sizeLine/\d'=if (iC ks ds k).isSome=true then .dit true ks (pP ks ds k y) else .dit true (ks++[k]) (ds++[y]):=by
 unfold oI at h
 split at h
 ·obtain⟨k,e1,e2⟩:=bind_some h
  obtain⟨hc,e3⟩:=bQ e2
  cases e3
  exact .inl ⟨k,_,_,rfl,e1,hc.1,hc.2.1,hc.2.2,rfl⟩
 ·obtain⟨hc,e3⟩:=bQ h
  cases e3
  exact .inr ⟨_,_,_,rfl,rfl,hc.1,hc.2.1,hc.2.2,rfl⟩
 ·cases h
theorem rQ{K:tz0}{U:tz9}{H:Hp}{v:V}{y:D}{α:Type}[DecidableEq α]{k:α}(r:Rep K U H v y []):∀{kvs:List (α×V)} {ds:List D},Paired (fun v d=>Rep K U H v d []) (kvs.map (·.2)) ds->Paired (fun v d=>Rep K U H v d []) ((kvs.map fun kv=>if kv.1=k then(kv.1,v) else kv).map (·.2)) (pP (kvs.map (·.1)) ds k y)
 |[],_,.nil=> .nil
 |(k0,v0)::kvs,_,.cons h t=>by
  rw [Zb,Zb,Zb,pP]
  by_cases z:k0=k
  ·rw [if_pos z,if_pos z];exact .cons r (rQ r t)
  ·rw [if_neg z,if_neg z];exact .cons h (rQ r t)
theorem pM{α:Type}[DecidableEq α]{k:α}{v:V}:∀kvs:List (α×V),(kvs.map fun kv=>if kv.1=k then(kv.1,v) else kv).map (·.1)=kvs.map (·.1)
 |[]=>rfl
 |(k0,v0)::kvs=>by
  rw [Zb,Zb,Zb,pM kvs]
  by_cases z:k0=k
  ·rw [if_pos z]
  ·rw [if_neg z]
theorem xh4{K:tz0}{U:tz9}{H:Hp}{l:Addr}{v:V}{y:D}{kvs:List (Key×V)}{ds:List D}{k:Key}(hl:H l=some (.dK kvs))(hs:Reps K U H (kvs.map (·.2)) ds [])(ry:Rep K U H v y []):
  Rep K U (upd H l (.dK (fG kvs k v))) (.ref l) (if (iC (kvs.map (·.1)) ds k).isSome=true then .dic true (kvs.map (·.1)) (pP (kvs.map (·.1)) ds k y) else .dic true (kvs.map (·.1)++[k]) (ds++[y])) [l]:=by
 have ha:=tX k kvs
 rw [lY (k:=k) rfl hs] at ha
 have hs':Reps K U (upd H l (.dK (fG kvs k v))) (kvs.map (·.2)) ds []:=hs.updL hl rfl (by simp)
 have ry':Rep K U (upd H l (.dK (fG kvs k v))) v y []:=ry.updL hl rfl (by simp)
 by_cases hc:(iC (kvs.map (·.1)) ds k).isSome=true
 ·rw [if_pos hc]
  rw [hc] at ha
  have e:fG kvs k v=kvs.map fun kv=>if kv.1=k then(kv.1,v) else kv:=by unfold fG;rw [if_pos ha]
  exact .dic (fp:=[]) (kvs:=fG kvs k v) bX (by rw [e];exact pM kvs) (.ofp (by rw [e];rw [e] at hs' ry';exact rQ ry' hs'.nilp))
 ·rw [if_neg hc]
  rw [YK] at hc
  rw [hc] at ha
  have e:fG kvs k v=kvs++[(k,v)]:=by unfold fG;rw [if_neg (by rw [ha];exact Z8)]
  have hh:=Reps.append hs' (Reps.one ry')
  exact .dic (fp:=[]) (kvs:=fG kvs k v) bX (by rw [e,ZX];rfl) (by rw [e,ZX];rw [e] at hh;exact hh)
theorem yv8{K:tz0}{U:tz9}{H:Hp}{l:Addr}{v:V}{y:D}{kvs:List (List Key×V)}{ds:List D}{k:List Key}(hl:H l=some (.dT kvs))(hs:Reps K U H (kvs.map (·.2)) ds [])(ry:Rep K U H v y []):
  Rep K U (upd H l (.dT (fG kvs k v))) (.ref l) (if (iC (kvs.map (·.1)) ds k).isSome=true then .dit true (kvs.map (·.1)) (pP (kvs.map (·.1)) ds k y) else .dit true (kvs.map (·.1)++[k]) (ds++[y])) [l]:=by
 have ha:=tX k kvs
 rw [lY (k:=k) rfl hs] at ha
 have hs':Reps K U (upd H l (.dT (fG kvs k v))) (kvs.map (·.2)) ds []:=hs.updL hl rfl (by simp)
 have ry':Rep K U (upd H l (.dT (fG kvs k v))) v y []:=ry.updL hl rfl (by simp)
 by_cases hc:(iC (kvs.map (·.1)) ds k).isSome=true
 ·rw [if_pos hc]
  rw [hc] at ha
  have e:fG kvs k v=kvs.map fun kv=>if kv.1=k then(kv.1,v) else kv:=by unfold fG;rw [if_pos ha]
  exact .dit (fp:=[]) (kvs:=fG kvs k v) bX (by rw [e];exact pM kvs) (.ofp (by rw [e];rw [e] at hs' ry';exact rQ ry' hs'.nilp))
 ·rw [if_neg hc]
  rw [YK] at hc
  rw [hc] at ha
  have e:fG kvs k v=kvs++[(k,v)]:=by unfold fG;rw [if_neg (by rw [ha];exact Z8)]
  have hh:=Reps.append hs' (Reps.one ry')
  exact .dit (fp:=[]) (kvs:=fG kvs k v) bX (by rw [e,ZX];rfl) (by rw [e,ZX];rw [e] at hh;exact hh)
section
variable{X:Cx}{U:tz9}{φ:F0}{a b o e i:Expr}{f fa fb fi fe:tz2}{pf:PSt->Option (List Ps1)}{j:Nat}{pos apos:Pos}{tg:Expr}
theorem zg9(hu:X.A.units+1<cLine)(ha:QV X U a fa)(hb:QV X U b fb)(hm:behindInMarks .NotIn b=false:=by rfl):QT X U (.Compare a [.NotIn] [b] pos) (fB (f2 iM fa fb)):=
 (xm0 (yl4 hu ha hb) hm).imp fun σ H Q hh_=>by
  obtain⟨ps,c,w,e,q⟩:=hh_
  obtain⟨x,y,e1,e2,e3⟩:=sS (zb9 e)
  refine⟨ps,x,w,e1,fun v H1 fp s1 r1=>⟨ps,y,w.same s1,e2,fun u H2 fq s2 r2=> ?_⟩⟩
  unfold iM at e3
  split at e3
  ·obtain⟨k,e4,e5⟩:=bind_some e3
   cases e5
   obtain⟨l,kvs,g,rfl,h,hk,hs,_⟩:=r2.dic_inv
   exact⟨l,nY kvs k,rfl,.inl ⟨kvs,k,h,xE r1 e4,rfl⟩,_,by rw [lY hk hs],q H2 (s1.trans s2)⟩
  ·cases e3
   obtain⟨l,kvs,g,rfl,h,hk,hs,_⟩:=r2.dit_inv
   obtain⟨b,rfl,hb⟩:=(r1.same s2).kt_inv
   exact⟨l,_,rfl,.inr ⟨kvs,_,b,h,rfl,hb,rfl⟩,_,by rw [lY hk hs],q H2 (s1.trans s2)⟩
  ·cases e3
def qD(j:Nat)(pf:PSt->Option (List Ps1))(fi fe:tz2):tz1:=fun ps=>(fe ps).bind fun y=>((ps[j]?).join).bind fun d0=>(pf ps).bind fun p=>(fi ps).bind fun i=>(fS (oI i y) d0 p).bind fun r=>some (.nx,ps.set j (some r.2))
theorem xh5(hu:X.A.units+1<cLine)(hb:φ.bor j=false)(he:PE X e (tP X.K U fe))(ho:PE X o (nI X.K U j pf))(hi:PE X i (tV X.K U fi))(hs:swapsWith e (some (.Subscript o i apos)) pos.line X.env=pure false:=by rfl):QS X U φ (.Assign [.Subscript o i apos] e pos) (qD j pf fi fe):=
 (xf8 hu ho hi he hs).imp fun E σ H hh_=>by
  obtain⟨ps,F,fl,ps',R,e,q⟩:=hh_
  obtain⟨y,e1,e2⟩:=bind_some e
  obtain⟨d0,e3,e4⟩:=bind_some e2
  have e0:=join_some e3
  obtain⟨p,e5,e6⟩:=bind_some e4
  obtain⟨iv,e7,e8⟩:=bind_some e6
  obtain⟨⟨r,d0'⟩,em,e9⟩:=bind_some e8
  cases e9
  obtain⟨dd,dn,gp,hh⟩:=mK em
  refine⟨ps,y,R.ws,e1,fun v H1 fy s1 n1 nd1 ry=>⟨ps,p,d0,dd,R.ws.same s1,e0,e5,gp,fun lv H2 v0 s2 ev a2=>⟨ps,iv,(R.ws.same s1).same s2,e7,fun u H3 fu s3 r3=> ?_⟩⟩⟩
  have s13:=(s1.trans s2).trans s3
  obtain⟨d1,d1',fd,m1,m2,m3,m4,m5⟩:=sV R s13 hb e0 ev em (a2.same s3)
  rcases ye6 m2 with ⟨k,ks,ds,rfl,ek,hi,hy,hl,rfl⟩|⟨k,ks,ds,rfl,rfl,hi,hy,hl,rfl⟩
  ·obtain⟨l,kvs,g,rfl,hd,hk,hs,rfl⟩:=m1.dicT_inv
   subst hk
   have eg:=hs.imm hi
   subst eg
   have ey:=ry.imm hy
   subst ey
   refine⟨l,_,rfl,.inl ⟨kvs,k,hd,xE r3 ek,by simpa using hl,rfl⟩,?_⟩
   obtain⟨F',st,ow⟩:=m5 (upd H3 l (.dK (fG kvs k v))) [l] [] (fun a o h _ hn=>qS h hn) (fun a h=>fW h)
    (xh4 hd hs ((ry.same s2).same s3)) (by simp) (fun a ha=> .inl (by simpa using ha))
   exact q _ _ F' st
  ·obtain⟨bk,rfl,hbk⟩:=r3.kt_inv
   obtain⟨l,kvs,g,rfl,hd,hk,hs,rfl⟩:=m1.ditT_inv
   subst hk
   have eg:=hs.imm hi
   subst eg
   have ey:=ry.imm hy
   subst ey
   refine⟨l,_,rfl,.inr ⟨kvs,k,bk,hd,rfl,hbk,by simpa using hl,rfl⟩,?_⟩
   obtain⟨F',st,ow⟩:=m5 (upd H3 l (.dT (fG kvs k v))) [l] [] (fun a o h _ hn=>qS h hn) (fun a h=>fW h)
    (yv8 hd hs ((ry.same s2).same s3)) (by simp) (fun a ha=> .inl (by simpa using ha))
   exact q _ _ F' st
end
def yh5(h:Heap)(d:Addr)(es:Array DictEntry)(ep:Nat):Prop:=∃o,h.get? d=some o/\o.ExactDict/\o.data= .dict es ep
section
variable{prog:Program}{w:World}{A:Around}{E:Value->Shared->Prop}{s:Shared}{d it:Addr}{es:Array DictEntry}{ep i:Nat}
theorem yv9{Q:Value->Shared->Prop}(sm:(d==sysModules)=false)(hm:yh5 s.heap d es ep)(hQ:Q (.ref s.heap.objs.size) {s with heap:=s.heap.push {cls:= .type "dict_keyiterator",data:= .fields #[.ref d,.int 0 0,.int es.size 0,.int ep 0]}}):wpAny (model prog w) A (pyIter (.ref d)) Q E s:=by
 obtain⟨o,h1,h2,h3⟩:=hm
 have T:s.TypeIs (.ref d) "dict":=⟨o,h1,h2.1⟩
 refine wpAny_pyIter_slot T F.slot_dict_iter (XI F.slot_dict_iter T F.entry_dict_iter ?_ (F.args_dict_iter_1 _))
 unfold Builtin.«dict.__iter__» Builtin.Dict.dictSlotNone Builtin.Dict.showsAll
 have c1:(o.cls !=Value.type "dict")=false:=by rw [h2.1];rfl
 repeat (any_goals (first|assumption|with_reducible refine wpAny_dictEntries h1 h3 ?_|with_reducible refine wpAny_dictEpoch h1 h3 ?_|with_reducible refine YO ?_|rw [c1]|rw [sm]|simp only [ZV,Yz]|wp_step))
 exact⟨_,rfl,"dict_keyiterator",_,⟨_,Zv _ rfl,rfl⟩,F.slot_dict_keyiterator_next.lookup,hQ⟩
theorem yw0{e:DictEntry}{Q:Option Value->Shared->Prop}(hit:s.heap.IsKeyIter it d i es.size ep)(hm:yh5 s.heap d es ep)(hx:es[i]? =some e)
  (hQ:∀h',h'.IsKeyIter it d (i+1) es.size ep->Heap.SameBut it s.heap h'->Q (some e.key) {s with heap:=h'}):wpAny (model prog w) A (pyNext (.ref it)) Q E s:=by
 obtain⟨o,h1,h2,h3⟩:=id hit
 obtain⟨p,g1,g2,g3⟩:=hm
 have T:=hit.typeIs
 unfold pyNext
 refine Zg (wpAny_attempt (W8 (name:=Str.ofString "__next__") T F.slot_dict_keyiterator_next (XI F.slot_dict_keyiterator_next T F.entry_dict_keyiterator_next ?_ (F.args_dict_keyiterator_next_1 _))))
 have ix:(if (i:Int)<0 then none else es[((i:Int)).toNat]?)=some e:=by rw [if_neg (by omega),Xc,hx]
 repeat (any_goals (first|assumption|with_reducible refine wpAny_typeNameOfWhole_keyiter T ?_|with_reducible refine wpAny_typeNameOf_keyiter T ?_|with_reducible refine wpAny_fieldsOf h1 h3 ?_|with_reducible refine wpAny_dictEntries g1 g3 ?_|with_reducible refine wpAny_dictEpoch g1 g3 ?_|with_reducible refine wpAny_isOneOf_keyiter T ?_|wp_step))
 rw [ix]
 have hit':(s.heap.update it (Obj.mapFields (·.setIfInBounds 1 (rawInt ((i:Int)+1))))).IsKeyIter it d (i+1) es.size ep:=
  ⟨_,Heap.get?_update_self _ h1 (Obj.isFreed_of_fields (Obj.data_mapFields h3 _)),(Obj.cls_mapFields ..).trans h2,by rw [Obj.data_mapFields h3];simp [rawInt]⟩
 refine Zg ?_
 first|refine Zg (wpAny_typeNameOfWhole_keyiter T (ZD ?_))|refine Zg (wpAny_typeNameOf_keyiter T (ZD ?_))
 refine Zg (wpAny_isOneOf_keyiter T ?_)
 change wpAny (model prog w) A.in1 (setField (.ref it) 1 (rawInt ((i:Int)+1))>>=_) _ _ _
 refine Zg (wpAny_setField h1 h3 (by simp) (Zg (YQ (Zg (wpAny_isOneOf_keyiter (s:=⟨_,s.gens,s.drawn,s.toks,s.os⟩) hit'.typeIs ?_)))))
 change wpAny (model prog w) A.in1 (pure e.key) _ _ _
 exact ZD (ZD ⟨_,rfl,ZD (hQ _ hit' (Heap.SameBut.update ..))⟩)
theorem xh6{Q:Option Value->Shared->Prop}(hh:A.handled=none)(hit:s.heap.IsKeyIter it d i es.size ep)(hm:yh5 s.heap d es ep)(hx:es.size<=i)
  (hQ:∀h',Heap.ExtBut it s.heap h'->Q none {s with heap:=h'}):wpAny (model prog w) A (pyNext (.ref it)) Q E s:=by
 obtain⟨o,h1,h2,h3⟩:=id hit
 obtain⟨p,g1,g2,g3⟩:=hm
 have T:=hit.typeIs
 unfold pyNext
 refine Zg (wpAny_attempt (W8 (name:=Str.ofString "__next__") T F.slot_dict_keyiterator_next (XI F.slot_dict_keyiterator_next T F.entry_dict_keyiterator_next ?_ (F.args_dict_keyiterator_next_1 _))))
 have ix:(if (i:Int)<0 then none else es[((i:Int)).toNat]?)=none:=by rw [if_neg (by omega),Xc,Array.getElem?_eq_none hx]
 repeat (any_goals (first|assumption|with_reducible refine wpAny_typeNameOfWhole_keyiter T ?_|with_reducible refine wpAny_typeNameOf_keyiter T ?_|with_reducible refine wpAny_fieldsOf h1 h3 ?_|with_reducible refine wpAny_dictEntries g1 g3 ?_|with_reducible refine wpAny_dictEpoch g1 g3 ?_|with_reducible refine wpAny_isOneOf_keyiter T ?_|wp_step))
 rw [ix]
 refine Zg ?_
 first|refine Zg (wpAny_typeNameOfWhole_keyiter T (ZD ?_))|refine Zg (wpAny_typeNameOf_keyiter T (ZD ?_))
 change wpAny (model prog w) A.in1 (setField (.ref it) 0 .none>>=_) _ _ _
 refine Zg (wpAny_setField h1 h3 (by simp) ?_)
 change wpAny (model prog w) A.in1 (newExc (.type "StopIteration") []>>=_) _ _ _
 simp only [newExc,newTuple,raiseNew]
 refine Zg (Zg (YO (Zg (m:=firstArgMember _ _) (wpAny_of_eq (a:=Value.none) (by first|rfl|(simp only [firstArgMember];rfl)) (YO (Zg (wpAny_handled ?_)) (by size_fits)))) (by size_fits)))
 rw [show A.in1.handled=none from hh]
 refine Zg (ZD (wpAny_throw ?_))
 have ty:∀(hp:Heap) (ob:Obj) (g:Array GenState) (dr:Drawn) (t:Nat) (os:OsState),ob.isFreed=false->ob.cls= .type "StopIteration"->(⟨hp.push ob,g,dr,t,os⟩:Shared).TypeIs (.ref hp.objs.size) "StopIteration":=fun hp ob g dr t os h1 h2=>⟨ob,Zv _ h1,h2⟩
 refine Zg (wpAny_isInstance (T:="StopIteration") (b:=true) (ty _ _ _ _ _ _ rfl rfl) isSubtype_stop (ZD (hQ _ ?_)))
 exact((Heap.SameBut.update ..).extBut.push _).push _
end
def Itf(a:Addr)(o:Obj)(kvs:List (Key×V)):It:=⟨fun i H=>H a=some (.frz o (.dK kvs))/\i<kvs.length,fun i H x H'=>H'=H/\(kvs.map fun kv=>kV kv.1)[i]? =some x,fun i H=>H a=some (.frz o (.dK kvs))/\kvs.length<=i⟩
theorem yE{X:Cx}{pins:tzB}{σ:St}{H:Hp}{s:Shared}{a:Addr}{o:Obj}{kvs:List (Key×V)}(I:Inv X pins σ H s)(h:H a=some (.frz o (.dK kvs))):
  (a==sysModules)=false/\kvs.length<=sizeLine/\∃vs es ep,KV kvs vs/\o.data= .dict es ep/\s.heap.DictAt (fD X.prog X.w) a vs ep:=by
 obtain⟨g,z,sm,vs,hv,hd⟩:=(show dH X.prog X.w H s.heap a (.frz o (.dK kvs)) from I.hok a _ h)
 obtain⟨ep,hat⟩:=hd.dictAt
 obtain⟨o',es,g',h1,h2,h3⟩:=id hat
 rw [g] at g'
 cases g'
 exact⟨sm,z,vs,es,ep,hv,h2,hat⟩
theorem xh7{P:Program}{w:World}{K:tz0}{tg:Expr}{a it:Addr}{o:Obj}{es:Array DictEntry}{ep:Nat}{kvs:List (Key×V)}(hd:o.data= .dict es ep):Turn P w K tg (Itf a o kvs) [it] it (fun i h=>h.IsKeyIter it a i kvs.length ep) where
 mem:=by simp
 obj:=fun i h st b hb=>by
  have e:b=it:=by simpa using hb
  subst e
  obtain⟨o,e,c,d⟩:=st
  exact⟨o,e,fun v z=>by rw [d] at z;cases z⟩
 keep:=fun i h h' st k=>st.at fun o e=>k it (by simp) o e
 item:=by
  intro X hP hw hK hc i pins s σ H E I hf st hg
  subst hP hw hK
  obtain⟨sm,z,vs,es',ep',hv,hd',dd⟩:=yE I hg.1
  rw [hd] at hd'
  cases hd'
  have hi:i<vs.length:=by rw [<-ZC hv];exact hg.2
  obtain⟨⟨k,x⟩,hx'⟩:∃p,vs[i]? =some p:=⟨vs[i],by simp [hi]⟩
  obtain⟨⟨k',v'⟩,hx2,he,_⟩:=mJ hv hx'
  have he':k'=k:=he
  subst he'
  obtain⟨f0,f1,f2,f3,f4,f5⟩:=hf it (by simp)
  rw [ZC hv] at st
  refine wpAny_pyNext_dict_item st dd hx' fun key h' hkey st' sb=> ?_
  have I1:Inv X pins σ H {s with heap:=h'}:=I.turned (t':=s.toks) (fun b o hb e=>(sb.2 b hb).trans e) f0 f1 f3 f4 f5
  obtain⟨o2,e,c,d⟩:=id st'
  rw [<-ZC hv] at st'
  exact⟨key,rfl,yR (s:={s with heap:=h'}) e c d (by decide) ⟨kV k',H,I1,xg7 hkey,⟨rfl,by rw [Zi,hx2];rfl⟩,st',fun b hb=>(hf b hb).1⟩⟩
 done:=by
  intro X hP hw hK hc i pins s σ H E I hf st hg
  subst hP hw hK
  obtain⟨sm,z,vs,es',ep',hv,hd',dd⟩:=yE I hg.1
  rw [hd] at hd'
  cases hd'
  have hi:vs.length<=i:=by rw [<-ZC hv];exact hg.2
  obtain⟨f0,f1,f2,f3,f4,f5⟩:=hf it (by simp)
  rw [ZC hv] at st
  exact wpAny_pyNext_dict_end (I.ok.hd hc) st dd (YS hi) fun h' eb=>⟨rfl,I.turned (t':=s.toks) (fun b o hb e=>eb b o hb e) f0 f1 f3 f4 f5⟩
 self:=fun _ _ _ _ _ st h=>wpAny_pyIter_keyiter st h
def xt5(a:Addr)(o:Obj)(kvs:List (List Key×V)):It:=⟨fun i H=>H a=some (.frz o (.dT kvs))/\i<kvs.length,fun i H x H'=>H'=H/\∃k b,(kvs.map (·.1))[i]? =some k/\x= .ref b/\H b=some (.tup (k.map kV)),fun i H=>H a=some (.frz o (.dT kvs))/\kvs.length<=i⟩
theorem vS{X:Cx}{pins:tzB}{σ:St}{H:Hp}{s:Shared}{a:Addr}{o:Obj}{kvs:List (List Key×V)}(I:Inv X pins σ H s)(h:H a=some (.frz o (.dT kvs))):
  (a==sysModules)=false/\∃xs es ep,KT H kvs xs/\o.data= .dict es ep/\yh5 s.heap a es ep/\es.toList=xs.map (entryOfKey (tupleKind (fD X.prog X.w))):=by
 obtain⟨g,z,sm,xs,hv,o',es,ep,h1,h2,h3,h4,_⟩:=(show dH X.prog X.w H s.heap a (.frz o (.dT kvs)) from I.hok a _ h)
 rw [g] at h1
 cases h1
 exact⟨sm,xs,es,ep,hv,h3,⟨o,g,h2,h3⟩,h4⟩
theorem yw1{P:Program}{w:World}{K:tz0}{tg:Expr}{a it:Addr}{o:Obj}{es:Array DictEntry}{ep:Nat}{kvs:List (List Key×V)}(hd:o.data= .dict es ep):Turn P w K tg (xt5 a o kvs) [it] it (fun i h=>h.IsKeyIter it a i kvs.length ep) where
 mem:=by simp
 obj:=fun i h st b hb=>by
  have e:b=it:=by simpa using hb
  subst e
  obtain⟨o,e,c,d⟩:=st
  exact⟨o,e,fun v z=>by rw [d] at z;cases z⟩
 keep:=fun i h h' st k=>st.at fun o e=>k it (by simp) o e
 item:=by
  intro X hP hw hK hc i pins s σ H E I hf st hg
  subst hP hw hK
  obtain⟨sm,xs,es',ep',hv,hd',dd,he⟩:=vS I hg.1
  rw [hd] at hd'
  cases hd'
  have hl:es.size=kvs.length:=by rw [ZC hv,<-ZF,he,Zc]
  have hi:i<xs.length:=by rw [<-ZC hv];exact hg.2
  obtain⟨x,hx'⟩:∃p,xs[i]? =some p:=⟨xs[i],by simp [hi]⟩
  obtain⟨p,hx2,e1,e2,_⟩:=mJ hv hx'
  obtain⟨f0,f1,f2,f3,f4,f5⟩:=hf it (by simp)
  rw [<-hl] at st
  refine yw0 (e:=entryOfKey (tupleKind (fD X.prog X.w)) x) st dd (by rw [<-XW,he,Zi,hx'];rfl) fun h' st' sb=> ?_
  have I1:Inv X pins σ H {s with heap:=h'}:=I.turned (t':=s.toks) (fun b o hb e=>(sb.2 b hb).trans e) f0 f1 f3 f4 f5
  obtain⟨o2,e,c,d⟩:=id st'
  rw [hl] at st'
  exact⟨_,rfl,yR (s:={s with heap:=h'}) e c d (by decide) ⟨.ref x.2.1,H,I1,rfl,⟨rfl,p.1,x.2.1,by rw [Zi,hx2];rfl,rfl,e2⟩,st',fun b hb=>(hf b hb).1⟩⟩
 done:=by
  intro X hP hw hK hc i pins s σ H E I hf st hg
  subst hP hw hK
  obtain⟨sm,xs,es',ep',hv,hd',dd,he⟩:=vS I hg.1
  rw [hd] at hd'
  cases hd'
  have hl:es.size=kvs.length:=by rw [ZC hv,<-ZF,he,Zc]
  obtain⟨f0,f1,f2,f3,f4,f5⟩:=hf it (by simp)
  rw [<-hl] at st
  exact xh6 (I.ok.hd hc) st dd (by rw [hl];exact hg.2) fun h' eb=>⟨rfl,I.turned (t':=s.toks) (fun b o hb e=>eb b o hb e) f0 f1 f3 f4 f5⟩
 self:=fun _ _ _ _ _ st h=>wpAny_pyIter_keyiter st h
def dU:D->Option (List D)
 | .dic false ks _=>some (ks.map zu5)
 | .dit false ks _=>some (ks.map .kt)
 |_=>none
def tR(f:tz2):tz3:=fun ps=>(f ps).bind dU
theorem xh8{K:tz0}{U:tz9}{H:Hp}{a:Addr}{o:Obj}{kvs:List (Key×V)}(h:H a=some (.frz o (.dK kvs))):Walk K U (Itf a o kvs) [] H ((kvs.map (·.1)).map zu5) where
 go:=fun H' k i d e=>by
  rw [Yu,Zi] at e
  obtain⟨kv,hkv,e⟩:=Zl.mp e
  refine⟨⟨k a _ h (.inl rfl),(Z7.mp hkv).1⟩,fun y H2 ⟨hy1,hy2⟩=>⟨hy1,?_⟩⟩
  rw [Zi,hkv] at hy2
  cases hy2
  rw [<-e]
  exact zp7 kv.1
 stop:=fun H' k=>⟨k a _ h (.inl rfl),by rw [Zc,Zc];exact Z9 _⟩
theorem yw2{K:tz0}{U:tz9}{H:Hp}{a:Addr}{o:Obj}{kvs:List (List Key×V)}(h:H a=some (.frz o (.dT kvs))):Walk K U (xt5 a o kvs) [] H ((kvs.map (·.1)).map .kt) where
 go:=fun H' k i d e=>by
  rw [Zi] at e
  obtain⟨kk,hkk,rfl⟩:=Zl.mp e
  have hi:=(Z7.mp hkk).1
  rw [Zc] at hi
  refine⟨⟨k a _ h (.inl rfl),hi⟩,fun y H2 ⟨hy1,k2,b,hy2,hy3,hy4⟩=>⟨hy1,?_⟩⟩
  rw [hkk] at hy2
  cases hy2
  subst hy3
  subst hy1
  exact .kt hy4
 stop:=fun H' k=>⟨k a _ h (.inl rfl),by rw [Zc,Zc];exact Z9 _⟩
theorem zd0{X:Cx}{U:tz9}{tg e:Expr}{f:tz2}(h:QP X U e f):QIP X U tg e (tR f):=⟨by
 rintro pins s σ H R I ⟨ps,l,w,e,q⟩
 obtain⟨d,e1,e2⟩:=bind_some e
 unfold dU at e2
 split at e2
 ·cases e2
  refine thn (h pins s σ H (fun x H1=>SameK H H1/\∃fp,Rep X.K U H1 x _ fp) I ⟨ps,_,w,e1,fun v H' fv s1 _ _ r=>⟨s1,fv,r⟩⟩) fun v s1 ⟨x,H1,I1,r1,sm,fp,rp⟩=> ?_
  obtain⟨a,o,kvs,rfl,ha,hk,_⟩:=rp.dicF_inv
  subst hk
  cases r1
  obtain⟨hsm,z,vs,es,ep,hv,hd,dd⟩:=yE I1 ha
  refine wpAny_pyIter_dict hsm dd ?_
  refine⟨s1.heap.objs.size,[s1.heap.objs.size],_,_,H1,rfl,I1.kept (t':=s1.toks) fun b o e=>Zk _ e,xh7 (kvs:=kvs) (a:=a) hd,⟨_,Zv _ rfl,rfl,by rw [ZC hv];rfl⟩,fun b hb=> ?_,q _ H1 [] sm (fun _ h=>absurd h (by simp)) (xh8 ha)⟩
  have e:b=s1.heap.objs.size:=by simpa using hb
  subst e
  exact I1.fpOk (Z9 _) (I1.hok.fresh (Z9 _))
 ·cases e2
  refine thn (h pins s σ H (fun x H1=>SameK H H1/\∃fp,Rep X.K U H1 x _ fp) I ⟨ps,_,w,e1,fun v H' fv s1 _ _ r=>⟨s1,fv,r⟩⟩) fun v s1 ⟨x,H1,I1,r1,sm,fp,rp⟩=> ?_
  obtain⟨a,o,kvs,rfl,ha,hk,_⟩:=rp.ditF_inv
  subst hk
  cases r1
  obtain⟨hsm,xs,es,ep,hv,hd,dd,he⟩:=vS I1 ha
  have hl:es.size=kvs.length:=by rw [ZC hv,<-ZF,he,Zc]
  refine yv9 hsm dd ?_
  refine⟨s1.heap.objs.size,[s1.heap.objs.size],_,_,H1,rfl,I1.kept (t':=s1.toks) fun b o e=>Zk _ e,yw1 (kvs:=kvs) (a:=a) hd,⟨_,Zv _ rfl,rfl,by rw [<-hl];rfl⟩,fun b hb=> ?_,q _ H1 [] sm (fun _ h=>absurd h (by simp)) (yw2 ha)⟩
  have e:b=s1.heap.objs.size:=by simpa using hb
  subst e
  exact I1.fpOk (Z9 _) (I1.hok.fresh (Z9 _))
 ·cases e2⟩
theorem zq2{u:HO}{ob:Obj}(I:Inv X pins σ H s)(h:H a=some u)(e0:s.heap.get? a=some ob)(n1:∀xs,HO.tup xs≠u)(n2:∀o v,HO.frz o v≠u)(n3:∀ps,HO.tbl ps≠u)(n4:∀x,HO.own x≠u):Inv X pins σ (upd H a (.frz ob u)) s:=by
 have ne:∀b,H b=none->b≠a:=fun b hb z=>by rw [z,h] at hb;cases hb
 have nt:∀b o,H b=some o->o≠u->b≠a:=fun b o hb ho z=>by
  rw [z,h] at hb
  cases hb
  exact ho rfl
 refine⟨I.ok,I.os,I.bare,⟨I.base.keep,I.base.slot,fun b o h1 h2 h3=> ?_,I.base.there,fun b xs h1=> ?_,fun b o u h1=> ?_,fun b ps h1=> ?_⟩,I.loc,I.cell,?_,fun x c e=> ?_,fun p hp=> ?_,fun b o e=> ?_,I.len⟩
 ·have:=I.base.free b o h1 h2 h3
  rw [bA (ne b this)];exact this
 ·have:=I.base.tups b xs h1
  rw [bA (nt b _ this (n1 _))];exact this
 ·have:=I.base.frzs b o u h1
  rw [bA (nt b _ this (n2 _ _))];exact this
 ·obtain⟨more,this⟩:=I.base.tbls b ps h1
  exact⟨more,by rw [bA (nt b _ this (n3 _))];exact this⟩
 ·rw [bA (ne _ I.free)];exact I.free
 ·have:=I.freeC x c e
  rw [bA (ne _ this)];exact this
 ·obtain⟨p1,p2,p3⟩:=I.pin p hp
  exact⟨p1,by rw [bA (ne _ p2)];exact p2,p3⟩
 ·have st:∀{b o},dH X.prog X.w H s.heap b o->dH X.prog X.w (upd H a (.frz ob u)) s.heap b o:=fun x=>
   x.stay (fun _ _ _ q=>q) (fun b' hb=>by rw [bA (nt b' _ hb (n4 _))];exact hb) fun b' xs hb=>by rw [bA (nt b' _ hb (n1 _))];exact hb
  by_cases z:b=a
  ·subst z
   rw [bX] at e
   cases e
   exact⟨e0,st (I.hok b _ h)⟩
  ·rw [bA z] at e
   exact st (I.hok b o e)
theorem zq3(I:Inv X pins σ H s)(h:H a=some (.dK kvs)):∃ob,Inv X pins σ (upd H a (.frz ob (.dK kvs))) s:=by
 obtain⟨z0,sm,vs,hv,hd⟩:=(show dH X.prog X.w H s.heap a (.dK kvs) from I.hok a _ h)
 obtain⟨ep,ob,es,e0,_⟩:=hd.dictAt
 exact⟨ob,zq2 I h e0 (fun _ z=>HO.noConfusion z) (fun _ _ z=>HO.noConfusion z) (fun _ z=>HO.noConfusion z) fun _ z=>HO.noConfusion z⟩
theorem zq4(I:Inv X pins σ H s)(h:H a=some (.dT kvs)):∃ob,Inv X pins σ (upd H a (.frz ob (.dT kvs))) s:=by
 obtain⟨z0,sm,xs,hv,ob,es,ep,e0,_⟩:=(show dH X.prog X.w H s.heap a (.dT kvs) from I.hok a _ h)
 exact⟨ob,zq2 I h e0 (fun _ z=>HO.noConfusion z) (fun _ _ z=>HO.noConfusion z) (fun _ z=>HO.noConfusion z) fun _ z=>HO.noConfusion z⟩
def ze7:D->Option D
 | .obj true C ns [x,.dic true ks ds]=>if x.imm=true/\D.imms ds=true then some (.obj false C ns [x,.dic false ks ds]) else none
 | .obj true C ns [x,.dit true ks ds]=>if x.imm=true/\D.imms ds=true then some (.obj false C ns [x,.dit false ks ds]) else none
 |_=>none
def oJ(f:tz2):tz2:=fun ps=>(f ps).bind ze7
theorem zd1{X:Cx}{U:tz9}{e:Expr}{f:tz2}(h:QP X U e f):QP X U e (oJ f):=⟨by
 intro pins s σ H Q I hh_
 obtain⟨ps,d,w,e,q⟩:=hh_
 obtain⟨d0,e1,e2⟩:=bind_some e
 unfold ze7 at e2
 split at e2
 ·rename_i C ns x ks ds
  obtain⟨⟨hx,hi⟩,e3⟩:=bQ e2
  cases e3
  refine thn (h pins s σ H (fun y H1=>SameK H H1/\∃fv,(∀a∈fv,H a=none)/\fv.Nodup/\Rep X.K U H1 y _ fv) I ⟨ps,_,w,e1,fun v H' fv s1 n1 nd1 r=>⟨s1,fv,n1,nd1,r⟩⟩) fun v s1 ⟨y,H1,I1,r1,sm,fv,n1,nd1,rp⟩=> ?_
  obtain⟨l,dx,fs,g,rfl,hl,hn,hs,rfl⟩:=rp.objT_inv
  obtain⟨v1,us,f1,g1,ev,k1,k2,rfl⟩:=hs.split
  obtain⟨v2,rfl,k3⟩:=k2.one_inv
  obtain⟨b,kvs,g2,rfl,hb,hk,k4,rfl⟩:=k3.dicT_inv
  have z1:=k1.imm hx
  subst z1
  have z2:=k4.imm hi
  subst z2
  rw [Y2] at nd1 n1
  have hln:=n1 l Z0
  have hbn:=n1 b (Z1 _ Z0)
  have nbl:b≠l:=fun z=>(Zp.mp nd1).1 (z▸Z0)
  obtain⟨ob,I2⟩:=zq3 I1 hb
  have hl2:upd H1 b (.frz ob (.dK kvs)) l=some (.ins (U C) dx fs):=by rw [bA (Ya nbl)];exact hl
  refine⟨.ref l,_,I2.freeze hl2,r1,q (.ref l) _ [] ⟨fun c o hc hk'=> ?_,fun c hc=> ?_⟩ (fun _ h=>absurd h (by simp)) Zf (.objF bX hn ?_)⟩
  ·rw [bA (fun z=>by rw [z,hln] at hc;cases hc),bA (fun z=>by rw [z,hbn] at hc;cases hc)]
   exact sm.keep c o hc hk'
  ·exact sm.grow c (fW (fW hc))
  ·have mv:∀c o,H1 c=some o->tf o=true->upd (upd H1 b (.frz ob (.dK kvs))) l (.frz (PySem.W.instObj (U C) dx) (.ins (U C) dx fs)) c=some o:=fun c o hc ht=>by
    rw [bA (fun z=>by rw [z,hl] at hc;cases hc;cases ht),bA (fun z=>by rw [z,hb] at hc;cases hc;cases ht)];exact hc
   rw [ev]
   exact .cons (f:=[]) (g:=[]) (k1.move mv fun _ h=>absurd h (by simp)) (.one (.dicF (o:=ob) (by rw [bA nbl];exact bX) hk (k4.move mv fun _ h=>absurd h (by simp))))
 ·rename_i C ns x ks ds
  obtain⟨⟨hx,hi⟩,e3⟩:=bQ e2
  cases e3
  refine thn (h pins s σ H (fun y H1=>SameK H H1/\∃fv,(∀a∈fv,H a=none)/\fv.Nodup/\Rep X.K U H1 y _ fv) I ⟨ps,_,w,e1,fun v H' fv s1 n1 nd1 r=>⟨s1,fv,n1,nd1,r⟩⟩) fun v s1 ⟨y,H1,I1,r1,sm,fv,n1,nd1,rp⟩=> ?_
  obtain⟨l,dx,fs,g,rfl,hl,hn,hs,rfl⟩:=rp.objT_inv
  obtain⟨v1,us,f1,g1,ev,k1,k2,rfl⟩:=hs.split
  obtain⟨v2,rfl,k3⟩:=k2.one_inv
  obtain⟨b,kvs,g2,rfl,hb,hk,k4,rfl⟩:=k3.ditT_inv
  have z1:=k1.imm hx
  subst z1
  have z2:=k4.imm hi
  subst z2
  rw [Y2] at nd1 n1
  have hln:=n1 l Z0
  have hbn:=n1 b (Z1 _ Z0)
  have nbl:b≠l:=fun z=>(Zp.mp nd1).1 (z▸Z0)
  obtain⟨ob,I2⟩:=zq4 I1 hb
  have hl2:upd H1 b (.frz ob (.dT kvs)) l=some (.ins (U C) dx fs):=by rw [bA (Ya nbl)];exact hl
  refine⟨.ref l,_,I2.freeze hl2,r1,q (.ref l) _ [] ⟨fun c o hc hk'=> ?_,fun c hc=> ?_⟩ (fun _ h=>absurd h (by simp)) Zf (.objF bX hn ?_)⟩
  ·rw [bA (fun z=>by rw [z,hln] at hc;cases hc),bA (fun z=>by rw [z,hbn] at hc;cases hc)]
   exact sm.keep c o hc hk'
  ·exact sm.grow c (fW (fW hc))
  ·have mv:∀c o,H1 c=some o->tf o=true->upd (upd H1 b (.frz ob (.dT kvs))) l (.frz (PySem.W.instObj (U C) dx) (.ins (U C) dx fs)) c=some o:=fun c o hc ht=>by
    rw [bA (fun z=>by rw [z,hl] at hc;cases hc;cases ht),bA (fun z=>by rw [z,hb] at hc;cases hc;cases ht)];exact hc
   rw [ev]
   exact .cons (f:=[]) (g:=[]) (k1.move mv fun _ h=>absurd h (by simp)) (.one (.ditF (o:=ob) (by rw [bA nbl];exact bX) hk (k4.move mv fun _ h=>absurd h (by simp))))
 ·cases e2⟩
def Ite(K:tz0)(a:Addr):It:=
 ⟨fun i H=>∃xs x,SqL K H a xs/\xs[i]? =some x,fun i H x H'=>∃p v,H p=none/\x= .ref p/\H'=upd H p (.tup [.int i,v])/\∀xs,SqL K H a xs->xs[i]? =some v,fun i H=>∃xs,SqL K H a xs/\xs.length<=i⟩
theorem zw8{X:Cx}{pins:tzB}{σ:St}{H:Hp}{s:Shared}{h':Heap}{t':Nat}{e it:Addr}(I:Inv X pins σ H s)(k:∀b o,b≠e->b≠it->s.heap.get? b=some o->h'.get? b=some o)(he:nH X pins H e)(hi:nH X pins H it):Inv X pins σ H {s with heap:=h',toks:=t'}:=by
 have nn:∀b,(b∉[e,it])->b≠e/\b≠it:=fun b h=>⟨fun z=>h (by simp [z]),fun z=>h (by simp [z])⟩
 have nit:∀b u,H b=some u->b≠e/\b≠it:=fun b u q=>⟨fun z=>by(rw [z,he.1] at q;cases q),fun z=>by(rw [z,hi.1] at q;cases q)⟩
 refine I.step (g':=s.gens) (d':=s.drawn) (ch:=[e,it]) (fun b hb=> ?_) (fun b o _ _ hc q _=>k b o (nn b hc).1 (nn b hc).2 q) (fun b o _ _ hc q _=>⟨o.slots,k b o (nn b hc).1 (nn b hc).2 q⟩) (fun _ _ _ _ n=>n)
  (fun b o hc q=>⟨o,k b o (nn b hc).1 (nn b hc).2 q⟩) (fun _ _ e=>e) (fun _ _ _ e=>e) (fun b ps e=>⟨#[],by rw [e];simp⟩) (fun m hm=> ?_) (fun b u q=> ?_) I.bare
 ·rcases Za.mp hb with z|z
  ·rw [z];exact⟨he.2.2.2.1,he.2.1,he.2.2.2.2.1,he.2.2.2.2.2⟩
  ·rw [ZB.mp z];exact⟨hi.2.2.2.1,hi.2.1,hi.2.2.2.2.1,hi.2.2.2.2.2⟩
 ·obtain⟨o,es,ep,ho,r⟩:=hm
  exact⟨o,es,ep,k _ o (Ya he.2.1) (Ya hi.2.1) ho,r⟩
 ·refine(I.hok b u q).stay (fun c v hc q'=> ?_) (fun _ q=>q) fun _ _ q=>q
  rcases hc with z|z
  ·rw [z] at q'|-;exact k b v (nit b u q).1 (nit b u q).2 q'
  ·exact k c v (nit c _ z).1 (nit c _ z).2 q'
theorem xh9{P:Program}{w:World}{K:tz0}{elts:List Expr}{x1:Nat}{pos:Pos}(a e it:Addr)(hne:e≠it):Turn P w K (.Tuple elts x1 pos) (Ite K a) [e,it] e (fun i h=>(∃old,IsEnum h e it (i:Nat) old)/\h.IsListIter it a i) where
 mem:=by simp
 obj:=fun i h st b hb=>by
  obtain⟨⟨old,st1⟩,st2⟩:=st
  rcases Za.mp hb with rfl|hb
  ·exact⟨_,st1,fun v z=>by
    have z':Data.fields _=Data.cell v:=z
    cases z'⟩
  ·have z:b=it:=by simpa using hb
   subst z
   obtain⟨o,q,c,d⟩:=st2
   exact⟨o,q,fun v z=>by rw [d] at z;cases z⟩
 keep:=fun i h h' st k=>⟨by obtain⟨⟨old,st1⟩,_⟩:=st;exact⟨old,k e (by simp) _ st1⟩,st.2.at fun o q=>k it (by simp) o q⟩
 item:=by
  intro X hP hw hK hc i pins s σ H E I hf st hg
  subst hP hw hK
  obtain⟨xs,x,hq,hx⟩:=hg
  obtain⟨its,rv,p,hz⟩:=I.list hq
  obtain⟨u,hu,ru⟩:=rv.get hx
  obtain⟨⟨old,st1⟩,st2⟩:=st
  refine wpAny_pyNext_enum_item st1 st2 p.isList (x:=u) (by simpa using hu) hne fun h' heo hit ht hsz hk=> ?_
  refine⟨_,rfl,wpAny_letOwnedTupleGo_enum heo fun h2 he2 hs2=> ?_⟩
  have hs2':Heap.SameBut e h' h2:=hs2
  have hes:e<s.heap.objs.size:=Zo st1
  have ni:Heap.get? h2 s.heap.objs.size=some {cls:= .type "tuple",data:= .seq #[.int i s.toks,u]}:=(hs2'.2 _ (XM hes)).trans ht
  have hp:H s.heap.objs.size=none:=I.hok.fresh (Z9 _)
  have kk:∀b o,b≠e->b≠it->s.heap.get? b=some o->h2.get? b=some o:=fun b o h3 h4 h5=>(hs2'.2 b h3).trans (hk b o h3 h4 h5)
  have hes2:it<s.heap.objs.size:=by obtain⟨o,q,_⟩:=st2;exact Zo q
  have I0:Inv X pins σ (upd H s.heap.objs.size (.tup [.int i,x])) {s with heap:=s.heap.push {cls:= .type "tuple",data:= .seq #[.int i s.toks,u]}}:=
   I.laid (t':=s.toks) (fun b o q=>Zk _ q) (Z9 _) ⟨YM (vO (by simp)),[.int i s.toks,u],.cons ⟨_,rfl⟩ (.cons ru .nil),⟨_,Zv _ rfl,rfl,0,rfl⟩⟩
  have fo:∀b∈[e,it],nH X pins (upd H s.heap.objs.size (.tup [.int i,x])) b:=fun b hb=>by
   refine⟨?_,(hf b hb).2⟩
   rw [bA]
   ·exact(hf b hb).1
   ·rcases Za.mp hb with z|z
    ·rw [z];exact ZI hes
    ·rw [ZB.mp z];exact ZI hes2
  have I1:Inv X pins σ (upd H s.heap.objs.size (.tup [.int i,x])) {s with heap:=h2,toks:=s.toks+1}:=zw8 (s:={s with heap:=s.heap.push {cls:= .type "tuple",data:= .seq #[.int i s.toks,u]}}) (t':=s.toks+1) I0 (fun b o h3 h4 h5=>by
   rcases Heap.get?_push_cases h5 with ⟨rfl,rfl⟩|h5
   ·exact ni
   ·exact kk b o h3 h4 h5) (fo e (by simp)) (fo it (by simp))
  refine⟨.ref s.heap.objs.size,_,I1,rfl,⟨_,x,hp,rfl,rfl,fun ys hy=>by rw [I.list_inj hy hq];exact hx⟩,⟨⟨u,?_⟩,?_⟩,fun b hb=> ?_⟩
  ·have:((i+1:Nat):Int)=(i:Int)+1:=by push_cast;rfl
   rw [this];exact he2
  ·exact hit.at fun o q=>(hs2'.2 it (Ya hne)).trans q
  ·exact(fo b hb).1
 done:=by
  intro X hP hw hK hc i pins s σ H E I hf st hg
  subst hP hw hK
  obtain⟨xs,hq,hx⟩:=hg
  obtain⟨its,rv,p,hz⟩:=I.list hq
  obtain⟨⟨old,st1⟩,st2⟩:=st
  obtain⟨f0,f1,f2,f3,f4,f5⟩:=hf it (by simp)
  have hl:=rv.length
  exact wpAny_pyNext_enum_end (I.ok.hd hc) st1 st2 p.isList (by simp;omega) fun h' eb=>⟨rfl,I.turned (t':=s.toks) (fun b o hb e=>eb b o hb e) f0 f1 f3 f4 f5⟩
 self:=fun _ _ _ _ _ st h=>by
  obtain⟨⟨old,st1⟩,_⟩:=st
  exact wpAny_pyIter_enum st1 h
structure WalkE(K:tz0)(U:tz9)(J:It)(Z:List Addr)(H1:Hp)(ds:List D):Prop where
 go:∀H',pO Z H1 H'->∀(i:Nat) d,ds[i]? =some d->J.go i H'/\∀x H2,J.yld i H' x H2->SameK H' H2/\Rep K U H2 x d []
 stop:∀H',pO Z H1 H'->J.stop ds.length H'
def lP:Nat->List D->List D
 |_,[]=>[]
 |n,d::ds=> .tup [.int n,d]::lP (n+1) ds
theorem zh0:∀{ds:List D} {n i:Nat} {d:D},(lP n ds)[i]? =some d->∃y,ds[i]? =some y/\d= .tup [.int ((n+i:Nat):Int),y]
 |[],_,_,_,h=>by simp [lP] at h
 |y::ds,n,0,d,h=>by
  rw [lP] at h
  exact⟨y,rfl,by simpa using h.symm⟩
 |y::ds,n,i+1,d,h=>by
  rw [lP,Yo] at h
  obtain⟨z,h1,h2⟩:=zh0 h
  exact⟨z,by simpa using h1,by rw [h2,show n+1+i=n+(i+1) by omega]⟩
theorem zh1:∀(ds:List D) (n:Nat),(lP n ds).length=ds.length
 |[],_=>rfl
 |d::ds,n=>by rw [lP,Z4,Z4,zh1 ds]
theorem xi0{K:tz0}{U:tz9}{H1:Hp}{a:Addr}{vs:List V}{ds:List D}{Z:List Addr}(h:Rd H1 a (.lst vs))(hz:H1 a=some (.lst vs)->a∈Z)(r:Paired (fun v d=>Rep K U H1 v d []) vs ds):WalkE K U (Ite K a) Z H1 (lP 0 ds) where
 go:=fun H' k i d e=>by
  obtain⟨y,e0,rfl⟩:=zh0 e
  obtain⟨x,e1,r1⟩:=mJ r e0
  have sq:SqL K H' a vs:=k.sq h hz
  refine⟨⟨vs,x,sq,e1⟩,fun z H2 hy=> ?_⟩
  obtain⟨p,v,hp,rfl,rfl,hv⟩:=hy
  have e2:=hv vs sq
  rw [e1] at e2;cases e2
  have sm:SameK H' (upd H' p (.tup [.int i,x])):= .new hp _
  refine⟨sm,.tup (.inl (.inl bX)) (.cons (f:=[]) (g:=[]) ?_ (.one ((k.rep r1).same sm)))⟩
  rw [Yt];exact .int _
 stop:=fun H' k=>⟨vs,k.sq h hz,by rw [zh1,ZC r];exact Z9 _⟩
def zl9(f:tz2):tz3:=fun ps=>(f ps).bind fun d=>(zl7 d).map (lP 0)
section
variable{X:Cx}{U:tz9}{φ:F0}{pos:Pos}{body:List Stmt}{f:tz1}
theorem yn5{φ:Fx}(R:RS φ H σ ps F)(hz:∀a∈Z,H a≠none/\∀i,a∉F i)(W:WalkE φ.K φ.U J Z H ds)(hb:∀i∈is,φ.bor i=false/\φ.M i=false)
  (e:lZ is f ds ps=some (fl,ps')) (q:uX φ E σ H F fl ps'):xt3 (fun v σ H Q=>xa9 φ.K is.length (tM is) v σ H Q\/xa3 φ.K is.length (tM is) v σ H Q) (tS φ f) E σ J H:=by
 refine⟨fun k m σ1 H1=>k<=ds.length/\m=ds.length-k/\∃ps1 F1,Stp φ σ H F σ1 H1 ps1 F1/\lZ is f (ds.drop k) ps1=some (fl,ps'),⟨_,ZH _,rfl,ps,F,.refl R,by rw [Xz];exact e⟩,?_⟩
 rintro k m σ1 H1 ⟨hk,rfl,ps1,F1,s1,e1⟩
 have kp:pO Z H H1:=s1.fr.kept R fun a ha=>(hz a ha).2
 by_cases hlt:k<ds.length
 ·right
  have ed:ds[k]? =some ds[k]:=Zn hlt
  obtain⟨hgo,hy⟩:=W.go H1 kp k _ ed
  rw [ZO hlt,lZ] at e1
  obtain⟨ys,e0,e1⟩:=bind_some e1
  obtain⟨hl,e1⟩:=bQ e1
  obtain⟨⟨fl2,ps2⟩,e2,e3⟩:=bind_some e1
  refine⟨hgo,fun σ' H'=>∃F',Stp φ σ H F σ' H' ps2 F'/\lZ is f (ds.drop (k+1)) ps2=some (fl,ps'),fun σ' H' ⟨F',s,e⟩=>⟨ds.length-(k+1),by omega,hlt,rfl,ps2,F',s,e⟩,fun x H' y=> ?_⟩
  obtain⟨sm,rx⟩:=hy x H' y
  rw [yn4 e0] at rx
  obtain⟨a,vs,rfl,h,hs⟩:=rx.tup_inv
  have ln:=hs.length
  have s0:=Stp.same s1.rs sm
  obtain⟨F2,s2⟩:=Stp.setN s1.rs s0 ⟨fun a ha=>absurd ha (by simp),Zf,fun k a ha hg=>absurd hg (by simp)⟩ hs hb
  have s12:=s1.trans s2
  refine .inr ⟨a,vs,rfl,h,by omega,rP (by omega) ⟨_,F2,fl2,ps2,s2.rs,e2,?_⟩⟩
  cases fl2 with
  |nx=>exact fun σ' H' F' s=>⟨F',s12.trans s,e3⟩
  |ct=>exact fun σ' H' F' s=>⟨F',s12.trans s,e3⟩
  |bk=>cases e3;exact fun σ' H' F' s=>q σ' H' F' (s12.trans s)
  |ret d=>cases e3;exact fun v σ' H' F' fv s o r=>q v σ' H' F' fv (s12.trans s) (o.after s12) r
 ·left
  have ek:k=ds.length:=by omega
  subst ek
  rw [Xg,lZ] at e1
  cases e1
  exact⟨W.stop H1 kp,q _ _ F1 s1⟩
theorem xi1(is:List Nat){es:List Expr}{k:Nat}{l:Expr}{fl:tz2}{px p p2:Pos}(hp:PassesOwn (model X.prog X.w) X.A X.env X.xe)(hc:X.calm=true)(hg:Gl X "enumerate")(hm:X.mg "enumerate"=none)(hl:QP X U l fl)(hgs:PGs X es (tM is))(hb:∀i∈is,φ.bor i=false/\φ.M i=false)
  (hbd:QSs X U φ body f) (hn:(assignEach es X.env).length=is.length:=by rfl) (hst:(assignEach es X.env).findIdx? (·.1)=none:=by rfl) (hs1:starEach [l] X.env=(false,eval l X.env)::starEach [] X.env:=by rfl) (hs:∀x,foldedSetIterable (.Call (.Name "enumerate" p) [l] [] p2) X.env x=pure x:=by intro _;rfl):
  QS X U φ (.For (.Tuple es k px) (.Call (.Name "enumerate" p) [l] [] p2) body [] pos) (zl6 is (zl9 fl) f):=by
 have hi:PI X (.Tuple es k px) (.Call (.Name "enumerate" p) [l] [] p2) (fun σ H R=>∃ps xs,WS X.K U H σ ps/\fl ps=some (.lst true xs)/\D.imms xs=true/\∀J H1 Z,SameK H H1->(∀a∈Z,H a=none/\H1 a≠none)->WalkE X.K U J Z H1 (lP 0 xs)->R J H1):=by
  constructor
  intro pins s σ H R I hh_
  obtain⟨ps,xs,w,e1,him,q⟩:=hh_
  refine Ye (sQ I hg hm (u:= .type "enumerate") rfl ?_)
  refine Yd ?_ hs1 rfl
  rw [hs1]
  refine YH (thn (hl pins s σ H (fun v H1=>SameK H H1/\∃fv,(∀a∈fv,H a=none)/\Rep X.K U H1 v (.lst true xs) fv) I ⟨ps,_,w,e1,fun v H1 fv s1 n1 _ r1=>⟨s1,fv,n1,r1⟩⟩) fun u s1 hu=>Xv ?_)
  obtain⟨v,H1,I1,r1,sm,fv,n1,rp⟩:=hu
  obtain⟨a,ws,g,rfl,ha,hws,rfl⟩:=rp.lstT_inv
  have eg:=hws.imm him
  subst eg
  cases r1
  obtain⟨its,rv,pl,hz⟩:=I1.list (.inl (.inl ha))
  refine call_enumerate_list pl.isList fun h' hE hI hsz hk=>wpAny_pyIter_enum hE ?_
  have I2:Inv X pins σ H1 {s1 with heap:=h'}:=I1.kept (t':=s1.toks) hk
  refine⟨s1.heap.objs.size+1,[s1.heap.objs.size+1,s1.heap.objs.size],_,_,H1,rfl,I2,xh9 a (s1.heap.objs.size+1) s1.heap.objs.size (Nat.succ_ne_self _),⟨⟨_,hE⟩,hI⟩,fun b hb=> ?_,q _ H1 [a] sm (fun b hb=> ?_) (xi0 (.inl ha) (fun _=>by simp) hws.nilp)⟩
  ·have hb2:s1.heap.objs.size<=b:=by
    rcases Za.mp hb with z|z
    ·rw [z];exact Nat.le_succ _
    ·rw [ZB.mp z];exact Z9 _
   exact I1.fpOk hb2 (I1.hok.fresh hb2)
  ·rw [ZB.mp hb]
   exact⟨n1 a Z0,by rw [ha];simp⟩
 exact(zn6 hp hc hi (ym9 (n:=is.length) hc hgs hn hst) hbd hs).imp fun E σ H hh_=>by
  obtain⟨ps,F,fl',ps',R,e,q⟩:=hh_
  obtain⟨ds,e1,e2⟩:=bind_some e
  obtain⟨d,e4,e3⟩:=bind_some e1
  obtain⟨xs,e5,rfl⟩:=Zl.mp e3
  obtain⟨rfl,him⟩:=zH e5
  refine⟨ps,_,R.ws,e4,him,fun J H1 Z s1 hz W=> ?_⟩
  have s:=Stp.same R s1
  exact yn5 s.rs (fun a ha=>⟨(hz a ha).2,fun j hj=>by obtain⟨o,h,_⟩:=R.own hj;rw [(hz a ha).1] at h;cases h⟩) W hb e2 (q.back s)
end
inductive LtS(A:Around)(s:Shared):List Value->List Value->Bool->Prop
 |nn:LtS A s [] [] false
 |nc {y:Value} {ys:List Value}:LtS A s [] (y::ys) true
 |cn {x:Value} {xs:List Value}:LtS A s (x::xs) [] false
 |eq {x y:Value} {xs ys:List Value} {c:Bool}:SeqAt.EqAt A s x y true->LtS A s xs ys c->LtS A s (x::xs) (y::ys) c
 |ne {x y:Value} {xs ys:List Value} {c:Bool}:SeqAt.EqAt A s x y false->(∀(prog:Program) (w:World) (E Q:Value->Shared->Prop),Q (.bool c) s->wpAny (model prog w) A (richCompare .Lt x y) Q E s)->LtS A s (x::xs) (y::ys) c
section
open PySem.SeqAt
open PySem.AutoSeq1 (wpAny_loadPart')
open PySem.MeetsSeq PySem.MeetsSeq2 PySem.MeetsSeq3
theorem ye7(l b:Addr)(items items2:Array Value)(n n2:Nat)(dd dd2:Option Addr)(sl sl2:Array (Option Value))(c:Bool):
  Meets (Builtin.«tuple.__lt__» ⟨[.ref l,.ref b],[]⟩)
   (fun A R s=>s.heap.get? l=some {cls:= .type "tuple",dict:=dd,data:= .seq items n,slots:=sl}/\s.heap.get? b=some {cls:= .type "tuple",dict:=dd2,data:= .seq items2 n2,slots:=sl2}/\
    LtS A.in1 s items.toList items2.toList c/\R (.ok (.ret (.bool c))) s):=
 .of_wp fun prog w A R s h=>by
  obtain⟨hp,g,d,tk,os⟩:=s;obtain⟨hl,hb,hL,h⟩:=h
  have f2:=W3
  wp_walk using Yh hl,Yh hb,wpAny_forIn_list _ (fun rest b s'=>b.1=none/\s'=⟨hp,g,d,tk,os⟩/\∃(vs ws:List Value),rest=vs.zip ws/\
   LtS A.in1 ⟨hp,g,d,tk,os⟩ vs ws c/\vs.length+items2.size=ws.length+items.size/\R (.ok (.ret (.bool c))) ⟨hp,g,d,tk,os⟩) _
  case turn=>
   rintro⟨y,x⟩ rest b s' ⟨hb',rfl,vs,ws,hz,hS,hlen,hR⟩
   cases hS with
   |nn=>rw [X8] at hz;cases hz
   |nc=>rw [X8] at hz;cases hz
   |cn=>rw [W4] at hz;cases hz
   |eq he hS'=>
    rw [Yb] at hz
    injection hz with hyx hrest
    injection hyx with hy hx
    subst hy hx
    simp only [Z4] at hlen
    refine Zg (he prog w _ _ ?_)
    wp_walk
    exact⟨rfl,rfl,_,_,hrest,hS',by omega,hR⟩
   |ne he hlt=>
    rw [Yb] at hz
    injection hz with hyx hrest
    injection hyx with hy hx
    subst hy hx
    refine Zg (he prog w _ _ ?_)
    have hri:=hlt prog w
    wp_walk using hri
    exact⟨_,rfl,by simpa using hR⟩
  case fin=>
   rintro⟨b1,b2⟩ s' ⟨hb',rfl,vs,ws,hz,hS,hlen,hR⟩
   simp only at hb'
   subst hb'
   have hv:c=decide (items.size<items2.size):=by
    cases hS with
    |nn=>simp only [ZL] at hlen;exact(Z5 (by omega)).symm
    |nc=>simp only [ZL,Z4] at hlen;exact(Ze (by omega)).symm
    |cn=>simp only [ZL,Z4] at hlen;exact(Z5 (by omega)).symm
    |eq _ _=>rw [Yb] at hz;cases hz
    |ne _ _=>rw [Yb] at hz;cases hz
   rw [hv] at hR
   wp_walk
   exact⟨_,rfl,by simpa [Builtin.Tuple.tupleCompareSizes] using hR⟩
  case h=>
   exact⟨rfl,rfl,items.toList,items2.toList,rfl,hL,by simp;omega,h⟩
end
section
variable{prog:Program}{w:World}{A:Around}{E:Value->Shared->Prop}{s:Shared}
theorem xi2{l b:Addr}{items items2:Array Value}{c:Bool}{Q:Value->Shared->Prop}(hl:IsTup s.heap l items)(hb:IsTup s.heap b items2)(hS:LtS A.in1 s items.toList items2.toList c)
  (hu:A.units<cLine) (h:Q (.bool c) s):wpAny (model prog w) A (compareOp .Lt (.ref l) (.ref b)) Q E s:=by
 obtain⟨⟨cls,dd,data,sl⟩,ho,hc,n,hd⟩:=id hl
 obtain⟨⟨cls2,dd2,data2,sl2⟩,ho2,hc2,n2,hd2⟩:=id hb
 simp only at hc hd hc2 hd2
 subst hc hd hc2 hd2
 exact richCompare_meets_room (op:= .Lt) ⟨_,ho,rfl⟩ ⟨_,ho2,rfl⟩ XU XO (XJ _ _) (ye7 l b items items2 n n2 dd dd2 sl sl2 c)
  ⟨ho,ho2,hS,show Value.bool c≠Value.notImplemented/\Q (.bool c) s from⟨(fun x=>nomatch x),h⟩⟩ hu
end
def zu7:List (List Int)->List (List Int)->Bool
 |[],[]=>false
 |[],_::_=>true
 |_::_,[]=>false
 |x::xs,y::ys=>if x=y then zu7 xs ys else HT.lexLt x y
inductive TI2(s:Shared):List Value->List (List Int)->Prop
 |nil:TI2 s [] []
 |cons {a:Addr} {its:Array Value} {ns:List Int} {vs:List Value} {nss:List (List Int)}:IsTup s.heap a its->IntsAre its.toList ns->TI2 s vs nss->TI2 s (.ref a::vs) (ns::nss)
theorem zI{h:Heap}:∀{vs:List Value} {ns:List Int},IntsAre vs ns->∃as,ReadsAll h vs (ns.map .int) as
 |_,_,.nil=>⟨_,.nil⟩
 |_,_,.cons i t hs=>by
  obtain⟨as,r⟩:=zI (h:=h) hs
  exact⟨_,.cons (.int i t) r⟩
theorem zh2{s:Shared}{a:Addr}{its:Array Value}{ns:List Int}(h:IsTup s.heap a its)(hi:IntsAre its.toList ns):∃as,Reads s.heap (.ref a) (.tuple (ns.map .int)) as:=by
 obtain⟨o,e,c,n,d⟩:=h
 obtain⟨as,r⟩:=zI (h:=s.heap) hi
 exact⟨_,.tuple e c d r⟩
theorem xY:∀ns ms:List Int,PyData.eqvAll (ns.map .int) (ms.map .int)=decide (ns=ms)
 |[],[]=>by simp [PyData.eqvAll]
 |[],_::_=>by simp [PyData.eqvAll]
 |_::_,[]=>by simp [PyData.eqvAll]
 |n::ns,m::ms=>by
  rw [Zb,Zb,PyData.eqvAll,xY ns ms,PyData.eqv]
  by_cases h:n=m<;>by_cases h2:ns=ms<;>simp [h,h2]
theorem xp1{A:Around}{s:Shared}(hu:A.units+8<cLine):∀{vs ws:List Value} {nss mss:List (List Int)},TI2 s vs nss->TI2 s ws mss->LtS A s vs ws (zu7 nss mss)
 |_,_,_,_,.nil,.nil=> .nn
 |_,_,_,_,.nil,.cons _ _ _=> .nc
 |_,_,_,_,.cons _ _ _,.nil=> .cn
 | _,_,_,_,.cons (ns:=ns) h1 i1 t1,.cons (ns:=ms) h2 i2 t2=>by
  obtain⟨as,r1⟩:=zh2 h1 i1
  obtain⟨bs,r2⟩:=zh2 h2 i2
  have e:=SeqAt.eqAt_reads _ _ A s _ _ as bs r1 r2 (by simp only [PyData.canLay0,canLayAll_ints]) (by simp only [PyData.canLay0,canLayAll_ints]) (by simp only [PyData.depth,depthAll_ints];omega)
  rw [PyData.eqv,xY] at e
  rw [zu7]
  by_cases z:ns=ms
  ·rw [Ze z] at e
   rw [if_pos z]
   exact .eq e (xp1 hu t1 t2)
  ·rw [Z5 z] at e
   rw [if_neg z]
   exact .ne e fun prog w E Q q=>HT.lt_tupInts h1 h2 i1 i2 (by omega) q
def D.intss:List D->Option (List (List Int))
 |[]=>some []
 | .tup xs::ds=>(D.ints xs).bind fun ns=>(D.intss ds).map (ns::·)
 |_=>none
theorem zq5{X:Cx}{U:tz9}{pins:tzB}{σ:St}{H:Hp}{s:Shared}(I:Inv X pins σ H s):∀{ds:List D} {vs:List V} {us:List Value} {nss:List (List Int)},Reps X.K U H vs ds []->bT vs us->D.intss ds=some nss->TI2 s us nss
 |[],_,_,_,r,v,e=>by
  cases r;cases v;cases e
  exact .nil
 | d::ds,_,_,nss,r,v,e=>by
  obtain⟨v1,vs1,f,g,rfl,r1,r2,ef⟩:=r.split
  obtain⟨rfl,rfl⟩:=XQ.mp ef.symm
  cases v with
  | cons ru rus=>
   cases d with
   |tup xs=>
    obtain⟨ns,e1,e2⟩:=bind_some (show(D.ints xs).bind _=some nss from e)
    obtain⟨mss,e3,rfl⟩:=Zl.mp e2
    obtain⟨a,ws,rfl,h1,s1⟩:=r1.tup_inv
    rw [xD s1 e1] at h1
    cases ru
    obtain⟨its,rv,p,_⟩:=I.tuple h1
    exact .cons p (by simpa using zo5 rv) (zq5 I r2 rus e3)
   |_=>cases e
def zu8:D->D->Option D
 | .tup xs,.tup ys=>(D.intss xs).bind fun ns=>(D.intss ys).map fun ms=> .bl (zu7 ns ms)
 |_,_=>none
theorem xv0{X:Cx}{U:tz9}(hu:X.A.units+64<cLine):OpR X (compareOp .Lt) (POp X.K U zu8):=⟨by
 rintro pins s σ H x y v u Q I rx ry ⟨dx,dy,d,fx,fy,r1,r2,e,q⟩
 unfold zu8 at e
 split at e
 ·obtain⟨ns,e1,e⟩:=bind_some e
  obtain⟨ms,e2,e⟩:=Zl.mp e
  subst e
  obtain⟨a,vs,rfl,h1,s1⟩:=r1.tup_inv
  obtain⟨b,us,rfl,h2,s2⟩:=r2.tup_inv
  cases rx
  cases ry
  obtain⟨its,rv,p1,_⟩:=I.tuple h1
  obtain⟨its2,rv2,p2,_⟩:=I.tuple h2
  refine xi2 p1 p2 (xp1 (by show X.A.units+1+8<cLine;omega) (zq5 I s1 rv e1) (zq5 I s2 rv2 e2)) (by omega) ⟨.bl _,H,I,rfl,q.now (.bl _)⟩
 ·cases e⟩
def xt6(C:Addr)(m:Str)(sp:Sp)(dvs:List V)(E:XK)(ta:TE)(t:TA):TE:=fun σ H Q=>ta σ H fun x H1=>∃a dx fs,x= .ref a/\Rd H1 a (.ins C dx fs)/\fs.lookup m=none/\
 t σ H1 fun vs H2=>sp (x::(vs++dvs)) H2 Q E
section
variable{X:Cx}{U:tz9}{o e:Expr}{es:List Expr}{m qual:Str}{st:Stmt}{ps:List Str}{f:Addr}{fd:FuncData}{k np:Nat}{apos pos p:Pos}{pl:Sem Bool}
theorem yw3{C:Addr}{CX:CXT}{sp:Sp}{E:XK}{ds:List Value}{dvs:List V}{ta:TE}{t:TA}(he:PE X o ta)(c:Cls X.K C)(hm:Meth X.K C m f)(F:FnOk X.prog X.w X.K X.mg X.base CX k f fd ps sp)(hr:Room k X.A)(hb:lO X.K fd ps ds)(hd:bT dvs ds)(hx:oW CX X E)(ha:PA X (e::es) t)
  (hst:StE e es X:=by rfl) (hpl:BkE pos es X:=by rfl)
  (ht:eval (.Call (.Attribute o m apos) (e::es) [] pos) X.env=(do
   let ov<-eval o X.env
   standAt apos.atName
   let (f,first)<-holding [ov] (getMethod ov m pl)
   callWith pos f first (backTo pos (starEach (e::es) X.env)) (backToKw pos (keywordEach [] X.env))):=by rfl):
  PE X (.Call (.Attribute o m apos) (e::es) [] pos) (xt6 C m sp dvs E ta t):=⟨by
 intro pins s σ H Q I h
 refine XT (pl:=pl) (thn (he pins s σ H _ I h) fun u s1 ⟨x,H1,I1,rx,a,dx,fs,ex,ea,l,q⟩=> ?_) ht
 subst ex
 obtain rfl:u=Value.ref a:=rx
 refine ye4 I1 ea c hm l ?_
 refine YC (first:=[.ref a]) (h₀:=X.base) I.ok.mod.kin hm.kp (thn (ha pos pins s1 σ H1 _ I1 q) fun us s2 ⟨vs,H2,I2,r,q2⟩=>⟨I2.kIn,?_⟩) hst hpl
 exact yU (us:= .ref a::us) (vs:= .ref a::vs) F hr hb hd hx I2 (.cons rfl r) q2⟩
def zm0(C m:Str):D->Option D
 | .obj false C' ns vs=>if (C'=C/\cY ns m=none) then some (.obj false C' ns vs) else none
 |_=>none
def tT(C m:Str)(fo:tz2):tz2:=fun ps=>(fo ps).bind (zm0 C m)
theorem ye8(h:zm0 C m x=some d):∃ns vs,x=d/\d= .obj false C ns vs/\cY ns m=none:=by
 unfold zm0 at h
 split at h
 ·obtain⟨⟨hC,hn⟩,e3⟩:=bQ h
  subst hC;cases e3
  exact⟨_,_,rfl,rfl,hn⟩
 ·cases h
theorem yw4{C:Str}{h:tz6}{fo:tz2}{g:tz3}(M:Mn X.K U C m qual st ps f fd)(G:FnOk X.prog X.w X.K X.mg X.base CX0 k f fd ps (SpP np X.K U h))(hr:Room k X.A)(ho:QV X U o fo)(hnp:(e::es).length+1=np)(ha:QVA X U (e::es) g)(hlen:∀ps ds,g ps=some ds->ds.length=(e::es).length)
  (hst:StE e es X:=by rfl) (hpl:BkE pos es X:=by rfl)
  (ht:eval (.Call (.Attribute o m apos) (e::es) [] pos) X.env=(do
   let ov<-eval o X.env
   standAt apos.atName
   let (f,first)<-holding [ov] (getMethod ov m pl)
   callWith pos f first (backTo pos (starEach (e::es) X.env)) (backToKw pos (keywordEach [] X.env))):=by rfl):
  QP X U (.Call (.Attribute o m apos) (e::es) [] pos) (aJ h (aA (tT C m fo) g)):=(yw3 ho M.c M.h G hr M.b .nil yW ha hst hpl ht).imp fun σ H Q hh_=>by
 obtain⟨ps,d,w,e,q⟩:=hh_
 obtain⟨ds,e1,e2⟩:=bind_some e
 obtain⟨x,k1,k2⟩:=bind_some e1
 obtain⟨ds',k3,k4⟩:=bind_some k2
 cases k4
 obtain⟨y,k0,k1⟩:=bind_some k1
 obtain⟨ns,vs,rfl,rfl,k6⟩:=ye8 k1
 refine⟨ps,_,w,k0,fun v H1 fp s1 r1=> ?_⟩
 have r1':=r1
 obtain⟨_,_,_,_,rfl,hl,hn,hs,_⟩:=r1.obj_inv
 subst hn
 refine⟨_,_,_,rfl,hl,sI k6,ps,ds',w.same s1,k3,fun us H2 fq s2 r2=> ?_⟩
 show SpP np X.K U h (_::(us++[])) H2 Q E0
 rw [Zh]
 exact⟨by rw [Z4,r2.length,hlen ps ds' k3,hnp],_,_,d,.cons (r1'.same s2) r2,e2,q.after (s1.trans s2)⟩
end
def sB(fa:tz2)(f:tz8):tz8:=fun ps=>(fa ps).bind fun c=>match c with
 | .bl true=>f ps
 | .bl false=>some (.bl false,ps)
 |_=>none
def zm1(f:PSt->Option (Bool×PSt))(g:tz4):PSt->Option (Bool×PSt):=fun ps=>(f ps).bind fun r=>if r.1=true then some (true,r.2) else(g r.2).map (·,r.2)
section
variable{X:Cx}{U:tz9}{φ:F0}{a b:Expr}{pos:Pos}
theorem yn6{fa:tz2}{f:tz8}(ha:QP X U a fa)(hb:QE X U φ b f):QE X U φ (.BoolOp .And [a,b] pos) (sB fa f):=
 (yj1 ha (yj0 hb)).imp fun σ H Q hh_=>by
  obtain⟨ps,F,d,ps',R,e,q⟩:=hh_
  unfold sB at e
  obtain⟨k,e1,e2⟩:=bind_some e
  obtain⟨c,rfl,e3⟩:=zk6 (x:=f ps) (y:=some (.bl false,ps)) e2
  refine⟨ps,_,R.ws,e1,fun v H1 fv s1 _ _ r1=>⟨c,r1.is_bl,?_⟩⟩
  cases c with
  |true=>
   rw [if_pos rfl] at e3|-
   exact⟨ps,F,d,ps',R.same s1,e3,fun u H2 F2 fu s2 o2 r2=>q u H2 F2 fu ((Stp.same R s1).trans s2) (OwnV.after (Stp.same R s1) o2) r2⟩
  |false=>
   rw [if_neg Z8] at e3|-
   cases e3
   exact q _ H1 F [] (Stp.same R s1) (OwnV.new R (fun _ h=>absurd h (by simp)) Zf) (.bl false)
theorem xp2{f:PSt->Option (Bool×PSt)}{g:tz4}(ha:QTE X U φ a f)(hb:QT X U b g):QTE X U φ (.BoolOp .Or [a,b] pos) (zm1 f g):=
 (PW.pt (xb8 ha (yi8 hb))).imp fun σ H Q hh_=>by
  obtain⟨ps,F,c,ps',R,e,q⟩:=hh_
  obtain⟨⟨c1,p1⟩,e1,e2⟩:=bind_some e
  refine⟨ps,F,c1,p1,R,e1,fun H1 F1 s1=> ?_⟩
  cases c1 with
  |true=>
   rw [if_pos rfl] at e2
   cases e2
   exact q H1 F1 s1
  |false=>
   rw [if_neg Z8] at e2
   obtain⟨c2,e3,e4⟩:=Zl.mp e2
   cases e4
   exact⟨p1,_,s1.rs.ws,e3,fun H2 s2=>q H2 F1 (s1.trans (.same s1.rs s2))⟩
end
section
open PySem.SeqAt
open PySem.AutoSeq1 (wpAny_loadPart')
open PySem.MeetsSeq PySem.MeetsSeq2 PySem.MeetsSeq3
end
theorem bC{X:Cx}{U:tz9}{φ:F0}(i:Nat){x:Str}{e:Expr}{pos pos':Pos}{f:tz2}(hN:X.N.Nodup)(he:QP X U e f)(hi:X.N[i]? =some x:=by exact rfl)(hx:Loc X.env.scope x:=by first|exact Or.inl rfl|exact Or.inr rfl)(hb:φ.bor i=false:=by exact rfl)(hm:φ.M i=false:=by exact rfl)
  (hs:swapsWith e (some (.Name x pos')) pos.line X.env=pure false:=by exact rfl) (hf:X.fn x=true\/X.env.scope.names.lookup x=some .local:=by first|exact .inl rfl|exact .inr rfl):QS X U φ (.Assign [.Name x pos'] e pos) (aS i (aH f)):=zp1 i hN hi hx hb hm (QP.e he) hs hf
theorem qV{φ:F0}(k:Nat)(h:φ.bor k=false:=by exact rfl):∀j∈([k]:List Nat),φ.bor j=false:=fun j hj=>by rw [ZB.mp hj];exact h
theorem nd1(k:Nat):([k]:List Nat).Nodup:=by simp
def D.keys:List D->Option (List Key)
 |[]=>some []
 |d::ds=>d.key.bind fun k=>(D.keys ds).map (k::·)
section
variable{K:tz0}{U:tz9}{H:Hp}
theorem zq6:∀{vs:List V} {ds:List D} {fp:List Addr} {ks:List Key},Reps K U H vs ds fp->D.keys ds=some ks->vs=ks.map kV
 |_,_,_,_,.nil,e=>by cases e;rfl
 |_,_,_,_,.cons h hs,e=>by
  obtain⟨k,e1,e2⟩:=bind_some e
  obtain⟨ks,e3,rfl⟩:=Zl.mp e2
  rw [Zb,<-zq6 hs e3,xE h e1]
theorem zh3:∀ks:List Key,Reps K U H (ks.map kV) (ks.map zu5) []
 |[]=> .nil
 |k::ks=> .cons (f:=[]) (g:=[]) (zp7 k) (zh3 ks)
def unK:D->D
 | .kt ks=> .tup (ks.map zu5)
 |d=>d
theorem xp3{v:V}{d:D}{fp:List Addr}(r:Rep K U H v d fp):Rep K U H v (unK d) fp:=by
 cases r with
 |kt h=>exact .tup (.inl (.inl h)) (zh3 _)
 |non=>exact .non
 |bl b=>exact .bl b
 |int b=>exact .int b
 |str b=>exact .str b
 |ty b=>exact .ty b
 |tup h hs=>exact .tup h hs
 |con h hs=>exact .con h hs
 |lst h hs=>exact .lst h hs
 |lstF h hs=>exact .lstF h hs
 |dic h e hs=>exact .dic h e hs
 |dicF h e hs=>exact .dicF h e hs
 |obj h e hs=>exact .obj h e hs
 |objF h e hs=>exact .objF h e hs
 |dit h e hs=>exact .dit h e hs
 |ditF h e hs=>exact .ditF h e hs
end
def fKt(g:tz3):tz2:=fun ps=>(g ps).bind fun ds=>if ds.length<=1000 then(D.keys ds).map .kt else none
def fUn(f:tz2):tz2:=fun ps=>(f ps).map unK
section
variable{X:Cx}{U:tz9}{φ:F0}{es:List Expr}{e:Expr}{g:tz3}{f:tz2}{pos:Pos}
theorem ye9{x1}(h:QPA X U es g):QP X U (.Tuple es x1 pos) (fKt g):=
 (yk3 h).imp fun σ H Q hh_=>by
  obtain⟨ps,d,w,e,q⟩:=hh_
  obtain⟨ds,e1,e2⟩:=bind_some e
  obtain⟨hc,e3⟩:=bQ e2
  obtain⟨ks,e4,rfl⟩:=Zl.mp e3
  refine⟨ps,ds,w,e1,fun vs H1 fv s1 n1 nd1 r1=>⟨by rw [r1.length];exact yY hc,fun p hp=> ?_⟩⟩
  exact q _ _ [] (s1.trans (.new hp _)) (fun _ h=>absurd h (by simp)) Zf (.kt (by rw [<-zq6 r1 e4];exact bX))
theorem QV.un(h:QV X U e f):QV X U e (fUn f):=h.imp fun σ H Q hh_=>by
 obtain⟨ps,d,w,e,q⟩:=hh_
 obtain⟨d0,e1,rfl⟩:=Zl.mp e
 exact⟨ps,d0,w,e1,fun v H' fp s r=>q v H' fp s (xp3 r)⟩
def zm2(j:Nat)(f:tz1):tz1:=fun ps=>((ps[j]?).join).bind fun d=>(ze7 d).bind fun d'=>f (ps.set j (some d'))
theorem yn7{φ:Fx}{H:Hp}{σ:St}{ps:PSt}{F:Nat->List Addr}{j:Nat}{l b:Addr}{u1 u2:HO}{v:V}{d d':D}(R:RS φ H σ ps F)(hb:φ.bor j=false)(hj:ps[j]? =some (some d))(hv:σ[j]? =some (some v))(ml:l∈F j)(mb:b∈F j)(nl:∀o,H l=some o->tf o=false)(nb:∀o,H b=some o->tf o=false)
  (r:Rep φ.K φ.U (upd (upd H b u1) l u2) v d' []):Stp φ σ H F σ (upd (upd H b u1) l u2) (ps.set j (some d')) (lR F j []):=by
 have oth:∀a,a≠l->a≠b->upd (upd H b u1) l u2 a=H a:=fun a h1 h2=>by rw [bA h1,bA h2]
 have hlt:j<ps.length:=(Z7.mp hj).1
 have sf:∀i a,a∈lR F j [] i->i≠j/\a∈F i:=fun i a h=>by
  unfold lR at h
  by_cases z:i=j
  ·rw [if_pos z] at h;cases h
  ·rw [if_neg z] at h;exact⟨z,h⟩
 refine⟨⟨fun a o h _ hn=> ?_,fun a h=>fW (fW h)⟩,fun i a h=> .inl ⟨i,(sf i a h).2⟩,⟨fun i d0 h=> ?_,fun i a h=> ?_,fun i k a h1 h2=>R.dis i k a (sf i a h1).2 (sf k a h2).2,fun i=> ?_,fun i a h=>R.nb i a (sf i a h).2,fun k a h=> ?_,by rw [List.length_set];exact R.len⟩,fun _ _=>rfl⟩
 ·rw [oth a (fun z=>hn j (z▸ml)) fun z=>hn j (z▸mb)];exact h
 ·by_cases z:i=j
  ·subst z
   rw [Zx hlt] at h
   cases h
   exact⟨v,[],hv,r,fun _=>by unfold lR;rw [if_pos rfl],fun _ _ h=>absurd h (by simp)⟩
  ·rw [Zs (Ya z)] at h
   obtain⟨v0,fp,h1,h2,h3,h4⟩:=R.rep i d0 h
   have out:∀a∈fp,a≠l/\a≠b:=fun a ha=>by
    by_cases c:φ.bor i=false
    ·have ha':=h3 c▸ha
     exact⟨fun y=>z (R.dis i j a ha' (y▸ml)),fun y=>z (R.dis i j a ha' (y▸mb))⟩
    ·have hB:=h4 (by simpa using c) a ha
     exact⟨fun y=>R.nb j l ml i (y▸hB),fun y=>R.nb j b mb i (y▸hB)⟩
   refine⟨v0,fp,h1,h2.move (fun a o ha ht=> ?_) fun a ha=>oth a (out a ha).1 (out a ha).2,fun c=> ?_,h4⟩
   ·rw [oth a (fun y=>by rw [nl o (y▸ha)] at ht;cases ht) fun y=>by rw [nb o (y▸ha)] at ht;cases ht];exact ha
   ·unfold lR;rw [if_neg z];exact h3 c
 ·obtain⟨z,ha⟩:=sf i a h
  obtain⟨h1,d0,h2⟩:=R.emp i a ha
  exact⟨h1,d0,by rw [Zs (Ya z)];exact h2⟩
 ·unfold lR
  split
  ·exact Zf
  ·exact R.nd i
 ·intro z
  exact R.bt k a h (fW (fW z))
theorem xi3{j:Nat}{l:List Stmt}{f:tz1}(hb:φ.bor j=false)(h:QSs X U φ l f):QSs X U φ l (zm2 j f):=⟨by
 intro pins s σ H E I hh_
 obtain⟨ps,F,fl,ps',R,e,q⟩:=hh_
 obtain⟨d,e1,e2⟩:=bind_some e
 obtain⟨d',e3,e4⟩:=bind_some e2
 have hj:=join_some e1
 obtain⟨v,fp,hv,rp,hF,_⟩:=R.rep j d hj
 have hF:=hF hb
 subst hF
 have nd:=R.nd j
 unfold ze7 at e3
 split at e3
 ·rename_i C ns x ks ds
  obtain⟨⟨hx,hi⟩,e5⟩:=bQ e3
  cases e5
  obtain⟨l,dx,fs,g,rfl,hl,hn,hs,eF⟩:=rp.objT_inv
  obtain⟨v1,us,f1,g1,ev,k1,k2,rfl⟩:=hs.split
  obtain⟨v2,rfl,k3⟩:=k2.one_inv
  obtain⟨b,kvs,g2,rfl,hbb,hk,k4,rfl⟩:=k3.dicT_inv
  have z1:=k1.imm hx
  subst z1
  have z2:=k4.imm hi
  subst z2
  rw [Y2] at eF
  have nbl:b≠l:=fun z=>by rw [eF] at nd;exact(Zp.mp nd).1 (z▸Z0)
  obtain⟨ob,I2⟩:=zq3 I hbb
  have hl2:upd H b (.frz ob (.dK kvs)) l=some (.ins (U C) dx fs):=by rw [bA (Ya nbl)];exact hl
  have mv:∀c o,H c=some o->tf o=true->upd (upd H b (.frz ob (.dK kvs))) l (.frz (PySem.W.instObj (U C) dx) (.ins (U C) dx fs)) c=some o:=fun c o hc ht=>by
   rw [bA (fun z=>by rw [z,hl] at hc;cases hc;cases ht),bA (fun z=>by rw [z,hbb] at hc;cases hc;cases ht)];exact hc
  refine h pins s σ _ E (I2.freeze hl2) (qQ (yn7 (l:=l) (b:=b) R hb hj hv (by rw [eF];exact Z0) (by rw [eF];exact Z1 _ Z0) (fun o ho=>by rw [hl] at ho;cases ho;rfl) (fun o ho=>by rw [hbb] at ho;cases ho;rfl) (.objF bX hn ?_)) e4 q)
  rw [ev]
  exact .cons (f:=[]) (g:=[]) (k1.move mv fun _ h=>absurd h (by simp)) (.one (.dicF (o:=ob) (by rw [bA nbl];exact bX) hk (k4.move mv fun _ h=>absurd h (by simp))))
 ·rename_i C ns x ks ds
  obtain⟨⟨hx,hi⟩,e5⟩:=bQ e3
  cases e5
  obtain⟨l,dx,fs,g,rfl,hl,hn,hs,eF⟩:=rp.objT_inv
  obtain⟨v1,us,f1,g1,ev,k1,k2,rfl⟩:=hs.split
  obtain⟨v2,rfl,k3⟩:=k2.one_inv
  obtain⟨b,kvs,g2,rfl,hbb,hk,k4,rfl⟩:=k3.ditT_inv
  have z1:=k1.imm hx
  subst z1
  have z2:=k4.imm hi
  subst z2
  rw [Y2] at eF
  have nbl:b≠l:=fun z=>by rw [eF] at nd;exact(Zp.mp nd).1 (z▸Z0)
  obtain⟨ob,I2⟩:=zq4 I hbb
  have hl2:upd H b (.frz ob (.dT kvs)) l=some (.ins (U C) dx fs):=by rw [bA (Ya nbl)];exact hl
  have mv:∀c o,H c=some o->tf o=true->upd (upd H b (.frz ob (.dT kvs))) l (.frz (PySem.W.instObj (U C) dx) (.ins (U C) dx fs)) c=some o:=fun c o hc ht=>by
   rw [bA (fun z=>by rw [z,hl] at hc;cases hc;cases ht),bA (fun z=>by rw [z,hbb] at hc;cases hc;cases ht)];exact hc
  refine h pins s σ _ E (I2.freeze hl2) (qQ (yn7 (l:=l) (b:=b) R hb hj hv (by rw [eF];exact Z0) (by rw [eF];exact Z1 _ Z0) (fun o ho=>by rw [hl] at ho;cases ho;rfl) (fun o ho=>by rw [hbb] at ho;cases ho;rfl) (.objF bX hn ?_)) e4 q)
  rw [ev]
  exact .cons (f:=[]) (g:=[]) (k1.move mv fun _ h=>absurd h (by simp)) (.one (.ditF (o:=ob) (by rw [bA nbl];exact bX) hk (k4.move mv fun _ h=>absurd h (by simp))))
 ·cases e3⟩
end
section
variable{X:Cx}{U:tz9}
def sC:D->tz6
 | .str z,[.str y,.int i]=>some (.bl (Txt.startswith3 z y i))
 |_,_=>none
theorem yf0:MtR X "str.startswith" (PMt X.K U sC):=⟨by
 rintro pins s σ H x vs v us Q I rx r ⟨dx,ds,fx,fp,d,r1,rs,e,q⟩
 unfold sC at e
 split at e
 ·cases e
  obtain⟨w1,w2,f1,f2,rfl,r2,r3⟩:=rs.two_inv
  cases r1
  cases r2
  cases r3
  cases r with
  | cons h1 h2=>cases h2 with
   | cons h3 h4=>cases h4 with
    |nil=>
     obtain⟨t,rfl⟩:=rx
     obtain⟨t1,rfl⟩:=h1
     obtain⟨t2,rfl⟩:=h3
     exact SC.startswith3 ⟨.bl _,H,I.tok _,rfl,q.now (.bl _)⟩
 ·cases e⟩
end
def zu9(i:Nat)(k:Int):tz4:=fun ps=>match (ps[i]?).join with
 |some (.int n)=>some (decide (n=k))
 |_=>none
section
variable{X:Cx}{U:tz9}{φ:F0}{e:Expr}{f:tz2}
theorem xp4(i:Nat){x:Str}{k:Int}{j0:Nat}{p1 p2 p3 rp ip:Pos}(he:PEk X e (tP X.K U f))(hN:X.N[i]? =some x:=by rfl)(hv:Vis X.env.scope x:=by first|exact Or.inl rfl|exact Or.inr (Or.inl rfl)|exact Or.inr (Or.inr rfl))(hd:NDb x:=by decide)
  (hcd:(x==("__classdict__":Str))=false:=by decide) (hm:behindInMarks .Eq (.Constant (.int k) j0 p2)=false:=by rfl):
  QS X U φ (.If (.Compare (.Name x p1) [.Eq] [.Constant (.int k) j0 p2] p3) [.Return (some e) rp] [] ip) (fIf (aY (zu9 i k)) (bR (aH f)) bP):=⟨by
 intro pins s σ H D I hh_
 obtain⟨ps,F,fl,ps',R,e0,q⟩:=hh_
 obtain⟨⟨b,ps1⟩,e1,e2⟩:=bind_some e0
 unfold aY at e1
 obtain⟨b',e3,e4⟩:=bind_some e1
 cases e4
 unfold zu9 at e3
 split at e3
 ·rename_i n hn
  cases e3
  obtain⟨v,fp,hσ,rp',_⟩:=R.rep i _ (join_some hn)
  have:=rp'.is_int
  subst this
  refine wpAny_If (X6 (zg8 hN hv hd hcd I hσ fun u ru=>wpAny_Constant_int ?_) hm)
  obtain⟨t,rfl⟩:=ru
  refine eq_int (ZY ?_)
  rw [Bool.beq_eq_decide_eq]
  by_cases c:n=k
  ·rw [Ze c] at e2|-
   rw [if_pos rfl] at e2
   unfold bR aH at e2
   obtain⟨⟨d,p2⟩,e5,e6⟩:=bind_some e2
   cases e6
   obtain⟨d',e7,e8⟩:=bind_some e5
   cases e8
   show wpAny (model X.prog X.w) X.A (execs [.Return (some e) rp] X.env) _ _ _
   refine XC (wpAny_Return_some (thn (he pins _ σ H (fun v H'=>D.rt v H') (by show 0<s.toks+1;omega) (I.tok _) ⟨ps,d,R.ws,e7,fun v H' fv s1 n1 nd r=>q v σ H' F fv (Stp.same R s1) (OwnV.new R n1 nd) r⟩) fun v s1 ⟨x,H1,I1,r1,q1⟩=> ?_))
   exact⟨x,σ,H1,I1,r1,q1⟩
  ·rw [Z5 c] at e2|-
   rw [if_neg Z8] at e2
   cases e2
   show wpAny (model X.prog X.w) X.A (execs [] X.env) _ _ _
   exact YD ⟨σ,H,I.tok _,q σ H F (.refl R)⟩
 ·cases e3⟩
end
end L2
namespace L3
open PySem PySem.Spec PyProof.Rows L2
def top(i:Nat):Stmt:=PySem.Challenge.pw_linepress_k25_other_texts.main.body.getD i (.Pass ⟨0,0,0,0⟩)
end L3
namespace My
open PySem PySem.Spec PyProof.Rows L2 L3
variable{P:Program}{w:World}{K:tz0}{mg:tzA}{base:Heap}{U:tz9}
theorem dE{N ps:List Str}{sc:Scope}(a:sc.kind= .function:=by rfl)(b:sc.isCoroutine=false:=by rfl)(c:sc.isGenerator=false:=by rfl)(d:N.Nodup:=by decide+kernel)(e:N.take ps.length=ps:=by rfl)(f:∀x∈ps,sc.names.lookup x=some .local\/sc.names.lookup x=some .cell:=by decide+kernel)(g:∀y∈sc.names,y.2≠ .free:=by decide+kernel):FnScope N ps sc:=⟨a,b,c,d,e,f,g⟩
inductive Leaf where
 |word (x:Str)|gap (x:Str)|stop (c:Int)|fin
inductive Tk where
 |leaf (l:Leaf)|opn|cls|hng (n:Int)|bck|eit|orr|don
inductive Pc where
 |leaf (l:Leaf)|group (r:List Pc)|hang (n:Int) (r:List Pc)|either (rs:List (List Pc))
mutual
def bN:Pc->List Tk
 | .leaf l=>[.leaf l]
 | .group r=> .opn::(toksR r++[.cls])
 | .hang n r=> .hng n::(toksR r++[.bck])
 | .either rs=> .eit::(toksRows rs++[.don])
def toksR:List Pc->List Tk
 |[]=>[]
 |p::r=>bN p++toksR r
def toksRows:List (List Pc)->List Tk
 |[]=>[]
 |r::rs=>toksR r++toksMore rs
def toksMore:List (List Pc)->List Tk
 |[]=>[]
 |r::rs=> .orr::(toksR r++toksMore rs)
end
theorem nC:∀r s:List Pc,toksR (r++s)=toksR r++toksR s
 |[],s=>rfl
 |p::r,s=>by
  show bN p++toksR (r++s)=(bN p++toksR r)++toksR s
  rw [nC r s,Zj]
theorem yn8(p:Pc):toksR [p]=bN p:=by
 show bN p++[]=bN p
 rw [Zh]
mutual
def cX:Pc->Nat
 | .leaf _=>0
 | .group r=>depR r+1
 | .hang _ r=>depR r+1
 | .either rs=>depRs rs+1
def depR:List Pc->Nat
 |[]=>0
 |p::r=>max (cX p) (depR r)
def depRs:List (List Pc)->Nat
 |[]=>0
 |r::rs=>max (depR r) (depRs rs)
end
theorem vT:∀(r:List Pc) (p:Pc),depR (r++[p])=max (depR r) (cX p)
 |[],p=>by
  exact Nat.max_comm (cX p) 0
 |q::r,p=>by
  show max (cX q) (depR (r++[p]))=max (max (cX q) (depR r)) (cX p)
  rw [vT r p,Nat.max_assoc]
theorem uC:∀(rs:List (List Pc)) (r:List Pc),depRs (rs++[r])=max (depRs rs) (depR r)
 |[],r=>by
  exact Nat.max_comm (depR r) 0
 |q::rs,r=>by
  show max (depR q) (depRs (rs++[r]))=max (max (depR q) (depRs rs)) (depR r)
  rw [uC rs r,Nat.max_assoc]
def xP(c:Nat):Bool:=decide (33<=c)&&decide (c<=126)
def za4(z:Str):Prop:=1<=z.length/\z.length<=12/\z.cps.toList.all xP=true
def fE:Leaf->Prop
 | .word x=>za4 x
 | .gap x=>x=""\/x=" "
 | .stop c=>0<=c/\c<=40
 | .fin=>True
end My
namespace My
open PySem PySem.Spec PyProof.Rows L2 L3
variable{P:Program}{w:World}{K:tz0}{mg:tzA}{base:Heap}{U:tz9}
def oY(ns:List Int)(k:Int):Int:=ns.getD (k % (ns.length:Int)).toNat 0
def za5(ns:List Int)(k:Int):Int:=k/(if (ns.length:Int)>1 then(ns.length:Int) else 1)
def xt7(ns:List Int)(k salt:Int):Int:=PySem.Builtin.bitAnd (oY ns k) 2147483647+1009*k*k+7919*salt*salt+12
def xQ(ns:List Int)(k salt:Int):Int:=xt7 ns k salt*48271 % 2147483647
def xd5(ns:List Int)(k salt:Int):Int:=xQ ns k salt*xQ ns k salt % 2147483629
def vA(ns:List Int)(k salt:Int):Int:=PySem.Builtin.bitAnd (oY ns k/2^(31*(salt+128*za5 ns k)).toNat+xd5 ns k salt) 2147483647
theorem zw9(ns:List Int)(k salt:Int):0<=vA ns k salt/\vA ns k salt<2147483648:=by
 have e:vA ns k salt=(oY ns k/2^(31*(salt+128*za5 ns k)).toNat+xd5 ns k salt) % 2147483648:=PySem.W.kbt_mask _ 31
 rw [e]
 exact⟨Zt _ (by decide),Zr _ (by decide)⟩
def zv0(K:tz0):Sp:=fun vs H Q _=>∃(a:Addr) (ns:List Int) (k:Int),vs=[.ref a,.int k]/\SqL K H a (ns.map V.int)/\Q (.int (oY ns k)) H
def yb8(K:tz0):Sp:=fun vs H Q _=>∃(a:Addr) (ns:List Int) (k salt:Int),vs=[.ref a,.int k,.int salt]/\SqL K H a (ns.map V.int)/\ns.length<=63/\(0<=k/\k<1000000)/\(0<=salt/\salt<1000000)/\Q (.int (vA ns k salt)) H
abbrev kW:Stmt:=top 24
abbrev rG:List Str:=["_law_script","_law_k"]
theorem vU:FnScope ["_law_script","_law_k"] rG (bE kW):=dE
theorem zq7{n:Nat}{f:Addr}{fd:FuncData}(D:Dn K mg "_law_cell_at" kW ["_law_script","_law_k"] f fd)(ac:mg "len"=none):
  FnOk P w K mg base CX0 (n+1) f fd ["_law_script","_law_k"] (zv0 K):=by
 refine D.F.ok vU (fun vs H Q E h=> ?_) (fun cdv A outer s H vs Q E hr h=> ?_)
 ·obtain⟨a,ns,k,rfl,_⟩:=h
  rfl
 obtain⟨a,ns,k,rfl,hS,q⟩:=h
 refine⟨_,(mG (xb9 (zx8 yc4 (qN jD rfl ac ZP (fV (pv 0) mW)) hX (bG _)) (wY (vM hX)) zx2)
  (wY (vM (zk2 zb7 (pv 0) (fZ yS (pv 1) (qN jD rfl ac ZP (fV (pv 0) mW))) (fun _ _=>rfl))))),?_⟩
 have hl:(ns.map V.int).length=ns.length:=Zc _
 refine⟨_,rfl,a,_,rfl,.inl hS,rfl,_,rfl,?_⟩
 refine xx3 (fun c=> ?_) (fun c=> ?_)
 ·have e:(((ns.map V.int).length:Nat):Int)=0:=by simpa using c
  have e':ns=[]:=by
   rw [hl] at e
   exact Xj (by omega)
  subst e'
  exact q
 ·have e:¬(((ns.map V.int).length:Nat):Int)=0:=by simpa using c
  rw [hl] at e
  have hp:(0:Int)<((ns.map V.int).length:Nat):=by rw [hl];omega
  refine⟨_,rfl,_,rfl,_,rfl,a,_,rfl,.inl hS,_,_,rfl,rfl,hp,a,_,_,_,rfl,rfl,hS,?_,q⟩
  rw [hl]
  have h0:=Zt k e
  have h1:=Zr k (show(0:Int)<ns.length by omega)
  have ek:k % (ns.length:Int)=(((k % (ns.length:Int)).toNat:Nat):Int):=by omega
  rw [ek]
  refine zb6 ?_
  rw [Zi,Zn (by omega)]
  unfold oY
  rw [List.getD_eq_getElem?_getD,Zn (by omega)]
  rfl
abbrev gA:Stmt:=top 25
abbrev eB:List Str:=["_law_script","_law_k","_law_salt"]
theorem jQ:FnScope ["_law_script","_law_k","_law_salt","_law_cell","_law_lap","_law_near"] eB (bE gA):=dE
theorem yf1{n:Nat}{f f1:Addr}{fd fd1:FuncData}(D:Dn K mg "_law_mixed" gA ["_law_script","_law_k","_law_salt"] f fd)(ci:Dn K mg "_law_cell_at" kW ["_law_script","_law_k"] f1 fd1)
  (d6:FnOk P w K mg base CX0 n f1 fd1 ["_law_script","_law_k"] (zv0 K)) (ac:mg "len"=none) (nu:mg "max"=none):
  FnOk P w K mg base CX0 (n+1) f fd ["_law_script","_law_k","_law_salt"] (yb8 K):=by
 refine D.F.ok jQ (fun vs H Q E h=> ?_) (fun cdv A outer s H vs Q E hr h=> ?_)
 ·obtain⟨a,ns,k,salt,rfl,_⟩:=h
  rfl
 obtain⟨a,ns,k,salt,rfl,hS,h63,⟨hk0,hk1⟩,⟨hs0,hs1⟩,q⟩:=h
 refine⟨_,(mG (qL (i:=3) jQ.nd rfl (.inl rfl) (yd5 ci d6 hr rfl (fV (pv 0) (fV (pv 1) mW))))
  (mG (qL (i:=4) jQ.nd rfl (.inl rfl) (fZ zx4 (pv 1) (qN (yj9 rfl) rfl nu boot_max (fV hX (fV (qN jD rfl ac ZP (fV (pv 0) mW)) mW)))))
  (mG (qL (i:=5) jQ.nd rfl (.inl rfl) (fZ sR (fZ sR (fZ sR (fZ yj7 (pv 3) hX) (fZ mV (fZ mV hX (pv 1)) (pv 1))) (fZ mV (fZ mV hX (pv 2)) (pv 2))) hX))
  (mG (qL (i:=5) jQ.nd rfl (.inl rfl) (fZ yS (fZ mV (pv 5) hX) hX))
  (mG (qL (i:=5) jQ.nd rfl (.inl rfl) (fZ yS (fZ mV (pv 5) (pv 5)) hX))
  (wY (vM (fZ yj7 (fZ sR (fZ xm5 (pv 3) (fZ mV hX (fZ sR (pv 2) (fZ mV hX (pv 4))))) (pv 5)) hX)))))))),?_⟩
 have hl:(ns.map V.int).length=ns.length:=Zc _
 have hlap:0<=za5 ns k:=by unfold za5;exact Xp hk0 (by split<;>omega)
 have hn1:0<=xQ ns k salt/\xQ ns k salt<2147483647:=⟨Zt _ (by decide),Zr _ (by decide)⟩
 refine⟨_,rfl,_,rfl,a,ns,k,rfl,hS,?_⟩
 refine⟨_,rfl,_,rfl,a,_,rfl,.inl hS,_,_,rfl,_,_,rfl,rfl,?_,?_⟩
 ·rw [hl];constructor
  ·split<;>omega
  ·split<;>omega
 rw [hl]
 refine⟨_,rfl,_,_,rfl,rfl,_,rfl,_,_,rfl,rfl,.inl ⟨by decide,by decide⟩,_,rfl,_,_,rfl,rfl,.inr ⟨by omega,by omega⟩,_,_,rfl,rfl,_,rfl,_,_,rfl,rfl,.inl ⟨by decide,by decide⟩,_,rfl,_,_,rfl,rfl,.inr ⟨by omega,by omega⟩,_,_,rfl,rfl,_,_,rfl,rfl,?_⟩
 refine⟨_,rfl,_,_,rfl,rfl,.inr ⟨by decide,by decide⟩,_,_,rfl,rfl,(by show(0:Int)<2147483647;decide),?_⟩
 refine⟨_,rfl,_,rfl,_,_,rfl,rfl,.inl ⟨by show-(2^64)<xQ ns k salt;omega,by show xQ ns k salt<2^64;omega⟩,_,_,rfl,rfl,(by show(0:Int)<2147483629;decide),?_⟩
 refine⟨_,rfl,_,rfl,_,rfl,_,_,rfl,rfl,.inl ⟨by decide,by decide⟩,_,_,rfl,rfl,_,_,rfl,rfl,.inl ⟨by decide,by decide⟩,_,_,rfl,rfl,?_,_,rfl,_,_,rfl,rfl,_,_,rfl,rfl,q⟩
 show 0<=31*(salt+128*za5 ns k)
 omega
end My
namespace L3
open PySem PySem.Spec PyProof.Rows L2 My
variable{P:Program}{w:World}{K:tz0}{mg:tzA}{base:Heap}{U:tz9}
def rH(bo:(tz7)):tz1:=
 (bR (aH (lU (eX "Place" (cV [.im (fC (.bl true)),.im (fC (.int 0))]) bo))))
abbrev jU:Stmt:=top 3
abbrev iD:List Str:=[]
theorem qW:FnScope [] iD (bE jU):=dE
theorem yF(bu:Dn K mg "first_place" jU iD f fd)
  (c6:Kn K mg U "Place" "Place.__init__" st_Place_init ps_Place_init fj d8) (cb:FnOk P w K mg base CX0 n fj d8 ps_Place_init (SpE 3 K U (cI [true,false,false]) bo)):
  FnOk P w K mg base CX0 ((n+1)+1) f fd iD (SpP 0 K U (gP 0 0 (rH bo))):=
 dC bu.F qW fun cdv A outer s H E B hr=>
 (aP (bO (QP.e (zG (mQ c6 cb hr rfl (bY (QP.v iX) (bY (QP.v aF) dR)) rfl rfl (eJ 2))))))
def sD:tz1:=
 (bR (aH (f2 dIn (f2 dIx (aB 0) (fC (.int 0))) (fC (.tup [(.str "group"),(.str "hang"),(.str "either")])))))
abbrev kJ:Stmt:=top 4
abbrev iS:List Str:=["piece"]
theorem rR:FnScope ["piece"] iS (bE kJ):=dE
theorem zJ(ca:Dn K mg "holds_rows" kJ iS f fd)
  (j4:mg "HOLDERS"=some (.ref gv)) (j5:∀H,Rep K U H (.ref gv) (.tup [(.str "group"),(.str "hang"),(.str "either")]) []):
  FnOk P w K mg base CX0 (n+1) f fd iS (SpP 1 K U (gP 1 0 (sD))):=
 dC ca.F rR fun cdv A outer s H E B hr=>
 (aP (bO (QP.e (lX yu5 (bI (aC 0) (QP.v aF)) (QP.v (xg0 (v:= .ref gv) (d:=(.tup [(.str "group"),(.str "hang"),(.str "either")])) rfl j4 rfl j5)) (by with_unfolding_all rfl)))))
def pU:tz1:=
 (bR (aH (fOr (f2 dEq (f2 dIx (aB 0) (fC (.int 0))) (fC (.str "either"))) (sL (f2 dEq (f2 dIx (aB 0) (fC (.int 0))) (fC (.str "group"))) (aZ (dG "Place" "broken" (aB 1)))))))
abbrev jA:Stmt:=top 5
abbrev gU:List Str:=["piece","place"]
theorem pS:FnScope ["piece","place"] gU (bE jA):=dE
theorem xS(bf:Dn K mg "takes_choice" jA gU f fd)
  (ar:Cls K (U "Place"))
  (a0:dJ K (U "Place") "broken"):
  FnOk P w K mg base CX0 (n+1) f fd gU (SpP 2 K U (gP 2 0 (pU))):=
 dC bf.F pS fun cdv A outer s H E B hr=>
 (aP (bO (QP.e (xc3 (lX (eE (Room.units hr)) (bI (aC 0) (QP.v aF)) (QP.v bH) (bG _)) (yZ (yl9 (lX (eE (Room.units hr)) (bI (aC 0) (QP.v aF)) (QP.v bH) (bG _)) (yZ (QV.p (eM (C:="Place") ar a0 (aC 1))))))))))
def kX(bo:(tz7)):tz1:=
 (aR (aS 2 (aH (aZ (f2 dIx (aB 0) (fC (.int 0))))))
 (aR (fIf (aY (fB (f2 dEq (aB 2) (fC (.str "hang")))))
  (bR (aH (cE (aA (aX (aA (aZ (f2 dIx (aB 0) (fC (.int 2)))) (aA (lU (eX "Place" (cV [.im (dG "Place" "broken" (aB 1)),.im (f2 bJ (dG "Place" "margin" (aB 1)) (f2 dIx (aB 0) (fC (.int 1))))]) bo)) aE))) aE))))
  bP)
 (aR (fIf (aY (fB (f2 dEq (aB 2) (fC (.str "either")))))
  (bR (aH (uY [none,some 1] (gY (f2 dIx (aB 0) (fC (.int 1)))) sM (aX (aA (aZ (aB 0)) (aA (aZ (aB 1)) aE))))))
  bP)
 (aR (aS 3 (aH (aX (aA (aZ (f2 dIx (aB 0) (fC (.int 1)))) (aA (lU (eX "Place" (cV [.im (fC (.bl false)),.im (dG "Place" "margin" (aB 1))]) bo)) aE)))))
 (aR (fIf (aY (fT (dG "Place" "broken" (aB 1))))
  (bR (aH (cE (aA (aZ (aB 3)) (aA (aX (aA (aZ (f2 dIx (aB 0) (fC (.int 1)))) (aA (aZ (aB 1)) aE))) aE)))))
  bP)
 (bR (aH (cE (aA (aZ (aB 3)) aE)))))))))
abbrev oZ:Stmt:=top 6
abbrev pA:List Str:=["piece","place"]
theorem rS:FnScope ["piece","place","kind","on_one_line"] pA (bE oZ):=dE
theorem yn9(gh:Dn K mg "ways" oZ pA f fd)
  (c6:Kn K mg U "Place" "Place.__init__" st_Place_init ps_Place_init fj d8) (cb:FnOk P w K mg base CX0 n fj d8 ps_Place_init (SpE 3 K U (cI [true,false,false]) bo))
  (ar:Cls K (U "Place"))
  (a0:dJ K (U "Place") "broken")
  (b7:dJ K (U "Place") "margin"):
  FnOk P w K mg base CX0 ((n+1)+1) f fd pA (SpP 2 K U (gP 2 2 (kX bo))):=
 dC gh.F rS fun cdv A outer s H E B hr=>
 (aO (bC 2 rS.nd (QV.p (bI (aC 0) (QP.v aF))))
 (aO (cC (QT.e (bK (eE (Room.units hr)) (aC 2) (QP.v bH) (bG _)))
  (aP (bO (QP.e (dI (aI (bW (aI (QV.p (bI (aC 0) (QP.v aF))) (aI (zG (mQ c6 cb hr rfl (bY (eM (C:="Place") ar a0 (aC 1)) (bY (QP.v (bB dD (eM (C:="Place") ar b7 (aC 1)) (bI (aC 0) (QP.v aF)))) dR)) rfl rfl (eJ 2))) aV))) aV)))))
  bZ)
 (aO (cC (QT.e (bK (eE (Room.units hr)) (aC 2) (QP.v bH) (bG _)))
  (aP (bO (QP.e (zy6 (sc:=bE oZ) (NX:=["piece","place","kind","on_one_line"]) (N:=["row","place"]) (pick:=[none,some 1]) ⟨rfl,by decide+kernel,by decide+kernel,by decide+kernel,by decide+kernel,by decide,rfl⟩ rfl rfl rfl (xo8 (bI (aC 0) (QP.v aF))) (fun _ _ _ _=>(kD (i:=0) (show(["row","place"]:List Str).Nodup by decide) rfl (by first|exact Or.inl rfl|exact Or.inr rfl))) (fun _ _ _ _=>zy5) (fun _ _ _ _=>(bW (aI (QV.p (aC 0)) (aI (QV.p (aC 1)) aV))))))))
  bZ)
 (aO (bC 3 rS.nd (bW (aI (QV.p (bI (aC 0) (QP.v aF))) (aI (zG (mQ c6 cb hr rfl (bY (QP.v iX) (bY (eM (C:="Place") ar b7 (aC 1)) dR)) rfl rfl (eJ 2))) aV))))
 (aO (cC (QT.e (fJ (eM (C:="Place") ar a0 (aC 1))))
  (aP (bO (QP.e (dI (aI (QV.p (aC 3)) (aI (bW (aI (QV.p (bI (aC 0) (QP.v aF))) (aI (QV.p (aC 1)) aV))) aV))))))
  bZ)
 (aP (bO (QP.e (dI (aI (QV.p (aC 3)) aV))))))))))
def vJ:tz1:=
 (bR (aH (f2 bJ (fC (.str "\n")) (f2 iK (fC (.str " ")) (aB 0)))))
abbrev mD:Stmt:=top 7
abbrev kB:List Str:=["blanks"]
theorem vF:FnScope ["blanks"] kB (bE mD):=dE
theorem zj7(cc:Dn K mg "new_line" mD kB f fd)
     :
  FnOk P w K mg base CX0 (n+1) f fd kB (SpP 1 K U (gP 1 0 (vJ))):=
 dC cc.F vF fun cdv A outer s H E B hr=>
 (aP (bO (QP.e (bB dD (QP.v bH) (QP.v (bB tZ (QP.v bH) (aC 0)))))))
def nK(fk:(tz6)):tz1:=
 (aR (aS 3 (aH (aZ (f2 dIx (aB 0) (fC (.int 0))))))
 (aR (fIf (aY (fB (f2 dEq (aB 3) (fC (.str "word")))))
  (bR (aH (aZ (f2 dIx (aB 0) (fC (.int 1))))))
  bP)
 (aR (fIf (aY (cG (fB (f2 dEq (aB 3) (fC (.str "gap")))) (gR (fT (dG "Place" "broken" (aB 1))))))
  (bR (aH (aZ (f2 dIx (aB 0) (fC (.int 1))))))
  bP)
 (aR (fIf (aY (cG (fB (f2 dEq (aB 3) (fC (.str "stop")))) (fB (f2 dLe (aB 2) (f2 dIx (aB 0) (fC (.int 1)))))))
  (bR (aH (f2 iK (fC (.str " ")) (f2 kS (f2 dIx (aB 0) (fC (.int 1))) (aB 2)))))
  bP)
 (aR (fIf (aY (gR (fT (dG "Place" "broken" (aB 1)))))
  (bR (aH (fC .non)))
  bP)
 (aR (fIf (aY (fB (f2 dEq (aB 3) (fC (.str "stop")))))
  (bR (aH (aJ fk (aA (f2 dIx (aB 0) (fC (.int 1))) aE))))
  bP)
 (bR (aH (aJ fk (aA (dG "Place" "margin" (aB 1)) aE))))))))))
abbrev nL:Stmt:=top 8
abbrev kY:List Str:=["piece","place","column"]
theorem qX:FnScope ["piece","place","column","kind"] kY (bE nL):=dE
theorem zq8(c7:Dn K mg "writing" nL kY f fd)
  (cc:Dn K mg "new_line" mD kB j6 jy) (fm:FnOk P w K mg base CX0 n j6 jy kB (SpP 1 K U fk))
  (ar:Cls K (U "Place"))
  (a0:dJ K (U "Place") "broken")
  (b7:dJ K (U "Place") "margin"):
  FnOk P w K mg base CX0 (n+1) f fd kY (SpP 3 K U (gP 3 1 (nK fk))):=
 dC c7.F qX fun cdv A outer s H E B hr=>
 (aO (bC 3 qX.nd (QV.p (bI (aC 0) (QP.v aF))))
 (aO (cC (QT.e (bK (eE (Room.units hr)) (aC 3) (QP.v bH) (bG _)))
  (aP (bO (QP.e (QV.p (bI (aC 0) (QP.v aF))))))
  bZ)
 (aO (cC (QT.e (gW (eL (bK (eE (Room.units hr)) (aC 3) (QP.v bH) (bG _)) (eU (mY (fJ (eM (C:="Place") ar a0 (aC 1))))))))
  (aP (bO (QP.e (QV.p (bI (aC 0) (QP.v aF))))))
  bZ)
 (aO (cC (QT.e (gW (eL (bK (eE (Room.units hr)) (aC 3) (QP.v bH) (bG _)) (eU (bK ye1 (aC 2) (bI (aC 0) (QP.v aF)) (bG _))))))
  (aP (bO (QP.e (bB tZ (QP.v bH) (QP.v (bB rO (bI (aC 0) (QP.v aF)) (aC 2)))))))
  bZ)
 (aO (cC (QT.e (mY (fJ (eM (C:="Place") ar a0 (aC 1)))))
  (aP (bO (QP.e iN)))
  bZ)
 (aO (cC (QT.e (bK (eE (Room.units hr)) (aC 3) (QP.v bH) (bG _)))
  (aP (bO (QP.e (cM cc fm hr rfl rfl (aG (bI (aC 0) (QP.v aF)) aQ) (aN bM)))))
  bZ)
 (aP (bO (QP.e (cM cc fm hr rfl rfl (aG (eM (C:="Place") ar b7 (aC 1)) aQ) (aN bM)))))))))))
def oB:tz1:=
 (bR (aH (fMt oG (aB 0) (aA (fC (.str "\n")) aE))))
abbrev lQ:Stmt:=top 9
abbrev jG:List Str:=["wrote"]
theorem sY:FnScope ["wrote"] jG (bE lQ):=dE
theorem zd2(cg:Dn K mg "ends_line" lQ jG f fd)
     :
  FnOk P w K mg base CX0 (n+1) f fd jG (SpP 1 K U (gP 1 0 (oB))):=
 dC cg.F sY fun cdv A outer s H E B hr=>
 (aP (bO (QP.e (zk7 Xr Xs zq1 (aC 0) (aG (QP.v bH) aQ)))))
def gH(gz:(tz6)):tz1:=
 (aR (fIf (aY (fT (aJ gz (aA (aB 1) aE))))
  (bR (aH (f2 kS (aJ cN (aA (aB 1) aE)) (fC (.int 1)))))
  bP)
 (bR (aH (f2 bJ (aB 0) (aJ cN (aA (aB 1) aE))))))
abbrev iT:Stmt:=top 10
abbrev gI:List Str:=["column","wrote"]
theorem oQ:FnScope ["column","wrote"] gI (bE iT):=dE
theorem vV(ba:Dn K mg "column_behind" iT gI f fd)
  (cg:Dn K mg "ends_line" lQ jG jz jn) (g5:FnOk P w K mg base CX0 n jz jn jG (SpP 1 K U gz))
  (ac:mg "len"=none):
  FnOk P w K mg base CX0 (n+1) f fd gI (SpP 2 K U (gP 2 0 (gH gz))):=
 dC ba.F oQ fun cdv A outer s H E B hr=>
 (aO (cC (QT.e (fJ (QP.v (cM cg g5 hr rfl rfl (aG (aC 1) aQ) (aN bM)))))
  (aP (bO (QP.e (bB rO (QP.v (cQ fU rfl ac ZP (aG (aC 1) aQ))) (QP.v aF)))))
  bZ)
 (aP (bO (QP.e (bB dD (aC 0) (QP.v (cQ fU rfl ac ZP (aG (aC 1) aQ))))))))
def rJ(ah:(tz7))(aj:(tz7)):tz1:=
 (aR (aS 2 (aH (eX "Front" (cV [.im (dG "Front" "steps" (aB 0))]) ah)))
 (aR (gF 3 (tR (aZ (dG "Front" "best" (aB 0))))
  (aR (aS 4 (aH (aZ (f2 jT (dG "Front" "best" (aB 0)) (aB 3)))))
 (dA (dY 2 cA (cV [.im (aB 3),.im (aX (aA (aZ (f2 dIx (aB 4) (fC (.int 0)))) (aA (f2 bJ (f2 dIx (aB 4) (fC (.int 1))) (aX (aA (aZ (aB 1)) aE))) aE)))]) (iR "Front" "add" aj)))))
 (rY 2)))
abbrev jV:Stmt:=top 13
abbrev iE:List Str:=["front","number"]
theorem iA:FnScope ["front","number","chosen","state","way"] iE (bE jV):=dE
theorem yG(bv:Dn K mg "with_choice" jV iE f fd)
  (bg:Kn K mg U "Front" "Front.__init__" st_Front_init ps_Front_init bp be) (ao:FnOk P w K mg base CX0 n bp be ps_Front_init (SpE 2 K U (cI [true,false]) ah))
  (ak:Mn K U "Front" "add" "Front.add" st_Front_add ps_Front_add b8 bq) (ax:FnOk P w K mg base CX0 (n+1) b8 bq ps_Front_add (SpE 3 K U (cI [true,false,false]) aj))
  (ae:Cls K (U "Front"))
  (al:dJ K (U "Front") "best")
  (bh:dJ K (U "Front") "steps"):
  FnOk P w K mg base CX0 ((n+1)+1) f fd iE (SpP 2 K U (gP 2 3 (rJ ah aj))):=
 dC bv.F iA fun cdv A outer s H E B hr=>
 (aO (bC 2 iA.nd (mQ bg ao hr rfl (bY (eM (C:="Front") ae bh (aC 0)) dR) rfl rfl (eJ 1)))
 (aO (oO 3 ZJ rfl iA.nd rfl (.inl rfl) rfl rfl (zd0 (QV.p (eM (C:="Front") ae al (aC 0))))
  (aO (bC 4 iA.nd (QV.p (sW (rM hr) (eM (C:="Front") ae al (aC 0)) (aC 3))))
 (aP (gL (sX ak ax hr rfl (cO 2) (bY (aC 3) (bY (QP.v (bW (aI (QV.p (bI (aC 4) (QP.v aF))) (aI (bB dD (bI (aC 4) (QP.v aF)) (QP.v (bW (aI (QV.p (aC 1)) aV)))) aV)))) dR)) rfl rfl (eJ 2))))))
 (aP (qH 2 rfl))))
def pV(ah:(tz7))(ce:(tz6))(aj:(tz7)):tz1:=
 (aR (aS 3 (aH (eX "Front" (cV [.im (dG "Front" "steps" (aB 0))]) ah)))
 (aR (gF 4 (tR (aZ (dG "Front" "best" (aB 0))))
  (aR (aS 5 (aH (aZ (f2 jT (dG "Front" "best" (aB 0)) (aB 4)))))
 (aR (aS 6 (aH (aJ ce (aA (tT "AlongText" "state_behind" (dG "Front" "steps" (aB 0))) (aA (aB 4) (aA (f2 dIx (aB 5) (fC (.int 0))) (aA (aB 1) (aA (aB 2) aE))))))))
 (fIf (aY (fB (f2 tL (aB 6) (fC .non))))
  (dA (dY 3 cA (cV [.im (f2 dIx (aB 6) (fC (.int 0))),.im (aX (aA (aZ (f2 dIx (aB 6) (fC (.int 1)))) (aA (aZ (f2 dIx (aB 5) (fC (.int 1)))) aE)))]) (iR "Front" "add" aj)))
  bP))))
 (rY 3)))
abbrev jB:Stmt:=top 14
abbrev gV:List Str:=["front","piece","place"]
theorem fQ:FnScope ["front","piece","place","behind","state","way","reached"] gV (bE jB):=dE
theorem xT(bi:Dn K mg "behind_plain" jB gV f fd)
  (bg:Kn K mg U "Front" "Front.__init__" st_Front_init ps_Front_init bp be) (ao:FnOk P w K mg base CX0 n bp be ps_Front_init (SpE 2 K U (cI [true,false]) ah))
  (am:Mn K U "AlongText" "state_behind" "AlongText.state_behind" st_AlongText_state_behind ps_AlongText_state_behind dg db) (cf:FnOk P w K mg base CX0 (n+1) dg db ps_AlongText_state_behind (SpP 5 K U ce))
  (ak:Mn K U "Front" "add" "Front.add" st_Front_add ps_Front_add b8 bq) (ax:FnOk P w K mg base CX0 (n+1) b8 bq ps_Front_add (SpE 3 K U (cI [true,false,false]) aj))
  (ae:Cls K (U "Front"))
  (al:dJ K (U "Front") "best")
  (bh:dJ K (U "Front") "steps"):
  FnOk P w K mg base CX0 ((n+1)+1) f fd gV (SpP 3 K U (gP 3 4 (pV ah ce aj))):=
 dC bi.F fQ fun cdv A outer s H E B hr=>
 (aO (bC 3 fQ.nd (mQ bg ao hr rfl (bY (eM (C:="Front") ae bh (aC 0)) dR) rfl rfl (eJ 1)))
 (aO (oO 4 ZJ rfl fQ.nd rfl (.inl rfl) rfl rfl (zd0 (QV.p (eM (C:="Front") ae al (aC 0))))
  (aO (bC 5 fQ.nd (QV.p (sW (rM hr) (eM (C:="Front") ae al (aC 0)) (aC 4))))
 (aO (bC 6 fQ.nd (yw4 am cf hr (eM (C:="Front") ae bh (aC 0)) rfl (aG (aC 4) (aG (bI (aC 5) (QP.v aF)) (aG (aC 1) (aG (aC 2) aQ)))) (aN (aN (aN (aN bM))))))
 (aP (cC (QT.e (bK zc2 (aC 6) (QP.v iN) (bG _)))
  (aP (gL (sX ak ax hr rfl (cO 3) (bY (bI (aC 6) (QP.v aF)) (bY (QP.v (bW (aI (QV.p (bI (aC 6) (QP.v aF))) (aI (QV.p (bI (aC 5) (QP.v aF))) aV)))) dR)) rfl rfl (eJ 2))))
  bZ)))))
 (aP (qH 3 rfl))))
def pB(ah:(tz7))(k9:(tz6))(d9:(tz6))(f7:(tz6))(f8:(tz7))(bj:(tz6)):tz1:=
 (aR (aS 3 (aH (eX "Front" (cV [.im (dG "Front" "steps" (aB 0))]) ah)))
 (aR (zl6 [4,5] (zl9 (aJ k9 (aA (aB 1) (aA (aB 2) aE))))
  (aR (aS 6 (aH (aZ (aB 0))))
 (aR (fIf (aY (fT (aJ d9 (aA (aB 1) (aA (aB 2) aE)))))
  (aS 6 (aH (oJ (aJ f7 (aA (aB 0) (aA (aB 4) aE))))))
  bP)
 (dA (dY 3 cA (cV [.im (aJ bj (aA (aB 6) (aA (f2 dIx (aB 5) (fC (.int 0))) (aA (f2 dIx (aB 5) (fC (.int 1))) aE))))]) (iR "Front" "add_all" f8))))))
 (rY 3)))
abbrev iU:Stmt:=top 15
abbrev gJ:List Str:=["front","piece","place"]
theorem eG:FnScope ["front","piece","place","behind","number","way","chosen"] gJ (bE iU):=dE
theorem vW(bc:Dn K mg "behind_holder" iU gJ f fd)
  (bg:Kn K mg U "Front" "Front.__init__" st_Front_init ps_Front_init bp be) (ao:FnOk P w K mg base CX0 n bp be ps_Front_init (SpE 2 K U (cI [true,false]) ah))
  (gh:Dn K mg "ways" oZ pA mw ma) (lf:FnOk P w K mg base CX0 (n+1) mw ma pA (SpP 2 K U k9))
  (bf:Dn K mg "takes_choice" jA gU iq g6) (ee:FnOk P w K mg base CX0 (n+1) iq g6 gU (SpP 2 K U d9))
  (bv:Dn K mg "with_choice" jV iE i8 ir) (f9:FnOk P w K mg base CX0 (n+1) i8 ir iE (SpP 2 K U f7))
  (bw:Mn K U "Front" "add_all" "Front.add_all" st_Front_add_all ps_Front_add_all i9 iu) (gb:FnOk P w K mg base CX0 (n+1) i9 iu ps_Front_add_all (SpE 2 K U (cI [true,false]) f8))
  (ay:Dn K mg "behind_row" st_p_behind_row ps_p_behind_row dj dc) (cj:FnOk P w K mg base CX0 (n+1) dj dc ps_p_behind_row (SpP 3 K U bj))
  (ae:Cls K (U "Front"))
  (bh:dJ K (U "Front") "steps")
  (jf:mg "enumerate"=none):
  FnOk P w K mg base CX0 ((n+1)+1) f fd gJ (SpP 3 K U (gP 3 4 (pB ah k9 d9 f7 f8 bj))):=
 dC bc.F eG fun cdv A outer s H E B hr=>
 (aO (bC 3 eG.nd (mQ bg ao hr rfl (bY (eM (C:="Front") ae bh (aC 0)) dR) rfl rfl (eJ 1)))
 (aO (xi1 [4,5] ZJ rfl rfl jf (cM gh lf hr rfl rfl (aG (aC 1) (aG (aC 2) aQ)) (aN (aN bM))) (nT (kD (i:=4) eG.nd rfl (.inl rfl)) (nT (kD (i:=5) eG.nd rfl (.inl rfl)) zx3)) (fun j hj=>by simp only [Za,ZM,YJ] at hj;rcases hj with rfl|rfl<;>exact⟨rfl,rfl⟩)
  (aO (bC 6 eG.nd (QV.p (aC 0)))
 (aO (cC (QT.e (fJ (QP.v (cM bf ee hr rfl rfl (aG (aC 1) (aG (aC 2) aQ)) (aN (aN bM))))))
  (aP (bC 6 eG.nd (zd1 (cM bv f9 hr rfl rfl (aG (aC 0) (aG (aC 4) aQ)) (aN (aN bM))))))
  bZ)
 (aP (gL (sX bw gb hr rfl (cO 3) (bY (QP.v (cM ay cj hr rfl rfl (aG (aC 6) (aG (bI (aC 5) (QP.v aF)) (aG (bI (aC 5) (QP.v aF)) aQ))) (aN (aN (aN bM))))) dR) rfl rfl (eJ 1)))))))
 (aP (qH 3 rfl))))
def nM(gi:(tz6))(dm:(tz6))(eh:(tz6)):tz1:=
 (aR (aS 3 (aH (aZ (aB 0))))
 (aR (gF 4 (gY (aB 1))
  (fIf (aY (fT (aJ gi (aA (aB 4) aE))))
  (aS 3 (aH (oJ (aJ dm (aA (aB 3) (aA (aB 4) (aA (aB 2) aE)))))))
  (aS 3 (aH (oJ (aJ eh (aA (aB 3) (aA (aB 4) (aA (aB 2) aE)))))))))
 (rY 3)))
abbrev st_p_behind_row:Stmt:=top 16
abbrev ps_p_behind_row:List Str:=["front","row","place"]
theorem gM:FnScope ["front","row","place","behind","piece"] ps_p_behind_row (bE st_p_behind_row):=dE
theorem zK(ay:Dn K mg "behind_row" st_p_behind_row ps_p_behind_row f fd)
  (ca:Dn K mg "holds_rows" kJ iS jo ja) (gj:FnOk P w K mg base CX0 n jo ja iS (SpP 1 K U gi))
  (bc:Dn K mg "behind_holder" iU gJ g7 gw) (ko:FnOk P w K mg base CX0 n g7 gw gJ (SpP 3 K U dm))
  (bi:Dn K mg "behind_plain" jB gV iw g8) (ej:FnOk P w K mg base CX0 n iw g8 gV (SpP 3 K U eh)):
  FnOk P w K mg base CX0 (n+1) f fd ps_p_behind_row (SpP 3 K U (gP 3 2 (nM gi dm eh))):=
 dC ay.F gM fun cdv A outer s H E B hr=>
 (aO (bC 3 gM.nd (QV.p (aC 0)))
 (aO (zc3 4 1 ZJ rfl gM.nd rfl (.inl rfl) rfl rfl rfl
  (aP (cC (QT.e (fJ (QP.v (cM ca gj hr rfl rfl (aG (aC 4) aQ) (aN bM)))))
  (aP (bC 3 gM.nd (zd1 (cM bc ko hr rfl rfl (aG (aC 3) (aG (aC 4) (aG (aC 2) aQ))) (aN (aN (aN bM)))))))
  (aP (bC 3 gM.nd (zd1 (cM bi ej hr rfl rfl (aG (aC 3) (aG (aC 4) (aG (aC 2) aQ))) (aN (aN (aN bM))))))))))
 (aP (qH 3 rfl))))
def pC(bj:(tz6))(gc:(tz6)):tz1:=
 (bR (aH (aJ bj (aA (aB 0) (aA (aB 1) (aA (aJ gc aE) aE))))))
abbrev iV:Stmt:=top 17
abbrev gK:List Str:=["front","pieces"]
theorem oR:FnScope ["front","pieces"] gK (bE iV):=dE
theorem vX(bd:Dn K mg "behind_pieces" iV gK f fd)
  (ay:Dn K mg "behind_row" st_p_behind_row ps_p_behind_row dj dc) (cj:FnOk P w K mg base CX0 n dj dc ps_p_behind_row (SpP 3 K U bj))
  (bu:Dn K mg "first_place" jU iD jb iy) (gd:FnOk P w K mg base CX0 n jb iy iD (SpP 0 K U gc)):
  FnOk P w K mg base CX0 (n+1) f fd gK (SpP 2 K U (gP 2 0 (pC bj gc))):=
 dC bd.F oR fun cdv A outer s H E B hr=>
 (aP (bO (QP.e (cM ay cj hr rfl rfl (aG (aC 0) (aG (aC 1) (aG (QP.v (xo9 bu gd hr rfl)) aQ))) (aN (aN (aN bM)))))))
def vK:tz1:=
 (bR (aH (fMt za0 (aB 0) (aA (fC (.str "\n")) aE))))
abbrev mE:Stmt:=top 19
abbrev kC:List Str:=["text"]
theorem vG:FnScope ["text"] kC (bE mE):=dE
theorem zj8(ck:Dn K mg "lines_of" mE kC f fd)
     :
  FnOk P w K mg base CX0 (n+1) f fd kC (SpP 1 K U (gP 1 0 (vK))):=
 dC ck.F vG fun cdv A outer s H E B hr=>
 (aP (bO (QP.e (zk7 PySem.F.slot_str_split PySem.F.type_str_split xg3 (aC 0) (aG (QP.v bH) aQ)))))
def sE(ah:(tz7))(en:(tz7))(aj:(tz7))(dq:(tz6))(iz:(tz6)):tz1:=
 (aR (aS 2 (aH (eX "Front" (cV [.im (lU (eX "AlongText" (cV [.im (aB 1)]) en))]) ah)))
 (aR (dA (dY 2 cA (cV [.im (fKt (aA (fC (.int 0)) (aA (fC (.int 0)) aE))),.im (aX (aA (aX aE) (aA (aX aE) aE)))]) (iR "Front" "add" aj)))
 (zm2 2 (aR (aS 3 (aH (aZ (dG "Front" "best" (aJ dq (aA (aB 2) (aA (aB 0) aE)))))))
 (aR (aS 4 (aH (fKt (aA (aJ cN (aA (aB 1) aE)) (aA (aJ cN (aA (f2 dIx (aJ iz (aA (aB 1) aE)) (eY (fC (.int 1)))) aE)) aE)))))
 (aR (fIf (aY (fB (f2 iM (aB 4) (aB 3))))
  (bR (aH (fC .non)))
  bP)
 (bR (aH (aZ (f2 dIx (f2 jT (aB 3) (aB 4)) (fC (.int 1))))))))))))
abbrev iW:Stmt:=top 22
abbrev fP:List Str:=["row","text"]
theorem iP:FnScope ["row","text","front","best","last_state"] fP (bE iW):=dE
theorem zL(ai:Dn K mg "choices_of" iW fP f fd)
  (bg:Kn K mg U "Front" "Front.__init__" st_Front_init ps_Front_init bp be) (ao:FnOk P w K mg base CX0 n bp be ps_Front_init (SpE 2 K U (cI [true,false]) ah))
  (c8:Kn K mg U "AlongText" "AlongText.__init__" st_AlongText_init ps_AlongText_init i4 g9) (eo:FnOk P w K mg base CX0 n i4 g9 ps_AlongText_init (SpE 2 K U (cI [true,false]) en))
  (ak:Mn K U "Front" "add" "Front.add" st_Front_add ps_Front_add b8 bq) (ax:FnOk P w K mg base CX0 (n+1) b8 bq ps_Front_add (SpE 3 K U (cI [true,false,false]) aj))
  (bd:Dn K mg "behind_pieces" iV gK ia gx) (dt:FnOk P w K mg base CX0 (n+1) ia gx gK (SpP 2 K U dq))
  (ck:Dn K mg "lines_of" mE kC j7 j3) (i5:FnOk P w K mg base CX0 (n+1) j7 j3 kC (SpP 1 K U iz))
  (ae:Cls K (U "Front"))
  (al:dJ K (U "Front") "best")
  (ac:mg "len"=none):
  FnOk P w K mg base CX0 ((n+1)+1) f fd fP (SpP 2 K U (gP 2 3 (sE ah en aj dq iz))):=
 dC ai.F iP fun cdv A outer s H E B hr=>
 (aO (bC 2 iP.nd (mQ bg ao hr rfl (bY (QP.v (zG (mQ c8 eo hr rfl (bY (aC 1) dR) rfl rfl (eJ 1)))) dR) rfl rfl (eJ 1)))
 (aO (gL (sX ak ax hr rfl (cO 2) (bY (QP.v (ye9 (aI aF (aI aF aV)))) (bY (QP.v (bW (aI (bW aV) (aI (bW aV) aV)))) dR)) rfl rfl (eJ 2)))
 (xi3 (j:=2) rfl (aO (bC 3 iP.nd (QV.p (eM (C:="Front") ae al (QP.v (cM bd dt hr rfl rfl (aG (aC 2) (aG (aC 0) aQ)) (aN (aN bM)))))))
 (aO (bC 4 iP.nd (ye9 (aI (cQ fU rfl ac ZP (aG (aC 1) aQ)) (aI (cQ fU rfl ac ZP (aG (QP.v (mC (cM ck i5 hr rfl rfl (aG (aC 1) aQ) (aN bM)) (QP.v (mZ (QP.v aF))))) aQ)) aV))))
 (aO (cC (QT.e (zg9 (rM hr) (aC 4) (aC 3)))
  (aP (bO (QP.e iN)))
  bZ)
 (aP (bO (QP.e (QV.p (bI (sW (rM hr) (aC 3) (aC 4)) (QP.v aF))))))))))))
def wO:tz1:=
 (aR (aS 1 (aH (fC (.str "abcdefghijklmnopqrstuvwxyzABCDEFGHIJKLMNOPQRSTUVWXYZ0123456789"))))
 (aR (aS 1 (aH (f2 bJ (aB 1) (fC (.str "!\"#$&'()*+,-./:;<=>?\x40[\\]^_`{|}~")))))
 (aR (aS 2 (aH (f2 dIx (cE (fKs [.int 1,.int 2,.int 3,.int 4,.int 5,.int 6,.int 7,.int 8,.int 10,.int 11,.int 9,.int 12])) (f2 cK (aB 0) (fC (.int 12))))))
 (aR (aS 3 (aH (fC (.str ""))))
 (aR (gF 4 (iZ (aA (aB 2) aE))
  (aS 3 (aH (f2 bJ (aB 3) (f2 dIx (aB 1) (f2 cK (f2 bJ (f2 dX (aB 0) (fC (.int 12))) (f2 iK (aB 4) (f2 cK (f2 dX (aB 0) (fC (.int 9000))) (fC (.int 93))))) (fC (.int 93))))))))
 (rY 3))))))
abbrev pD:Stmt:=top 26
abbrev kZ:List Str:=["_law_number"]
theorem jJ:FnScope ["_law_number","_law_signs","_law_size","_law_word_here","_law_j"] kZ (bE pD):=dE
theorem yo0(cr:Dn K mg "_law_word" pD kZ f fd)
  (a8:mg "range"=none):
  FnOk P w K mg base CX0 (n+1) f fd kZ (SpP 1 K U (gP 1 4 (wO))):=
 dC cr.F jJ fun cdv A outer s H E B hr=>
 (aO (bC 1 jJ.nd bH)
 (aO (bC 1 jJ.nd (bB dD (aC 1) (QP.v bH)))
 (aO (bC 2 jJ.nd (mC (dI (lL (.int (.int (.int (.int (.int (.int (.int (.int (.int (.int (.int (.int .nil)))))))))))))) (QP.v (bB eA (aC 0) (QP.v aF)))))
 (aO (bC 3 jJ.nd bH)
 (aO (oO 4 ZJ rfl jJ.nd rfl (.inl rfl) rfl rfl (oN rfl a8 (aG (aC 2) aQ))
  (aP (bC 3 jJ.nd (bB dD (aC 3) (bI (aC 1) (QP.v (bB eA (QP.v (bB dD (QP.v (bB iY (aC 0) (QP.v aF))) (QP.v (bB tZ (aC 4) (QP.v (bB eA (QP.v (bB iY (aC 0) (QP.v aF))) (QP.v aF))))))) (QP.v aF))))))))
 (aP (qH 3 rfl)))))))
def wP(et:(tz6)):tz1:=
 (aR (aS 1 (aH (f2 dX (aB 0) (fC (.int 16)))))
 (aR (fIf (aY (fB (f2 dLt (f2 cK (aB 0) (fC (.int 16))) (fC (.int 8)))))
  (bR (aH (aX (aA (fC (.str "word")) (aA (aJ et (aA (aB 1) aE)) aE)))))
  bP)
 (aR (fIf (aY (fB (f2 dLt (f2 cK (aB 0) (fC (.int 16))) (fC (.int 13)))))
  (bR (aH (aX (aA (fC (.str "gap")) (aA (f2 dIx (cE (fKs [.str " ",.str " ",.str " ",.str ""])) (f2 cK (aB 1) (fC (.int 4)))) aE)))))
  bP)
 (aR (fIf (aY (fB (f2 dEq (f2 cK (aB 0) (fC (.int 16))) (fC (.int 13)))))
  (bR (aH (aX (aA (fC (.str "end")) aE))))
  bP)
 (bR (aH (aX (aA (fC (.str "stop")) (aA (f2 dIx (cE (aA (f2 cK (f2 dX (aB 1) (fC (.int 2))) (fC (.int 10))) (aA (f2 cK (f2 dX (aB 1) (fC (.int 2))) (fC (.int 41))) aE))) (f2 cK (aB 1) (fC (.int 2)))) aE)))))))))
abbrev pE:Stmt:=top 27
abbrev lA:List Str:=["_law_number"]
theorem vY:FnScope ["_law_number","_law_some_here"] lA (bE pE):=dE
theorem yo1(cu:Dn K mg "_law_leaf" pE lA f fd)
  (cr:Dn K mg "_law_word" pD kZ jr jc) (gk:FnOk P w K mg base CX0 n jr jc kZ (SpP 1 K U et)):
  FnOk P w K mg base CX0 (n+1) f fd lA (SpP 1 K U (gP 1 1 (wP et))):=
 dC cu.F vY fun cdv A outer s H E B hr=>
 (aO (bC 1 vY.nd (bB iY (aC 0) (QP.v aF)))
 (aO (cC (QT.e (bK (mI (Room.units0 hr)) (QP.v (bB eA (aC 0) (QP.v aF))) (QP.v aF) (bG _)))
  (aP (bO (QP.e (bW (aI bH (aI (cM cr gk hr rfl rfl (aG (aC 1) aQ) (aN bM)) aV))))))
  bZ)
 (aO (cC (QT.e (bK (mI (Room.units0 hr)) (QP.v (bB eA (aC 0) (QP.v aF))) (QP.v aF) (bG _)))
  (aP (bO (QP.e (bW (aI bH (aI (mC (dI (lL (.str (.str (.str (.str .nil)))))) (QP.v (bB eA (aC 1) (QP.v aF)))) aV))))))
  bZ)
 (aO (cC (QT.e (bK (eE (Room.units hr)) (QP.v (bB eA (aC 0) (QP.v aF))) (QP.v aF) (bG _)))
  (aP (bO (QP.e (bW (aI bH aV)))))
  bZ)
 (aP (bO (QP.e (bW (aI bH (aI (mC (dI (aI (bB eA (QP.v (bB iY (aC 1) (QP.v aF))) (QP.v aF)) (aI (bB eA (QP.v (bB iY (aC 1) (QP.v aF))) (QP.v aF)) aV))) (QP.v (bB eA (aC 1) (QP.v aF)))) aV))))))))))
def pF:tz1:=
 (aR (wM [1,2,3,4] (dY 0 cA aE sN))
 (aR (aS 3 (aH (f2 bJ (aB 3) (cE (aA (aJ fO (aA (aB 4) aE)) aE)))))
 (aR (fIf (aY (cG (fB (f2 dEq (aB 1) (fC (.str "either")))) (fB (f2 dLt (aJ cN (aA (aB 3) aE)) (fC (.int 2))))))
  (aS 3 (aH (f2 bJ (aB 3) (cE (aA (aX (aA (aX (aA (fC (.str "word")) (aA (fC (.str "or")) aE))) aE)) aE)))))
  bP)
 (aR (aS 5 (aH (aX (aA (fC (.str "group")) (aA (aZ (f2 dIx (aB 3) (fC (.int 0)))) aE)))))
 (aR (fIf (aY (fB (f2 dEq (aB 1) (fC (.str "hang")))))
  (aS 5 (aH (aX (aA (fC (.str "hang")) (aA (aZ (aB 2)) (aA (aZ (f2 dIx (aB 3) (fC (.int 0)))) aE))))))
  bP)
 (aR (fIf (aY (fB (f2 dEq (aB 1) (fC (.str "either")))))
  (aS 5 (aH (aX (aA (fC (.str "either")) (aA (aJ fO (aA (aB 3) aE)) aE)))))
  bP)
 (dA (dY 0 (fY 0 (fY 0 cA (eY (fC (.int 1)))) (fC (.int 3))) (aA (aZ (aB 5)) aE) dS))))))))
abbrev sF:Stmt:=top 28
abbrev pG:List Str:=["_law_frames"]
theorem gC:FnScope ["_law_frames","_law_kind","_law_n","_law_full","_law_parts","_law_piece"] pG (bE sF):=dE
theorem yo2(eu:Dn K mg "_law_shut" sF pG f fd)
  (aw:mg "tuple"=none)
  (ac:mg "len"=none):
  FnOk P w K mg base CX0 (n+1) f fd pG (SpE 1 K U (cI [true]) (gE 1 5 (cI [true]) (pF))):=
 pX eu.F gC (fun i hi=>jP hi) fun cdv A outer s H E hr=>
 (aO (yn0 (is:=[1,2,3,4]) rfl (nT (kD (i:=1) gC.nd rfl (.inl rfl)) (nT (kD (i:=2) gC.nd rfl (.inl rfl)) (nT (kD (i:=3) gC.nd rfl (.inl rfl)) (nT (kD (i:=4) gC.nd rfl (.inl rfl)) zx3)))) (xp0 (j:=0) rfl (cO 0)) (fun j hj=>by simp only [Za,ZM,YJ] at hj;rcases hj with rfl|rfl|rfl|rfl<;>exact⟨rfl,rfl⟩))
 (aO (bC 3 gC.nd (bB dD (aC 3) (QP.v (dI (aI (kL nU rfl aw YG (aG (aC 4) aQ)) aV)))))
 (aO (cC (QT.e (gW (eL (bK (eE (Room.units hr)) (aC 1) (QP.v bH) (bG _)) (eU (bK (mI (Room.units0 hr)) (QP.v (cQ fU rfl ac ZP (aG (aC 3) aQ))) (QP.v aF) (bG _))))))
  (aP (bC 3 gC.nd (bB dD (aC 3) (QP.v (dI (aI (bW (aI (bW (aI bH (aI bH aV))) aV)) aV))))))
  bZ)
 (aO (bC 5 gC.nd (bW (aI bH (aI (QV.p (bI (aC 3) (QP.v aF))) aV))))
 (aO (cC (QT.e (bK (eE (Room.units hr)) (aC 1) (QP.v bH) (bG _)))
  (aP (bC 5 gC.nd (bW (aI bH (aI (QV.p (aC 2)) (aI (QV.p (bI (aC 3) (QP.v aF))) aV))))))
  bZ)
 (aO (cC (QT.e (bK (eE (Room.units hr)) (aC 1) (QP.v bH) (bG _)))
  (aP (bC 5 gC.nd (bW (aI bH (aI (kL nU rfl aw YG (aG (aC 3) aQ)) aV)))))
  bZ)
 (aP (gL (mP (j:=0) rfl (kM (kM (cO 0) (QP.v (mZ (QP.v aF)))) (QP.v aF)) (aI (QV.p (aC 5)) aV))))))))))
def zv1(aa:(tz6))(jt:(tz7))(ez:(tz6)):tz1:=
 (aR (aS 4 (aH (cE (aA (cE (aA (fC (.str "top")) (aA (fC (.int 0)) (aA (cE aE) (aA (cE aE) aE))))) aE))))
 (aR (gF 5 (za2 (aA (aB 1) (aA (f2 bJ (aB 1) (aB 2)) aE)))
  (aR (aS 6 (aH (aJ aa (aA (aB 0) (aA (aB 5) (aA (fC (.int 31)) aE))))))
 (aR (aS 7 (aH (f2 cK (aB 6) (fC (.int 13)))))
 (aR (aS 8 (aH (aZ (f2 dIx (f2 dIx (aB 4) (eY (fC (.int 1)))) (fC (.int 0))))))
 (fIf (aY (cG (fB (f2 dLt (aB 7) (fC (.int 4)))) (fB (f2 dLe (aJ cN (aA (aB 4) aE)) (aB 3)))))
  (aR (aS 9 (aH (f2 dIx (cE (fKs [.str "group",.str "group",.str "hang",.str "either"])) (aB 7))))
 (dA (dY 4 cA (aA (cE (aA (aZ (aB 9)) (aA (f2 dIx (cE (aA (fC (.int 1)) (aA (fC (.int 2)) (aA (fC (.int 4)) (aA (f2 cK (f2 dX (aB 6) (fC (.int 13))) (fC (.int 13))) aE))))) (f2 cK (f2 dX (aB 6) (fC (.int 169))) (fC (.int 4)))) (aA (cE aE) (aA (cE aE) aE))))) aE) dS)))
  (fIf (aY (cG (fB (f2 dEq (aB 7) (fC (.int 4)))) (fB (f2 dGt (aJ cN (aA (aB 4) aE)) (fC (.int 1))))))
  (dA (fIO [.io 4] jt))
  (fIf (aY (cG (fB (f2 dLt (aB 7) (fC (.int 7)))) (cG (fB (f2 dEq (aB 8) (fC (.str "either")))) (fB (f2 dLt (aJ cN (aA (f2 dIx (f2 dIx (aB 4) (eY (fC (.int 1)))) (fC (.int 2))) aE)) (fC (.int 3)))))))
  (aR (dA (dY 4 (fY 4 (fY 4 cA (eY (fC (.int 1)))) (fC (.int 2))) (aA (aJ fO (aA (f2 dIx (f2 dIx (aB 4) (eY (fC (.int 1)))) (fC (.int 3))) aE)) aE) dS))
 (gG 4 (fY 4 cA (eY (fC (.int 1)))) (fC (.int 3)) (cE aE)))
  (dA (dY 4 (fY 4 (fY 4 cA (eY (fC (.int 1)))) (fC (.int 3))) (aA (aJ ez (aA (aJ aa (aA (aB 0) (aA (aB 5) (aA (fC (.int 32)) aE)))) aE)) aE) dS)))))))))
 (aR (kU (aY (fB (f2 dGt (aJ cN (aA (aB 4) aE)) (fC (.int 1)))))
  (dA (fIO [.io 4] jt)) 400)
 (bR (aH (aJ fO (aA (f2 dIx (f2 dIx (aB 4) (fC (.int 0))) (fC (.int 3))) aE)))))))
abbrev vB:Stmt:=top 29
abbrev rK:List Str:=["_law_script","_law_at","_law_many_here","_law_nest"]
theorem kP:FnScope ["_law_script","_law_at","_law_many_here","_law_nest","_law_frames","_law_k","_law_number","_law_way","_law_kind","_law_new"] rK (bE vB):=dE
theorem yw5(gl:Dn K mg "_law_row" vB rK f fd)
  (af:Dn K mg "_law_mixed" gA eB a7 au) (ag:FnOk P w K mg base CX0 n a7 au eB (SpP 3 K U aa))
  (eu:Dn K mg "_law_shut" sF pG mx me) (ju:FnOk P w K mg base CX0 n mx me pG (SpE 1 K U (cI [true]) jt))
  (cu:Dn K mg "_law_leaf" pE lA jv jd) (gm:FnOk P w K mg base CX0 n jv jd lA (SpP 1 K U ez))
  (a8:mg "range"=none)
  (aw:mg "tuple"=none)
  (ac:mg "len"=none):
  FnOk P w K mg base CX0 (n+1) f fd rK (SpP 4 K U (gP 4 6 (zv1 aa jt ez))):=
 dC gl.F kP fun cdv A outer s H E B hr=>
 (aO (bC 4 kP.nd (dI (aI (dI (aI bH (aI aF (aI (dI aV) (aI (dI aV) aV))))) aV)))
 (aO (oO 5 ZJ rfl kP.nd rfl (.inl rfl) rfl rfl (ym4 rfl a8 (aG (aC 1) (aG (QP.v (bB dD (aC 1) (aC 2))) aQ)))
  (aO (bC 6 kP.nd (cM af ag hr rfl rfl (aG (aC 0) (aG (aC 5) (aG (QP.v aF) aQ))) (aN (aN (aN bM)))))
 (aO (bC 7 kP.nd (bB eA (aC 6) (QP.v aF)))
 (aO (bC 8 kP.nd (QV.p (bI (bI (aC 4) (QP.v (mZ (QP.v aF)))) (QP.v aF))))
 (aP (cC (QT.e (gW (eL (bK (mI (Room.units0 hr)) (aC 7) (QP.v aF) (bG _)) (eU (bK ye1 (QP.v (cQ fU rfl ac ZP (aG (aC 4) aQ))) (aC 3) (bG _))))))
  (aO (bC 9 kP.nd (mC (dI (lL (.str (.str (.str (.str .nil)))))) (aC 7)))
 (aP (gL (mP (j:=4) rfl (cO 4) (aI (dI (aI (QV.p (aC 9)) (aI (mC (dI (aI aF (aI aF (aI aF (aI (bB eA (QP.v (bB iY (aC 6) (QP.v aF))) (QP.v aF)) aV))))) (QP.v (bB eA (QP.v (bB iY (aC 6) (QP.v aF))) (QP.v aF)))) (aI (dI aV) (aI (dI aV) aV))))) aV)))))
  (aP (cC (QT.e (gW (eL (bK (eE (Room.units hr)) (aC 7) (QP.v aF) (bG _)) (eU (bK yu3 (QP.v (cQ fU rfl ac ZP (aG (aC 4) aQ))) (QP.v aF) (bG _))))))
  (aP (gL (nB eu ju hr rfl (kN 4 dR) rfl (fK rfl) (nd1 4) (qV 4))))
  (aP (cC (QT.e (gW (eL (bK (mI (Room.units0 hr)) (aC 7) (QP.v aF) (bG _)) (eL (bK (eE (Room.units hr)) (aC 8) (QP.v bH) (bG _)) (eU (bK (mI (Room.units0 hr)) (QP.v (cQ fU rfl ac ZP (aG (bI (bI (aC 4) (QP.v (mZ (QP.v aF)))) (QP.v aF)) aQ))) (QP.v aF) (bG _)))))))
  (aO (gL (mP (j:=4) rfl (kM (kM (cO 4) (QP.v (mZ (QP.v aF)))) (QP.v aF)) (aI (kL nU rfl aw YG (aG (bI (bI (aC 4) (QP.v (mZ (QP.v aF)))) (QP.v aF)) aQ)) aV)))
 (aP (qU (j:=4) rfl (dI aV) (kM (cO 4) (QP.v (mZ (QP.v aF)))) (QP.v aF))))
  (aP (gL (mP (j:=4) rfl (kM (kM (cO 4) (QP.v (mZ (QP.v aF)))) (QP.v aF)) (aI (cM cu gm hr rfl rfl (aG (QP.v (cM af ag hr rfl rfl (aG (aC 0) (aG (aC 5) (aG (QP.v aF) aQ))) (aN (aN (aN bM))))) aQ) (aN bM)) aV))))))))))))))
 (aO (yu7 400 ZJ (QT.e (bK yu3 (QP.v (cQ fU rfl ac ZP (aG (aC 4) aQ))) (QP.v aF) (bG _)))
  (aP (gL (nB eu ju hr rfl (kN 4 dR) rfl (fK rfl) (nd1 4) (qV 4)))))
 (aP (bO (QP.e (kL nU rfl aw YG (aG (bI (bI (aC 4) (QP.v aF)) (QP.v aF)) aQ))))))))
def xZ(jg:(tz6))(aa:(tz6)):tz1:=
 (aR (aS 3 (aH (aJ cN (aA (f2 dIx (aB 1) (fC (.int 1))) aE))))
 (aR (fIf (aY (cG (fB (f2 dIs (f2 dIx (aB 1) (fC (.int 2))) (fC .non))) (fB (f2 dEq (f2 dIx (aB 1) (fC (.int 3))) (fC (.int 0))))))
  (aS 4 (aH (f2 kS (aB 2) (fC (.int 1)))))
  (fIf (aY (cG (fB (f2 dIs (f2 dIx (aB 1) (fC (.int 2))) (fC .non))) (fB (f2 dEq (f2 dIx (aB 1) (fC (.int 3))) (fC (.int 1))))))
  (aR (aS 5 (aH (f2 dIx (cE (fKs [.int 1,.int 12,.int 144,.int 1728,.int 20736,.int 248832,.int 2985984,.int 35831808])) (f2 cK (aB 3) (fC (.int 8))))))
 (aS 4 (aH (f2 cK (f2 dX (aJ jg (aA (aB 0) (aA (f2 bJ (fC (.int 40)) (f2 dX (aB 3) (fC (.int 8)))) aE))) (aB 5)) (aB 2)))))
  (fIf (aY (fB (f2 dIs (f2 dIx (aB 1) (fC (.int 2))) (fC .non))))
  (aS 4 (aH (f2 cK (aJ aa (aA (aB 0) (aA (f2 bJ (aB 3) (fC (.int 7))) (aA (f2 dIx (aB 1) (fC (.int 3))) aE)))) (aB 2))))
  (fIf (aY (cG (fB (f2 dLt (aB 3) (aJ cN (aA (f2 dIx (aB 1) (fC (.int 2))) aE)))) (fB (f3 dLe dLt (fC (.int 0)) (f2 dIx (f2 dIx (aB 1) (fC (.int 2))) (aB 3)) (aB 2)))))
  (aS 4 (aH (aZ (f2 dIx (f2 dIx (aB 1) (fC (.int 2))) (aB 3)))))
  (bR (aH (eY (fC (.int 1)))))))))
 (aR (dA (dY 1 (fY 1 cA (fC (.int 1))) (aA (aZ (aB 4)) aE) dS))
 (rY 4))))
abbrev oK:Stmt:=top 30
abbrev mB:List Str:=["_law_script","_law_state","_law_many_here"]
theorem hV:FnScope ["_law_script","_law_state","_law_many_here","_law_at","_law_number","_law_share"] mB (bE oK):=dE
theorem zx0(cv:Dn K mg "_law_choose" oK mB f fd)
  (ci:Dn K mg "_law_cell_at" kW rG kx j8) (d6:FnOk P w K mg base CX0 n kx j8 rG (SpP 2 K U jg))
  (af:Dn K mg "_law_mixed" gA eB a7 au) (ag:FnOk P w K mg base CX0 n a7 au eB (SpP 3 K U aa))
  (ac:mg "len"=none):
  FnOk P w K mg base CX0 (n+1) f fd mB (SpE 3 K U (cI [false,true,false]) (gE 3 3 (cI [false,true,false]) (xZ jg aa))):=
 pX cv.F hV (fun i hi=>jP hi) fun cdv A outer s H E hr=>
 (aO (bC 3 hV.nd (cQ fU rfl ac ZP (aG (bI (aC 1) (QP.v aF)) aQ)))
 (aO (cC (QT.e (gW (eL (bK zo9 (bI (aC 1) (QP.v aF)) (QP.v iN) (bG _)) (eU (bK (eE (Room.units hr)) (bI (aC 1) (QP.v aF)) (QP.v aF) (bG _))))))
  (aP (bC 4 hV.nd (bB rO (aC 2) (QP.v aF))))
  (aP (cC (QT.e (gW (eL (bK zo9 (bI (aC 1) (QP.v aF)) (QP.v iN) (bG _)) (eU (bK (eE (Room.units hr)) (bI (aC 1) (QP.v aF)) (QP.v aF) (bG _))))))
  (aO (bC 5 hV.nd (mC (dI (lL (.int (.int (.int (.int (.int (.int (.int (.int .nil)))))))))) (QP.v (bB eA (aC 3) (QP.v aF)))))
 (aP (bC 4 hV.nd (bB eA (QP.v (bB iY (QP.v (cM ci d6 hr rfl rfl (aG (aC 0) (aG (QP.v (bB dD (QP.v aF) (QP.v (bB iY (aC 3) (QP.v aF))))) aQ)) (aN (aN bM)))) (aC 5))) (aC 2)))))
  (aP (cC (QT.e (bK zo9 (bI (aC 1) (QP.v aF)) (QP.v iN) (bG _)))
  (aP (bC 4 hV.nd (bB eA (QP.v (cM af ag hr rfl rfl (aG (aC 0) (aG (QP.v (bB dD (aC 3) (QP.v aF))) (aG (bI (aC 1) (QP.v aF)) aQ))) (aN (aN (aN bM))))) (aC 2))))
  (aP (cC (QT.e (gW (eL (bK (mI (Room.units0 hr)) (aC 3) (QP.v (cQ fU rfl ac ZP (aG (bI (aC 1) (QP.v aF)) aQ))) (bG _)) (eU (zp6 ye1 (mI (Room.units0 hr)) (QP.v aF) (bI (bI (aC 1) (QP.v aF)) (aC 3)) (aC 2))))))
  (aP (bC 4 hV.nd (QV.p (bI (bI (aC 1) (QP.v aF)) (aC 3)))))
  (aP (bO (QP.e (mZ (QP.v aF))))))))))))
 (aO (gL (mP (j:=1) rfl (kM (cO 1) (QP.v aF)) (aI (QV.p (aC 4)) aV)))
 (aP (qH 4 rfl)))))
def za6(bx:(tz7))(ie:(tz7)):tz1:=
 (aR (fIf (aY (fB (f2 dEq (f2 dIx (aB 1) (fC (.int 0))) (fC (.str "hang")))))
  (bR (fIO [.im (aB 0),.im (f2 dIx (aB 1) (fC (.int 2))),.im (aB 2),.im (f2 bJ (aB 3) (f2 dIx (aB 1) (fC (.int 1)))),.io 4] bx))
  bP)
 (aR (fIf (aY (fB (f2 dEq (f2 dIx (aB 1) (fC (.int 0))) (fC (.str "group")))))
  (aR (aS 5 (aH (fC (.int 0))))
 (aR (fIf (aY (gR (fT (aB 2))))
  (aS 5 (fIO [.im (aB 0),.io 4,.im (fC (.int 2))] ie))
  bP)
 (bR (sB (f2 dGe (aB 5) (fC (.int 0))) (fIO [.im (aB 0),.im (f2 dIx (aB 1) (fC (.int 1))),.im (f2 dEq (aB 5) (fC (.int 0))),.im (aB 3),.io 4] bx)))))
  bP)
 (aR (aS 5 (fIO [.im (aB 0),.io 4,.im (aJ cN (aA (f2 dIx (aB 1) (fC (.int 1))) aE))] ie))
 (bR (sB (f2 dGe (aB 5) (fC (.int 0))) (fIO [.im (aB 0),.im (f2 dIx (f2 dIx (aB 1) (fC (.int 1))) (aB 5)),.im (aB 2),.im (aB 3),.io 4] bx))))))
abbrev qE:Stmt:=top 31
abbrev nN:List Str:=["_law_script","_law_piece","_law_flat","_law_hang","_law_state"]
theorem nD:FnScope ["_law_script","_law_piece","_law_flat","_law_hang","_law_state","_law_at"] nN (bE qE):=dE
theorem yf2(ff:Dn K mg "_law_inner" qE nN f fd)
  (bn:Dn K mg "_law_set" st_l_set ps_l_set ik gn) (cm:FnOk P w K mg base CX0 n ik gn ps_l_set (SpE 5 K U (cI [false,false,false,false,true]) bx))
  (cv:Dn K mg "_law_choose" oK mB ls ky) (ig:FnOk P w K mg base CX0 n ls ky mB (SpE 3 K U (cI [false,true,false]) ie))
  (ac:mg "len"=none):
  FnOk P w K mg base CX0 (n+1) f fd nN (SpE 5 K U (cI [false,false,false,false,true]) (gE 5 1 (cI [false,false,false,false,true]) (za6 bx ie))):=
 pX ff.F nD (fun i hi=>jP hi) fun cdv A outer s H E hr=>
 (aO (cC (QT.e (bK (eE (Room.units hr)) (bI (aC 1) (QP.v aF)) (QP.v bH) (bG _)))
  (aP (bO (nB bn cm hr rfl (bY (aC 0) (bY (bI (aC 1) (QP.v aF)) (bY (aC 2) (bY (QP.v (bB dD (aC 3) (bI (aC 1) (QP.v aF)))) (kN 4 dR))))) rfl (fK rfl) (nd1 4) (qV 4))))
  bZ)
 (aO (cC (QT.e (bK (eE (Room.units hr)) (bI (aC 1) (QP.v aF)) (QP.v bH) (bG _)))
  (aO (bC 5 nD.nd aF)
 (aO (cC (QT.e (mY (fJ (aC 2))))
  (aP (zp1 5 nD.nd rfl (.inl rfl) rfl rfl (nB cv ig hr rfl (bY (aC 0) (kN 4 (bY (QP.v aF) dR))) rfl (fK rfl) (nd1 4) (qV 4))))
  bZ)
 (aP (bO (yn6 (lX xo4 (aC 5) (QP.v aF) (bG _)) (nB bn cm hr rfl (bY (aC 0) (bY (bI (aC 1) (QP.v aF)) (bY (QP.v (lX (eE (Room.units hr)) (aC 5) (QP.v aF) (bG _))) (bY (aC 3) (kN 4 dR))))) rfl (fK rfl) (nd1 4) (qV 4)))))))
  bZ)
 (aO (zp1 5 nD.nd rfl (.inl rfl) rfl rfl (nB cv ig hr rfl (bY (aC 0) (kN 4 (bY (QP.v (cQ fU rfl ac ZP (aG (bI (aC 1) (QP.v aF)) aQ))) dR))) rfl (fK rfl) (nd1 4) (qV 4)))
 (aP (bO (yn6 (lX xo4 (aC 5) (QP.v aF) (bG _)) (nB bn cm hr rfl (bY (aC 0) (bY (bI (bI (aC 1) (QP.v aF)) (aC 5)) (bY (aC 2) (bY (aC 3) (kN 4 dR))))) rfl (fK rfl) (nd1 4) (qV 4))))))))
def zv2(j9:(tz7)):tz1:=
 (aR (gF 5 (gY (aB 1))
  (aR (aS 6 (aH (f2 kS (f2 kS (aJ cN (aA (f2 dIx (aB 4) (fC (.int 0))) aE)) (fC (.int 1))) (fMt wN (f2 dIx (aB 4) (fC (.int 0))) (aA (fC (.str "\n")) aE)))))
 (fIf (aY (kR (fB (f2 dEq (f2 dIx (aB 5) (fC (.int 0))) (fC (.str "word")))) (cG (fB (f2 dEq (f2 dIx (aB 5) (fC (.int 0))) (fC (.str "gap")))) (fT (aB 2)))))
  (gG 4 cA (fC (.int 0)) (f2 bJ (f2 dIx (aB 4) (fC (.int 0))) (f2 dIx (aB 5) (fC (.int 1)))))
  (fIf (aY (cG (fB (f2 dEq (f2 dIx (aB 5) (fC (.int 0))) (fC (.str "stop")))) (fB (f2 dLe (aB 6) (f2 dIx (aB 5) (fC (.int 1)))))))
  (gG 4 cA (fC (.int 0)) (f2 bJ (f2 dIx (aB 4) (fC (.int 0))) (f2 iK (fC (.str " ")) (f2 kS (f2 dIx (aB 5) (fC (.int 1))) (aB 6)))))
  (fIf (aY (cG (fB (f2 dEq (f2 dIx (aB 5) (fC (.int 0))) (fC (.str "stop")))) (gR (fT (aB 2)))))
  (gG 4 cA (fC (.int 0)) (f2 bJ (f2 bJ (f2 dIx (aB 4) (fC (.int 0))) (fC (.str "\n"))) (f2 iK (fC (.str " ")) (f2 dIx (aB 5) (fC (.int 1))))))
  (fIf (aY (fB (f2 dIn (f2 dIx (aB 5) (fC (.int 0))) (cE (fKs [.str "gap",.str "end",.str "stop"])))))
  (aR (fIf (aY (fT (aB 2)))
  (bR (aH (fC (.bl false))))
  bP)
 (gG 4 cA (fC (.int 0)) (f2 bJ (f2 bJ (f2 dIx (aB 4) (fC (.int 0))) (fC (.str "\n"))) (f2 iK (fC (.str " ")) (aB 3)))))
  (fIf (oH (fTE (fIO [.im (aB 0),.im (aB 5),.im (aB 2),.im (aB 3),.io 4] j9)))
  (bR (aH (fC (.bl false))))
  bP)))))))
 (bR (aH (fC (.bl true)))))
abbrev st_l_set:Stmt:=top 32
abbrev ps_l_set:List Str:=["_law_script","_law_row_here","_law_flat","_law_hang","_law_state"]
theorem uE:FnScope ["_law_script","_law_row_here","_law_flat","_law_hang","_law_state","_law_piece","_law_column"] ps_l_set (bE st_l_set):=dE
theorem yw6(bn:Dn K mg "_law_set" st_l_set ps_l_set f fd)
  (ff:Dn K mg "_law_inner" qE nN mf lu) (oa:FnOk P w K mg base CX0 n mf lu nN (SpE 5 K U (cI [false,false,false,false,true]) j9))
  (ac:mg "len"=none):
  FnOk P w K mg base CX0 (n+1) f fd ps_l_set (SpE 5 K U (cI [false,false,false,false,true]) (gE 5 2 (cI [false,false,false,false,true]) (zv2 j9))):=
 pX bn.F uE (fun i hi=>jP hi) fun cdv A outer s H E hr=>
 (aO (zc3 5 1 ZJ rfl uE.nd rfl (.inl rfl) rfl rfl rfl
  (aO (bC 6 uE.nd (bB rO (QP.v (bB rO (QP.v (cQ fU rfl ac ZP (aG (bI (aC 4) (QP.v aF)) aQ))) (QP.v aF))) (QP.v (zk7 PySem.F.slot_str_rfind PySem.F.type_str_rfind xh0 (bI (aC 4) (QP.v aF)) (aG (QP.v bH) aQ)))))
 (aP (cC (QT.e (gW (xC (bK (eE (Room.units hr)) (bI (aC 5) (QP.v aF)) (QP.v bH) (bG _)) (sT (gW (eL (bK (eE (Room.units hr)) (bI (aC 5) (QP.v aF)) (QP.v bH) (bG _)) (eU (fJ (aC 2)))))))))
  (aP (qU (j:=4) rfl (bB dD (bI (aC 4) (QP.v aF)) (bI (aC 5) (QP.v aF))) (cO 4) (QP.v aF)))
  (aP (cC (QT.e (gW (eL (bK (eE (Room.units hr)) (bI (aC 5) (QP.v aF)) (QP.v bH) (bG _)) (eU (bK ye1 (aC 6) (bI (aC 5) (QP.v aF)) (bG _))))))
  (aP (qU (j:=4) rfl (bB dD (bI (aC 4) (QP.v aF)) (QP.v (bB tZ (QP.v bH) (QP.v (bB rO (bI (aC 5) (QP.v aF)) (aC 6)))))) (cO 4) (QP.v aF)))
  (aP (cC (QT.e (gW (eL (bK (eE (Room.units hr)) (bI (aC 5) (QP.v aF)) (QP.v bH) (bG _)) (eU (mY (fJ (aC 2)))))))
  (aP (qU (j:=4) rfl (bB dD (QP.v (bB dD (bI (aC 4) (QP.v aF)) (QP.v bH))) (QP.v (bB tZ (QP.v bH) (bI (aC 5) (QP.v aF))))) (cO 4) (QP.v aF)))
  (aP (cC (QT.e (bK yu5 (bI (aC 5) (QP.v aF)) (QP.v (dI (lL (.str (.str (.str .nil)))))) (by with_unfolding_all rfl)))
  (aO (cC (QT.e (fJ (aC 2)))
  (aP (bO (QP.e iX)))
  bZ)
 (aP (qU (j:=4) rfl (bB dD (QP.v (bB dD (bI (aC 4) (QP.v aF)) (QP.v bH))) (QP.v (bB tZ (QP.v bH) (aC 3)))) (cO 4) (QP.v aF))))
  (aP (cC (zc8 (zc9 (nB ff oa hr rfl (bY (aC 0) (bY (aC 5) (bY (aC 2) (bY (aC 3) (kN 4 dR))))) rfl (fK rfl) (nd1 4) (qV 4))))
  (aP (bO (QP.e iX)))
  bZ))))))))))))
 (aP (bO (QP.e iX))))
def za7(bx:(tz7)):tz1:=
 (aR (aS 3 (aH (cE (aA (fC (.str "")) (aA (cE aE) (aA (fC .non) (aA (aZ (aB 2)) aE)))))))
 (aR (fIf (oH (fTE (fIO [.im (aB 0),.im (aB 1),.im (fC (.bl false)),.im (fC (.int 0)),.io 3] bx)))
  (aR (aS 3 (aH (cE (aA (fC (.str "")) (aA (cE aE) (aA (fC .non) (aA (fC (.int 0)) aE)))))))
 (dA (fIO [.im (aB 0),.im (aB 1),.im (fC (.bl false)),.im (fC (.int 0)),.io 3] bx)))
  bP)
 (bR (aH (aX (aA (aZ (f2 dIx (aB 3) (fC (.int 0)))) (aA (aJ fO (aA (f2 dIx (aB 3) (fC (.int 1))) aE)) aE)))))))
abbrev nO:Stmt:=top 33
abbrev jW:List Str:=["_law_script","_law_row_here","_law_salt"]
theorem pY:FnScope ["_law_script","_law_row_here","_law_salt","_law_state"] jW (bE nO):=dE
theorem yf3(b9:Dn K mg "_law_drawn" nO jW f fd)
  (bn:Dn K mg "_law_set" st_l_set ps_l_set ik gn) (cm:FnOk P w K mg base CX0 n ik gn ps_l_set (SpE 5 K U (cI [false,false,false,false,true]) bx))
  (aw:mg "tuple"=none):
  FnOk P w K mg base CX0 (n+1) f fd jW (SpP 3 K U (gP 3 1 (za7 bx))):=
 dC b9.F pY fun cdv A outer s H E B hr=>
 (aO (bC 3 pY.nd (dI (aI bH (aI (dI aV) (aI iN (aI (QV.p (aC 2)) aV))))))
 (aO (cC (zc8 (zc9 (nB bn cm hr rfl (bY (aC 0) (bY (aC 1) (bY (QP.v iX) (bY (QP.v aF) (kN 3 dR))))) rfl (fK rfl) (nd1 3) (qV 3))))
  (aO (bC 3 pY.nd (dI (aI bH (aI (dI aV) (aI iN (aI aF aV))))))
 (aP (gL (nB bn cm hr rfl (bY (aC 0) (bY (aC 1) (bY (QP.v iX) (bY (QP.v aF) (kN 3 dR))))) rfl (fK rfl) (nd1 3) (qV 3)))))
  bZ)
 (aP (bO (QP.e (bW (aI (QV.p (bI (aC 3) (QP.v aF))) (aI (kL nU rfl aw YG (aG (bI (aC 3) (QP.v aF)) aQ)) aV))))))))
def yb9(bx:(tz7)):tz1:=
 (aR (aS 2 (aH (cE (aA (fC (.str "")) (aA (cE aE) (aA (aZ (aB 1)) (aA (fC (.int 0)) aE)))))))
 (aR (fIf (zm1 (oH (fTE (fIO [.im (zl8 (cE aE)),.im (aB 0),.im (fC (.bl false)),.im (fC (.int 0)),.io 2] bx))) (fB (f2 dNe (aJ cN (aA (f2 dIx (aB 2) (fC (.int 1))) aE)) (aJ cN (aA (aB 1) aE)))))
  (bR (aH (fC .non)))
  bP)
 (bR (aH (aZ (f2 dIx (aB 2) (fC (.int 0))))))))
abbrev tU:Stmt:=top 34
abbrev oC:List Str:=["_law_row_here","_law_choices"]
theorem zd3:FnScope ["_law_row_here","_law_choices","_law_state"] oC (bE tU):=dE
theorem xi4(ge:Dn K mg "_law_by" tU oC f fd)
  (bn:Dn K mg "_law_set" st_l_set ps_l_set ik gn) (cm:FnOk P w K mg base CX0 n ik gn ps_l_set (SpE 5 K U (cI [false,false,false,false,true]) bx))
  (ac:mg "len"=none):
  FnOk P w K mg base CX0 (n+1) f fd oC (SpP 2 K U (gP 2 1 (yb9 bx))):=
 dC ge.F zd3 fun cdv A outer s H E B hr=>
 (aO (bC 2 zd3.nd (dI (aI bH (aI (dI aV) (aI (QV.p (aC 1)) (aI aF aV))))))
 (aO (cC (xp2 (zc8 (zc9 (nB bn cm hr rfl (bY (QP.v (xh3 (dI aV))) (bY (aC 0) (bY (QP.v iX) (bY (QP.v aF) (kN 2 dR))))) rfl (fK rfl) (nd1 2) (qV 2)))) (bK (yu4 (Room.units hr)) (QP.v (cQ fU rfl ac ZP (aG (bI (aC 2) (QP.v aF)) aQ))) (QP.v (cQ fU rfl ac ZP (aG (aC 1) aQ))) (bG _)))
  (aP (bO (QP.e iN)))
  bZ)
 (aP (bO (QP.e (QV.p (bI (aC 2) (QP.v aF))))))))
def za8(aa:(tz6)):tz1:=
 (aR (aS 2 (aH (cE aE)))
 (aR (gF 3 (iZ (aA (aJ cN (aA (aB 1) aE)) aE))
  (aR (aS 4 (aH (aJ aa (aA (aB 0) (aA (aB 3) (aA (fC (.int 61)) aE))))))
 (aR (aS 5 (aH (aZ (f2 dIx (aB 1) (aB 3)))))
 (aR (aS 6 (aH (fOr (f2 dIn (f2 dIx (aB 5) (fC (.int 0))) (cE (fKs [.str "word",.str "gap",.str "end",.str "stop"]))) (f2 dLt (aJ cN (aA (aB 1) aE)) (fC (.int 4))))))
 (aR (fIf (aY (cG (fB (f2 dEq (f2 cK (aB 4) (fC (.int 8))) (fC (.int 1)))) (fB (f2 dLt (aB 3) (fC (.int 12))))))
  (aS 5 (aH (aX (aA (fC (.str "group")) (aA (aX (aA (aZ (aB 5)) aE)) aE)))))
  (fIf (aY (cG (fB (f2 dEq (f2 cK (aB 4) (fC (.int 8))) (fC (.int 0)))) (cG (fB (f2 dLt (aB 3) (fC (.int 12)))) (fT (aB 6)))))
  (aS 5 (aH (aX (aA (fC (.str "either")) (aA (aX (aA (aX (aA (aZ (aB 5)) aE)) (aA (aX (aA (aZ (aB 5)) aE)) aE))) aE)))))
  (fIf (aY (cG (fB (f2 dEq (f2 cK (aB 4) (fC (.int 8))) (fC (.int 2)))) (cG (fB (f2 dLt (aB 3) (fC (.int 12)))) (fT (aB 6)))))
  (aS 5 (aH (aX (aA (fC (.str "either")) (aA (aX (aA (aX (aA (aX (aA (fC (.str "word")) (aA (fC (.str "or")) aE))) aE)) (aA (aX (aA (aZ (aB 5)) aE)) (aA (aX (aA (aX (aA (fC (.str "group")) (aA (aX (aA (aZ (aB 5)) aE)) aE))) aE)) aE)))) aE)))))
  (fIf (aY (cG (fB (f2 dEq (f2 cK (aB 4) (fC (.int 8))) (fC (.int 3)))) (cG (fB (f2 dLt (aB 3) (fC (.int 12)))) (fT (aB 6)))))
  (aS 5 (aH (aX (aA (fC (.str "either")) (aA (aX (aA (aX (aA (aZ (aB 5)) (aA (aX (aA (fC (.str "stop")) (aA (f2 cK (f2 dX (aB 4) (fC (.int 8))) (fC (.int 6))) aE))) aE))) (aA (aX (aA (aZ (aB 5)) aE)) aE))) aE)))))
  bP))))
 (dA (dY 2 cA (aA (aZ (aB 5)) aE) dS)))))))
 (bR (aH (aJ fO (aA (aB 2) aE))))))
abbrev qF:Stmt:=top 35
abbrev nP:List Str:=["_law_script","_law_row_here"]
theorem fL:FnScope ["_law_script","_law_row_here","_law_made","_law_k","_law_number","_law_piece","_law_plain"] nP (bE qF):=dE
theorem yf4(fg:Dn K mg "_law_twins" qF nP f fd)
  (af:Dn K mg "_law_mixed" gA eB a7 au) (ag:FnOk P w K mg base CX0 n a7 au eB (SpP 3 K U aa))
  (a8:mg "range"=none)
  (aw:mg "tuple"=none)
  (ac:mg "len"=none):
  FnOk P w K mg base CX0 (n+1) f fd nP (SpP 2 K U (gP 2 5 (za8 aa))):=
 dC fg.F fL fun cdv A outer s H E B hr=>
 (aO (bC 2 fL.nd (dI aV))
 (aO (oO 3 ZJ rfl fL.nd rfl (.inl rfl) rfl rfl (oN rfl a8 (aG (QP.v (cQ fU rfl ac ZP (aG (aC 1) aQ))) aQ))
  (aO (bC 4 fL.nd (cM af ag hr rfl rfl (aG (aC 0) (aG (aC 3) (aG (QP.v aF) aQ))) (aN (aN (aN bM)))))
 (aO (bC 5 fL.nd (QV.p (bI (aC 1) (aC 3))))
 (aO (bC 6 fL.nd (xc3 (lX yu5 (bI (aC 5) (QP.v aF)) (QP.v (dI (lL (.str (.str (.str (.str .nil))))))) (by with_unfolding_all rfl)) (yZ (lX (mI (Room.units0 hr)) (QP.v (cQ fU rfl ac ZP (aG (aC 1) aQ))) (QP.v aF) (bG _)))))
 (aO (cC (QT.e (gW (eL (bK (eE (Room.units hr)) (QP.v (bB eA (aC 4) (QP.v aF))) (QP.v aF) (bG _)) (eU (bK (mI (Room.units0 hr)) (aC 3) (QP.v aF) (bG _))))))
  (aP (bC 5 fL.nd (bW (aI bH (aI (bW (aI (QV.p (aC 5)) aV)) aV)))))
  (aP (cC (QT.e (gW (eL (bK (eE (Room.units hr)) (QP.v (bB eA (aC 4) (QP.v aF))) (QP.v aF) (bG _)) (eL (bK (mI (Room.units0 hr)) (aC 3) (QP.v aF) (bG _)) (eU (fJ (aC 6)))))))
  (aP (bC 5 fL.nd (bW (aI bH (aI (bW (aI (bW (aI (QV.p (aC 5)) aV)) (aI (bW (aI (QV.p (aC 5)) aV)) aV))) aV)))))
  (aP (cC (QT.e (gW (eL (bK (eE (Room.units hr)) (QP.v (bB eA (aC 4) (QP.v aF))) (QP.v aF) (bG _)) (eL (bK (mI (Room.units0 hr)) (aC 3) (QP.v aF) (bG _)) (eU (fJ (aC 6)))))))
  (aP (bC 5 fL.nd (bW (aI bH (aI (bW (aI (bW (aI (bW (aI bH (aI bH aV))) aV)) (aI (bW (aI (QV.p (aC 5)) aV)) (aI (bW (aI (bW (aI bH (aI (bW (aI (QV.p (aC 5)) aV)) aV))) aV)) aV)))) aV)))))
  (aP (cC (QT.e (gW (eL (bK (eE (Room.units hr)) (QP.v (bB eA (aC 4) (QP.v aF))) (QP.v aF) (bG _)) (eL (bK (mI (Room.units0 hr)) (aC 3) (QP.v aF) (bG _)) (eU (fJ (aC 6)))))))
  (aP (bC 5 fL.nd (bW (aI bH (aI (bW (aI (bW (aI (QV.p (aC 5)) (aI (bW (aI bH (aI (bB eA (QP.v (bB iY (aC 4) (QP.v aF))) (QP.v aF)) aV))) aV))) (aI (bW (aI (QV.p (aC 5)) aV)) aV))) aV)))))
  bZ)))))))
 (aP (gL (mP (j:=2) rfl (cO 2) (aI (QV.p (aC 5)) aV)))))))))
 (aP (bO (QP.e (kL nU rfl aw YG (aG (aC 2) aQ)))))))
def wQ(aa:(tz6))(ez:(tz6)):tz1:=
 (aR (aS 2 (aH (fC (.int 3))))
 (aR (gF 3 (iZ (aA (f2 bJ (fC (.int 3)) (f2 cK (f2 dX (aJ aa (aA (aB 0) (aA (fC (.int 2)) (aA (fC (.int 57)) aE)))) (fC (.int 4))) (fC (.int 7)))) aE))
  (aR (aS 4 (aH (aJ aa (aA (aB 0) (aA (f2 bJ (fC (.int 3)) (aB 3)) (aA (fC (.int 58)) aE))))))
 (aR (aS 5 (aH (aX (aA (fC (.str "hang")) (aA (f2 cK (f2 dX (aB 4) (fC (.int 8))) (fC (.int 4))) (aA (aZ (aB 1)) aE))))))
 (aR (fIf (aY (cG (fB (f3 dLt dLt (fC (.int 0)) (f2 cK (aB 4) (fC (.int 8))) (fC (.int 3)))) (fB (f2 dGt (aB 2) (fC (.int 0))))))
  (aR (aS 2 (aH (f2 kS (aB 2) (fC (.int 1)))))
 (aS 5 (aH (f2 dIx (cE (aA (aX (aA (fC (.str "group")) (aA (aZ (aB 1)) aE))) (aA (aX (aA (fC (.str "either")) (aA (aX (aA (aX (aA (aX (aA (fC (.str "word")) (aA (fC (.str "or")) aE))) aE)) (aA (aZ (aB 1)) aE))) aE))) aE))) (f2 kS (f2 cK (aB 4) (fC (.int 8))) (fC (.int 1)))))))
  bP)
 (za1 1 (aH (aX (aA (aJ ez (aA (f2 dX (aB 4) (fC (.int 64))) aE)) (aA (aZ (aB 5)) aE)))))))))
 (bR (aH (aZ (aB 1))))))
abbrev nQ:Stmt:=top 36
abbrev lB:List Str:=["_law_script","_law_row_here"]
theorem fM:FnScope ["_law_script","_law_row_here","_law_left","_law_k","_law_way","_law_piece"] lB (bE nQ):=dE
theorem zq9(c9:Dn K mg "_law_wrapped" nQ lB f fd)
  (af:Dn K mg "_law_mixed" gA eB a7 au) (ag:FnOk P w K mg base CX0 n a7 au eB (SpP 3 K U aa))
  (cu:Dn K mg "_law_leaf" pE lA jv jd) (gm:FnOk P w K mg base CX0 n jv jd lA (SpP 1 K U ez))
  (a8:mg "range"=none):
  FnOk P w K mg base CX0 (n+1) f fd lB (SpP 2 K U (gP 2 4 (wQ aa ez))):=
 dC c9.F fM fun cdv A outer s H E B hr=>
 (aO (bC 2 fM.nd aF)
 (aO (oO 3 ZJ rfl fM.nd rfl (.inl rfl) rfl rfl (oN rfl a8 (aG (QP.v (bB dD (QP.v aF) (QP.v (bB eA (QP.v (bB iY (QP.v (cM af ag hr rfl rfl (aG (aC 0) (aG (QP.v aF) (aG (QP.v aF) aQ))) (aN (aN (aN bM))))) (QP.v aF))) (QP.v aF))))) aQ))
  (aO (bC 4 fM.nd (cM af ag hr rfl rfl (aG (aC 0) (aG (QP.v (bB dD (QP.v aF) (aC 3))) (aG (QP.v aF) aQ))) (aN (aN (aN bM)))))
 (aO (bC 5 fM.nd (bW (aI bH (aI (bB eA (QP.v (bB iY (aC 4) (QP.v aF))) (QP.v aF)) (aI (QV.p (aC 1)) aV)))))
 (aO (cC (QT.e (gW (eL (zp6 (mI (Room.units0 hr)) (mI (Room.units0 hr)) (QP.v aF) (QP.v (bB eA (aC 4) (QP.v aF))) (QP.v aF)) (eU (bK yu3 (aC 2) (QP.v aF) (bG _))))))
  (aO (bC 2 fM.nd (bB rO (aC 2) (QP.v aF)))
 (aP (bC 5 fM.nd (mC (dI (aI (bW (aI bH (aI (QV.p (aC 1)) aV))) (aI (bW (aI bH (aI (bW (aI (bW (aI (bW (aI bH (aI bH aV))) aV)) (aI (QV.p (aC 1)) aV))) aV))) aV))) (QP.v (bB rO (QP.v (bB eA (aC 4) (QP.v aF))) (QP.v aF)))))))
  bZ)
 (aP (xg4 1 fM.nd rfl (.inl rfl) rfl (QP.e (bW (aI (cM cu gm hr rfl rfl (aG (QP.v (bB iY (aC 4) (QP.v aF))) aQ) (aN bM)) (aI (QV.p (aC 5)) aV))))))))))
 (aP (bO (QP.e (QV.p (aC 1)))))))
def zj2(aa:(tz6))(jh:(tz6))(kj:(tz6))(ka:(tz6)):tz1:=
 (aR (fIf (aY (fB (f2 dEq (f2 cK (aJ aa (aA (aB 0) (aA (fC (.int 2)) (aA (fC (.int 57)) aE)))) (fC (.int 4))) (fC (.int 1)))))
  (bR (aH (aJ jh (aA (aB 0) (aA (aJ kj (aA (aB 0) (aA (fC (.int 0)) (aA (aJ xN (aA (f2 bJ (aJ cN (aA (aB 0) aE)) (fC (.int 3))) (aA (fC (.int 12)) aE))) (aA (fC (.int 3)) aE))))) aE)))))
  bP)
 (bR (aH (aJ ka (aA (aB 0) (aA (aJ kj (aA (aB 0) (aA (fC (.int 0)) (aA (aJ xN (aA (f2 bJ (aJ cN (aA (aB 0) aE)) (fC (.int 3))) (aA (fC (.int 24)) aE))) (aA (fC (.int 3)) aE))))) aE))))))
abbrev sG:Stmt:=top 37
abbrev pH:List Str:=["_law_script"]
theorem zh4:FnScope ["_law_script"] pH (bE sG):=dE
theorem yo3(gq:Dn K mg "_law_some" sG pH f fd)
  (af:Dn K mg "_law_mixed" gA eB a7 au) (ag:FnOk P w K mg base CX0 n a7 au eB (SpP 3 K U aa))
  (c9:Dn K mg "_law_wrapped" nQ lB kz kb) (ji:FnOk P w K mg base CX0 n kz kb lB (SpP 2 K U jh))
  (gl:Dn K mg "_law_row" vB rK nr my) (kl:FnOk P w K mg base CX0 n nr my rK (SpP 4 K U kj))
  (fg:Dn K mg "_law_twins" qF nP mh lx) (kc:FnOk P w K mg base CX0 n mh lx nP (SpP 2 K U ka))
  (mr:mg "min"=none)
  (ac:mg "len"=none):
  FnOk P w K mg base CX0 (n+1) f fd pH (SpP 1 K U (gP 1 0 (zj2 aa jh kj ka))):=
 dC gq.F zh4 fun cdv A outer s H E B hr=>
 (aO (cC (QT.e (bK (eE (Room.units hr)) (QP.v (bB eA (QP.v (cM af ag hr rfl rfl (aG (aC 0) (aG (QP.v aF) (aG (QP.v aF) aQ))) (aN (aN (aN bM))))) (QP.v aF))) (QP.v aF) (bG _)))
  (aP (bO (QP.e (cM c9 ji hr rfl rfl (aG (aC 0) (aG (QP.v (cM gl kl hr rfl rfl (aG (aC 0) (aG (QP.v aF) (aG (QP.v (cQ (ym3 rfl) rfl mr boot_min (aG (QP.v (bB dD (QP.v (cQ fU rfl ac ZP (aG (aC 0) aQ))) (QP.v aF))) (aG (QP.v aF) aQ)))) (aG (QP.v aF) aQ)))) (aN (aN (aN (aN bM)))))) aQ)) (aN (aN bM))))))
  bZ)
 (aP (bO (QP.e (cM fg kc hr rfl rfl (aG (aC 0) (aG (QP.v (cM gl kl hr rfl rfl (aG (aC 0) (aG (QP.v aF) (aG (QP.v (cQ (ym3 rfl) rfl mr boot_min (aG (QP.v (bB dD (QP.v (cQ fU rfl ac ZP (aG (aC 0) aQ))) (QP.v aF))) (aG (QP.v aF) aQ)))) (aG (QP.v aF) aQ)))) (aN (aN (aN (aN bM)))))) aQ)) (aN (aN bM)))))))
def rL:tz1:=
 (aR (fIf (aY (gR (fT (aJ nZ (aA (aB 0) (aA (fC (.ty "tuple")) aE))))))
  (bR (aH (fC (.bl false))))
  bP)
 (aR (gF 1 (gY (aB 0))
  (fIf (aY (kR (gR (fT (aJ nZ (aA (aB 1) (aA (fC (.ty "int")) aE))))) (fT (aJ nZ (aA (aB 1) (aA (fC (.ty "bool")) aE))))))
  (bR (aH (fC (.bl false))))
  bP))
 (bR (aH (fC (.bl true))))))
abbrev iF:Stmt:=top 38
abbrev eZ:List Str:=["_law_found"]
theorem mL:FnScope ["_law_found","_law_number"] eZ (bE iF):=dE
theorem yH(av:Dn K mg "_law_are_choices" iF eZ f fd)
  (dh:mg "isinstance"=none)
  (aw:mg "tuple"=none)
  (mz:mg "bool"=none)
  (nv:mg "int"=none):
  FnOk P w K mg base CX0 (n+1) f fd eZ (SpP 1 K U (gP 1 1 (rL))):=
 dC av.F mL fun cdv A outer s H E B hr=>
 (aO (cC (QT.e (mY (fJ (QP.v (cQ ye2 rfl dh boot_isinstance (aG (aC 0) (aG (QP.v (yd9 rfl aw YG)) aQ)))))))
  (aP (bO (QP.e iX)))
  bZ)
 (aO (zc3 1 0 ZJ rfl mL.nd rfl (.inl rfl) rfl rfl rfl
  (aP (cC (QT.e (gW (xC (mY (fJ (QP.v (cQ ye2 rfl dh boot_isinstance (aG (aC 1) (aG (QP.v (yd9 rfl nv boot_int)) aQ)))))) (sT (fJ (QP.v (cQ ye2 rfl dh boot_isinstance (aG (aC 1) (aG (QP.v (yd9 rfl mz boot_bool)) aQ)))))))))
  (aP (bO (QP.e iX)))
  bZ)))
 (aP (bO (QP.e iX)))))
def wR:tz1:=
 (aR (aS 2 (aH (fC (.str "abcdefghijklmnopqrstuvwxyz 0123456789ABCDEFGHIJKLMNOPQRSTUVWXYZ!#$&'()*+,-./:;<=>?\x40[]^_{|}~"))))
 (aR (aS 3 (aH (f2 cK (f2 dX (aB 1) (fC (.int 8))) (f2 bJ (aJ cN (aA (aB 0) aE)) (fC (.int 1))))))
 (aR (aS 4 (aH (aZ (f2 dIx (aB 2) (f2 cK (f2 dX (aB 1) (fC (.int 4000))) (aJ cN (aA (aB 2) aE)))))))
 (aR (aS 5 (aH (f2 cK (aB 1) (fC (.int 8)))))
 (aR (fIf (aY (fB (f2 dEq (aB 5) (fC (.int 0)))))
  (bR (aH (f2 bJ (f2 bJ (fSl (aB 0) dN (eC (aB 3))) (aB 4)) (fSl (aB 0) (eC (f2 bJ (aB 3) (fC (.int 1)))) dN))))
  bP)
 (aR (fIf (aY (fB (f2 dEq (aB 5) (fC (.int 1)))))
  (bR (aH (f2 bJ (f2 bJ (fSl (aB 0) dN (eC (aB 3))) (aB 4)) (fSl (aB 0) (eC (aB 3)) dN))))
  bP)
 (aR (fIf (aY (fB (f2 dEq (aB 5) (fC (.int 2)))))
  (bR (aH (f2 bJ (fSl (aB 0) dN (eC (aB 3))) (fSl (aB 0) (eC (f2 bJ (aB 3) (fC (.int 1)))) dN))))
  bP)
 (aR (fIf (aY (zu9 5 3)) (bR (aH (za3 0 "\n" " "))) bP)
 (aR (fIf (aY (fB (f2 dEq (aB 5) (fC (.int 4)))))
  (bR (aH (f2 bJ (f2 bJ (fSl (aB 0) dN (eC (aB 3))) (fC (.str "\n"))) (fSl (aB 0) (eC (aB 3)) dN))))
  bP)
 (aR (fIf (aY (fB (f2 dEq (aB 5) (fC (.int 5)))))
  (bR (aH (fSl (aB 0) dN (eC (aB 3)))))
  bP)
 (bR (aH (f2 dIx (cE (aA (fC (.str "")) (aA (f2 bJ (aB 0) (fC (.str "\n"))) (aA (f2 bJ (aB 0) (fC (.str " "))) (aA (f2 bJ (fC (.str " ")) (aB 0)) aE))))) (f2 cK (f2 dX (aB 1) (fC (.int 8))) (fC (.int 4))))))))))))))))
abbrev nR:Stmt:=top 39
abbrev lC:List Str:=["_law_text","_law_number"]
theorem jE:FnScope ["_law_text","_law_number","_law_some_here","_law_at","_law_sign","_law_way"] lC (bE nR):=dE
theorem zr0(da:Dn K mg "_law_changed" nR lC f fd)
  (ac:mg "len"=none):
  FnOk P w K mg base CX0 (n+1) f fd lC (SpP 2 K U (gP 2 4 (wR))):=
 dC da.F jE fun cdv A outer s H E B hr=>
 (aO (bC 2 jE.nd bH)
 (aO (bC 3 jE.nd (bB eA (QP.v (bB iY (aC 1) (QP.v aF))) (QP.v (bB dD (QP.v (cQ fU rfl ac ZP (aG (aC 0) aQ))) (QP.v aF)))))
 (aO (bC 4 jE.nd (QV.p (bI (aC 2) (QP.v (bB eA (QP.v (bB iY (aC 1) (QP.v aF))) (QP.v (cQ fU rfl ac ZP (aG (aC 2) aQ))))))))
 (aO (bC 5 jE.nd (bB eA (aC 1) (QP.v aF)))
 (aO (cC (QT.e (bK (eE (Room.units hr)) (aC 5) (QP.v aF) (bG _)))
  (aP (bO (QP.e (bB dD (QP.v (bB dD (QP.v (jM (aC 0) lI (lJ (aC 3)))) (aC 4))) (QP.v (jM (aC 0) (lJ (QP.v (bB dD (aC 3) (QP.v aF)))) lI))))))
  bZ)
 (aO (cC (QT.e (bK (eE (Room.units hr)) (aC 5) (QP.v aF) (bG _)))
  (aP (bO (QP.e (bB dD (QP.v (bB dD (QP.v (jM (aC 0) lI (lJ (aC 3)))) (aC 4))) (QP.v (jM (aC 0) (lJ (aC 3)) lI))))))
  bZ)
 (aO (cC (QT.e (bK (eE (Room.units hr)) (aC 5) (QP.v aF) (bG _)))
  (aP (bO (QP.e (bB dD (QP.v (jM (aC 0) lI (lJ (aC 3)))) (QP.v (jM (aC 0) (lJ (QP.v (bB dD (aC 3) (QP.v aF)))) lI))))))
  bZ)
 (aO (xp4 5 (xh1 0))
 (aO (cC (QT.e (bK (eE (Room.units hr)) (aC 5) (QP.v aF) (bG _)))
  (aP (bO (QP.e (bB dD (QP.v (bB dD (QP.v (jM (aC 0) lI (lJ (aC 3)))) (QP.v bH))) (QP.v (jM (aC 0) (lJ (aC 3)) lI))))))
  bZ)
 (aO (cC (QT.e (bK (eE (Room.units hr)) (aC 5) (QP.v aF) (bG _)))
  (aP (bO (QP.e (jM (aC 0) lI (lJ (aC 3))))))
  bZ)
 (aP (bO (QP.e (mC (dI (aI bH (aI (bB dD (aC 0) (QP.v bH)) (aI (bB dD (aC 0) (QP.v bH)) (aI (bB dD (QP.v bH) (aC 0)) aV))))) (QP.v (bB eA (QP.v (bB iY (aC 1) (QP.v aF))) (QP.v aF)))))))))))))))))
def zj3(et:(tz6))(aa:(tz6))(cq:(tz6))(aq:(tz6))(a9:(tz6))(i6:(tz6)):tz1:=
 (aR (aS 1 (aH (aJ fO (aA (uY [none,some 0] (iZ (aA (fC (.int 50)) aE)) sM (aX (aA (fC (.str "group")) (aA (aX (aA (aX (aA (fC (.str "word")) (aA (aJ et (aA (aJ aa (aA (aB 1) (aA (aB 0) (aA (fC (.int 63)) aE)))) aE)) aE))) aE)) aE)))) aE))))
 (aR (aS 2 (aH (f2 dIx (aJ cq (aA (aB 0) (aA (aB 1) (aA (fC (.int 1)) aE)))) (fC (.int 0)))))
 (aR (aS 3 (aH (aJ aq (aA (aB 1) (aA (aB 2) aE)))))
 (aR (fIf (aY (kR (gR (fT (aJ a9 (aA (aB 3) aE)))) (fB (f2 dNe (aJ i6 (aA (aB 1) (aA (aB 3) aE))) (aB 2)))))
  (bR (aH (fC (.bl false))))
  bP)
 (bR (aH (f2 dIs (aJ aq (aA (aB 1) (aA (f2 bJ (aB 2) (fC (.str "z"))) aE))) (fC .non))))))))
abbrev pI:Stmt:=top 40
abbrev pJ:List Str:=["_law_script"]
theorem oS:FnScope ["_law_script","_law_row_here","_law_text","_law_found"] pJ (bE pI):=dE
theorem yo4(gs:Dn K mg "_law_many" pI pJ f fd)
  (cr:Dn K mg "_law_word" pD kZ jr jc) (gk:FnOk P w K mg base CX0 n jr jc kZ (SpP 1 K U et))
  (af:Dn K mg "_law_mixed" gA eB a7 au) (ag:FnOk P w K mg base CX0 n a7 au eB (SpP 3 K U aa))
  (b9:Dn K mg "_law_drawn" nO jW je ii) (di:FnOk P w K mg base CX0 n je ii jW (SpP 3 K U cq))
  (ai:Dn K mg "choices_of" iW fP dk de) (az:FnOk P w K mg base CX0 n dk de fP (SpP 2 K U aq))
  (av:Dn K mg "_law_are_choices" iF eZ df cw) (bz:FnOk P w K mg base CX0 n df cw eZ (SpP 1 K U a9))
  (ge:Dn K mg "_law_by" tU oC l0 km) (jp:FnOk P w K mg base CX0 n l0 km oC (SpP 2 K U i6))
  (aw:mg "tuple"=none)
  (a8:mg "range"=none):
  FnOk P w K mg base CX0 (n+1) f fd pJ (SpP 1 K U (gP 1 3 (zj3 et aa cq aq a9 i6))):=
 dC gs.F oS fun cdv A outer s H E B hr=>
 (aO (bC 1 oS.nd (kL nU rfl aw YG (aG (QP.v (zy6 (sc:=bE pI) (NX:=["_law_script","_law_row_here","_law_text","_law_found"]) (N:=["_law_k","_law_script"]) (pick:=[none,some 0]) ⟨rfl,by decide+kernel,by decide+kernel,by decide+kernel,by decide+kernel,by decide,rfl⟩ rfl rfl rfl (QIP.v (oN rfl a8 (aG (QP.v aF) aQ))) (fun _ _ _ _=>(kD (i:=0) (show(["_law_k","_law_script"]:List Str).Nodup by decide) rfl (by first|exact Or.inl rfl|exact Or.inr rfl))) (fun _ _ _ _=>zy5) (fun _ _ _ _=>(bW (aI bH (aI (bW (aI (bW (aI bH (aI (cM cr gk hr rfl rfl (aG (QP.v (cM af ag hr rfl rfl (aG (aC 1) (aG (aC 0) (aG (QP.v aF) aQ))) (aN (aN (aN bM))))) aQ) (aN bM)) aV))) aV)) aV)))))) aQ)))
 (aO (bC 2 oS.nd (mC (cM b9 di hr rfl rfl (aG (aC 0) (aG (aC 1) (aG (QP.v aF) aQ))) (aN (aN (aN bM)))) (QP.v aF)))
 (aO (bC 3 oS.nd (cM ai az hr rfl rfl (aG (aC 1) (aG (aC 2) aQ)) (aN (aN bM))))
 (aO (cC (QT.e (gW (xC (mY (fJ (QP.v (cM av bz hr rfl rfl (aG (aC 3) aQ) (aN bM))))) (sT (bK (yu4 (Room.units hr)) (QP.v (cM ge jp hr rfl rfl (aG (aC 1) (aG (aC 3) aQ)) (aN (aN bM)))) (aC 2) (bG _))))))
  (aP (bO (QP.e iX)))
  bZ)
 (aP (bO (QP.e (lX zo9 (QP.v (cM ai az hr rfl rfl (aG (aC 1) (aG (QP.v (bB dD (aC 2) (QP.v bH))) aQ)) (aN (aN bM)))) (QP.v iN) (bG _)))))))))
def ys1(aq:(tz6))(aa:(tz6))(lg:(tz6))(lh:(tz6))(jj:(tz6))(cq:(tz6))(a9:(tz6))(i6:(tz6)):tz1:=
 (aR (fIf (aY (kR (fB (f2 dNe (aJ aq (aA (aX aE) (aA (fC (.str "")) aE))) (aX aE))) (fB (f2 tL (aJ aq (aA (aX aE) (aA (fC (.str "a")) aE))) (fC .non)))))
  (bR (aH (fC (.bl false))))
  bP)
 (aR (fIf (aY (cG (fB (f2 dEq (f2 cK (aJ aa (aA (aB 0) (aA (fC (.int 2)) (aA (fC (.int 64)) aE)))) (fC (.int 16))) (fC (.int 5)))) (gR (fT (aJ lg (aA (aB 0) aE))))))
  (bR (aH (fC (.bl false))))
  bP)
 (aR (aS 1 (aH (aJ lh (aA (aB 0) aE))))
 (aR (aS 2 (aH (aJ jj (aA (f2 dIx (aJ cq (aA (aB 0) (aA (aB 1) (aA (fC (.int 1)) aE)))) (fC (.int 0))) (aA (aJ aa (aA (aB 0) (aA (fC (.int 1)) (aA (fC (.int 62)) aE)))) aE)))))
 (aR (aS 3 (aH (aJ aq (aA (aB 1) (aA (aB 2) aE)))))
 (aR (fIf (aY (fB (f2 tL (aB 3) (fC .non))))
  (bR (aH (sL (aJ a9 (aA (aB 3) aE)) (f2 dEq (aJ i6 (aA (aB 1) (aA (aB 3) aE))) (aB 2)))))
  bP)
 (aR (gF 4 (iZ (aA (fC (.int 5)) aE))
  (fIf (aY (fB (f2 dEq (f2 dIx (aJ cq (aA (aB 0) (aA (aB 1) (aA (f2 bJ (fC (.int 1)) (f2 iK (fC (.int 50)) (aB 4))) aE)))) (fC (.int 0))) (aB 2))))
  (bR (aH (fC (.bl false))))
  bP))
 (bR (aH (fC (.bl true)))))))))))
abbrev zv3:Stmt:=top 41
abbrev zv4:List Str:=["_law_script"]
theorem sZ:FnScope ["_law_script","_law_row_here","_law_text","_law_found","_law_lap"] zv4 (bE zv3):=dE
theorem xp5(ny:Dn K mg "law" zv3 zv4 f fd)
  (ai:Dn K mg "choices_of" iW fP dk de) (az:FnOk P w K mg base CX0 n dk de fP (SpP 2 K U aq))
  (af:Dn K mg "_law_mixed" gA eB a7 au) (ag:FnOk P w K mg base CX0 n a7 au eB (SpP 3 K U aa))
  (gs:Dn K mg "_law_many" pI pJ m6 mi) (lj:FnOk P w K mg base CX0 n m6 mi pJ (SpP 1 K U lg))
  (gq:Dn K mg "_law_some" sG pH m7 mj) (ll:FnOk P w K mg base CX0 n m7 mj pH (SpP 1 K U lh))
  (da:Dn K mg "_law_changed" nR lC k7 ke) (jk:FnOk P w K mg base CX0 n k7 ke lC (SpP 2 K U jj))
  (b9:Dn K mg "_law_drawn" nO jW je ii) (di:FnOk P w K mg base CX0 n je ii jW (SpP 3 K U cq))
  (av:Dn K mg "_law_are_choices" iF eZ df cw) (bz:FnOk P w K mg base CX0 n df cw eZ (SpP 1 K U a9))
  (ge:Dn K mg "_law_by" tU oC l0 km) (jp:FnOk P w K mg base CX0 n l0 km oC (SpP 2 K U i6))
  (a8:mg "range"=none):
  FnOk P w K mg base CX0 (n+1) f fd zv4 (SpP 1 K U (gP 1 4 (ys1 aq aa lg lh jj cq a9 i6))):=
 dC ny.F sZ fun cdv A outer s H E B hr=>
 (aO (cC (QT.e (gW (xC (bK (yu4 (Room.units hr)) (QP.v (cM ai az hr rfl rfl (aG (QP.v (bW aV)) (aG (QP.v bH) aQ)) (aN (aN bM)))) (QP.v (bW aV)) (bG _)) (sT (bK zc2 (QP.v (cM ai az hr rfl rfl (aG (QP.v (bW aV)) (aG (QP.v bH) aQ)) (aN (aN bM)))) (QP.v iN) (bG _))))))
  (aP (bO (QP.e iX)))
  bZ)
 (aO (cC (QT.e (gW (eL (bK (eE (Room.units hr)) (QP.v (bB eA (QP.v (cM af ag hr rfl rfl (aG (aC 0) (aG (QP.v aF) (aG (QP.v aF) aQ))) (aN (aN (aN bM))))) (QP.v aF))) (QP.v aF) (bG _)) (eU (mY (fJ (QP.v (cM gs lj hr rfl rfl (aG (aC 0) aQ) (aN bM)))))))))
  (aP (bO (QP.e iX)))
  bZ)
 (aO (bC 1 sZ.nd (cM gq ll hr rfl rfl (aG (aC 0) aQ) (aN bM)))
 (aO (bC 2 sZ.nd (cM da jk hr rfl rfl (aG (QP.v (mC (cM b9 di hr rfl rfl (aG (aC 0) (aG (aC 1) (aG (QP.v aF) aQ))) (aN (aN (aN bM)))) (QP.v aF))) (aG (QP.v (cM af ag hr rfl rfl (aG (aC 0) (aG (QP.v aF) (aG (QP.v aF) aQ))) (aN (aN (aN bM))))) aQ)) (aN (aN bM))))
 (aO (bC 3 sZ.nd (cM ai az hr rfl rfl (aG (aC 1) (aG (aC 2) aQ)) (aN (aN bM))))
 (aO (cC (QT.e (bK zc2 (aC 3) (QP.v iN) (bG _)))
  (aP (bO (QP.e (yl9 (cM av bz hr rfl rfl (aG (aC 3) aQ) (aN bM)) (yZ (lX (eE (Room.units hr)) (QP.v (cM ge jp hr rfl rfl (aG (aC 1) (aG (aC 3) aQ)) (aN (aN bM)))) (aC 2) (bG _)))))))
  bZ)
 (aO (oO 4 ZJ rfl sZ.nd rfl (.inl rfl) rfl rfl (oN rfl a8 (aG (QP.v aF) aQ))
  (aP (cC (QT.e (bK (eE (Room.units hr)) (QP.v (mC (cM b9 di hr rfl rfl (aG (aC 0) (aG (aC 1) (aG (QP.v (bB dD (QP.v aF) (QP.v (bB tZ (QP.v aF) (aC 4))))) aQ))) (aN (aN (aN bM)))) (QP.v aF))) (aC 2) (bG _)))
  (aP (bO (QP.e iX)))
  bZ)))
 (aP (bO (QP.e iX))))))))))
def vL:tz1:=
 (aR (mU 0 cA "Place" "broken" (aZ (aB 1)))
 (mU 0 cA "Place" "margin" (aZ (aB 2))))
abbrev st_Place_init:Stmt:=qK (top 2) 0
abbrev ps_Place_init:List Str:=["self","broken","margin"]
theorem vH:FnScope ["self","broken","margin"] ps_Place_init (bE st_Place_init):=dE
theorem zj9(c6:Kn K mg U "Place" "Place.__init__" st_Place_init ps_Place_init f fd)
  (ar:Cls K (U "Place"))
  (a0:dJ K (U "Place") "broken")
  (b7:dJ K (U "Place") "margin"):
  FnOk P w K mg base CX0 (n+1) f fd ps_Place_init (SpE 3 K U (cI [true,false,false]) (gE 3 0 (cI [true,false,false]) (vL))):=
 pX c6.F vH (fun i hi=>jP hi) fun cdv A outer s H E hr=>
 (aO (oP (C:="Place") ar a0 rfl (QV.p (aC 1)) (cO 0))
 (aP (oP (C:="Place") ar b7 rfl (QV.p (aC 2)) (cO 0))))
def pQ:tz1:=
 (aR (mU 0 cA "Front" "steps" (aZ (aB 1)))
 (mU 0 cA "Front" "best" qC))
abbrev st_Front_init:Stmt:=qK (top 12) 0
abbrev ps_Front_init:List Str:=["self","steps"]
theorem vI:FnScope ["self","steps"] ps_Front_init (bE st_Front_init):=dE
theorem zk0(bg:Kn K mg U "Front" "Front.__init__" st_Front_init ps_Front_init f fd)
  (ae:Cls K (U "Front"))
  (bh:dJ K (U "Front") "steps")
  (al:dJ K (U "Front") "best"):
  FnOk P w K mg base CX0 (n+1) f fd ps_Front_init (SpE 2 K U (cI [true,false]) (gE 2 0 (cI [true,false]) (pQ))):=
 pX bg.F vI (fun i hi=>jP hi) fun cdv A outer s H E hr=>
 (aO (oP (C:="Front") ae bh rfl (QV.p (aC 1)) (cO 0))
 (aP (oP (C:="Front") ae al rfl yv7 (cO 0))))
def lD:tz1:=
 (fIf (aY (kR (fB (f2 iM (aB 1) (dG "Front" "best" (aB 0)))) (fB (f2 zu8 (aB 2) (f2 jT (dG "Front" "best" (aB 0)) (aB 1))))))
  (qD 0 (yh4 0 cA "Front" "best") (aB 1) (aZ (aB 2)))
  bP)
abbrev st_Front_add:Stmt:=qK (top 12) 1
abbrev ps_Front_add:List Str:=["self","state","way"]
theorem vZ:FnScope ["self","state","way"] ps_Front_add (bE st_Front_add):=dE
theorem zr1(ak:Mn K U "Front" "add" "Front.add" st_Front_add ps_Front_add f fd)
  (ae:Cls K (U "Front"))
  (al:dJ K (U "Front") "best"):
  FnOk P w K mg base CX0 (n+1) f fd ps_Front_add (SpE 3 K U (cI [true,false,false]) (gE 3 0 (cI [true,false,false]) (lD))):=
 pX ak.F vZ (fun i hi=>jP hi) fun cdv A outer s H E hr=>
 (aP (cC (QT.e (gW (xC (zg9 (rM hr) (aC 1) (eM (C:="Front") ae al (aC 0))) (sT (bK (xv0 (Room.units hr)) (aC 2) (sW (rM hr) (eM (C:="Front") ae al (aC 0)) (aC 1)) (bG _))))))
  (aP (xh5 (j:=0) (rM hr) rfl (QV.p (aC 2)) (ym7 (C:="Front") ae al (cO 0)) (aC 1)))
  bZ))
def jX(aj:(tz7)):tz1:=
 (gF 2 (tR (aZ (dG "Front" "best" (aB 1))))
  (dA (dY 0 cA (cV [.im (aB 2),.im (f2 jT (dG "Front" "best" (aB 1)) (aB 2))]) (iR "Front" "add" aj))))
abbrev st_Front_add_all:Stmt:=qK (top 12) 2
abbrev ps_Front_add_all:List Str:=["self","other"]
theorem mM:FnScope ["self","other","state"] ps_Front_add_all (bE st_Front_add_all):=dE
theorem yI(bw:Mn K U "Front" "add_all" "Front.add_all" st_Front_add_all ps_Front_add_all f fd)
  (ak:Mn K U "Front" "add" "Front.add" st_Front_add ps_Front_add b8 bq) (ax:FnOk P w K mg base CX0 n b8 bq ps_Front_add (SpE 3 K U (cI [true,false,false]) aj))
  (ae:Cls K (U "Front"))
  (al:dJ K (U "Front") "best"):
  FnOk P w K mg base CX0 (n+1) f fd ps_Front_add_all (SpE 2 K U (cI [true,false]) (gE 2 1 (cI [true,false]) (jX aj))):=
 pX bw.F mM (fun i hi=>jP hi) fun cdv A outer s H E hr=>
 (aP (oO 2 ZJ rfl mM.nd rfl (.inl rfl) rfl rfl (zd0 (QV.p (eM (C:="Front") ae al (aC 1))))
  (aP (gL (sX ak ax hr rfl (cO 0) (bY (aC 2) (bY (sW (rM hr) (eM (C:="Front") ae al (aC 1)) (aC 2)) dR)) rfl rfl (eJ 2))))))
def lV:tz1:=
 (mU 0 cA "AlongText" "text" (aZ (aB 1)))
abbrev st_AlongText_init:Stmt:=qK (top 21) 0
abbrev ps_AlongText_init:List Str:=["self","text"]
theorem pT:FnScope ["self","text"] ps_AlongText_init (bE st_AlongText_init):=dE
theorem xU(c8:Kn K mg U "AlongText" "AlongText.__init__" st_AlongText_init ps_AlongText_init f fd)
  (cp:Cls K (U "AlongText"))
  (il:dJ K (U "AlongText") "text"):
  FnOk P w K mg base CX0 (n+1) f fd ps_AlongText_init (SpE 2 K U (cI [true,false]) (gE 2 0 (cI [true,false]) (lV))):=
 pX c8.F pT (fun i hi=>jP hi) fun cdv A outer s H E hr=>
 (aP (oP (C:="AlongText") cp il rfl (QV.p (aC 1)) (cO 0)))
def kK(jl:(tz6))(du:(tz6)):tz1:=
 (aR (aS 5 (aH (aJ jl (aA (aB 3) (aA (aB 4) (aA (f2 dIx (fUn (aB 1)) (fC (.int 1))) aE))))))
 (aR (fIf (aY (kR (fB (f2 dIs (aB 5) (fC .non))) (gR (fT (fMt sC (dG "AlongText" "text" (aB 0)) (aA (aB 5) (aA (f2 dIx (fUn (aB 1)) (fC (.int 0))) aE)))))))
  (bR (aH (fC .non)))
  bP)
 (bR (aH (aX (aA (fKt (aA (f2 bJ (f2 dIx (fUn (aB 1)) (fC (.int 0))) (aJ cN (aA (aB 5) aE))) (aA (aJ du (aA (f2 dIx (fUn (aB 1)) (fC (.int 1))) (aA (aB 5) aE))) aE))) (aA (aZ (aB 2)) aE)))))))
abbrev st_AlongText_state_behind:Stmt:=qK (top 21) 1
abbrev ps_AlongText_state_behind:List Str:=["self","state","cost","piece","place"]
theorem gX:FnScope ["self","state","cost","piece","place","wrote"] ps_AlongText_state_behind (bE st_AlongText_state_behind):=dE
theorem pZ(am:Mn K U "AlongText" "state_behind" "AlongText.state_behind" st_AlongText_state_behind ps_AlongText_state_behind f fd)
  (c7:Dn K mg "writing" nL kY k8 kf) (jm:FnOk P w K mg base CX0 n k8 kf kY (SpP 3 K U jl))
  (ba:Dn K mg "column_behind" iT gI ib gy) (dw:FnOk P w K mg base CX0 n ib gy gI (SpP 2 K U du))
  (cp:Cls K (U "AlongText"))
  (il:dJ K (U "AlongText") "text")
  (ac:mg "len"=none):
  FnOk P w K mg base CX0 (n+1) f fd ps_AlongText_state_behind (SpP 5 K U (gP 5 1 (kK jl du))):=
 dC am.F gX fun cdv A outer s H E B hr=>
 (aO (bC 5 gX.nd (cM c7 jm hr rfl rfl (aG (aC 3) (aG (aC 4) (aG (bI (QV.un (aC 1)) (QP.v aF)) aQ))) (aN (aN (aN bM)))))
 (aO (cC (QT.e (gW (xC (bK zo9 (aC 5) (QP.v iN) (bG _)) (sT (mY (fJ (QP.v (zk7 Xr Xs yf0 (eM (C:="AlongText") cp il (aC 0)) (aG (aC 5) (aG (bI (QV.un (aC 1)) (QP.v aF)) aQ))))))))))
  (aP (bO (QP.e iN)))
  bZ)
 (aP (bO (QP.e (bW (aI (ye9 (aI (bB dD (bI (QV.un (aC 1)) (QP.v aF)) (QP.v (cQ fU rfl ac ZP (aG (aC 5) aQ)))) (aI (cM ba dw hr rfl rfl (aG (bI (QV.un (aC 1)) (QP.v aF)) (aG (aC 5) aQ)) (aN (aN bM))) aV))) (aI (QV.p (aC 2)) aV))))))))
end L3
namespace My
open PySem PySem.Spec PyProof.Rows L2 L3
abbrev MxH(GM:List D->Option D)(S:D):Prop:=∀j s:Int,0<=j->j<1000->0<=s->s<1000->∃a,GM [S,.int j,.int s]=some (.int a)/\0<=a
def bU:Leaf->D
 | .word x=> .tup [.str "word",.str x]
 | .gap x=> .tup [.str "gap",.str x]
 | .stop c=> .tup [.str "stop",.int c]
 | .fin=> .tup [.str "end"]
mutual
def pcD:Pc->D
 | .leaf l=>bU l
 | .group r=> .tup [.str "group",.tup (pcsD r)]
 | .hang n r=> .tup [.str "hang",.int n,.tup (pcsD r)]
 | .either rs=> .tup [.str "either",.tup (rowsD rs)]
def pcsD:List Pc->List D
 |[]=>[]
 |p::r=>pcD p::pcsD r
def rowsD:List (List Pc)->List D
 |[]=>[]
 |r::rs=> .tup (pcsD r)::rowsD rs
end
theorem zr2(l:Leaf):(bU l).imm=true:=by cases l<;>rfl
mutual
theorem jF:∀p:Pc,(pcD p).imm=true
 | .leaf l=>zr2 l
 | .group r=>by show(D.imm (.str "group")&&(D.imm (.tup (pcsD r))&&D.imms []))=true;rw [show D.imm (.tup (pcsD r))=D.imms (pcsD r) from rfl,pcs_imm r];rfl
 | .hang n r=>by show(D.imm (.str "hang")&&(D.imm (.int n)&&(D.imm (.tup (pcsD r))&&D.imms [])))=true;rw [show D.imm (.tup (pcsD r))=D.imms (pcsD r) from rfl,pcs_imm r];rfl
 | .either rs=>by show(D.imm (.str "either")&&(D.imm (.tup (rowsD rs))&&D.imms []))=true;rw [show D.imm (.tup (rowsD rs))=D.imms (rowsD rs) from rfl,rows_imm rs];rfl
theorem pcs_imm:∀r:List Pc,D.imms (pcsD r)=true
 |[]=>rfl
 |p::r=>by show(D.imm (pcD p)&&D.imms (pcsD r))=true;rw [jF p,pcs_imm r];rfl
theorem rows_imm:∀rs:List (List Pc),D.imms (rowsD rs)=true
 |[]=>rfl
 |r::rs=>by show(D.imm (.tup (pcsD r))&&D.imms (rowsD rs))=true;rw [show D.imm (.tup (pcsD r))=D.imms (pcsD r) from rfl,pcs_imm r,rows_imm rs];rfl
end
theorem qY:∀a b:List Pc,pcsD (a++b)=pcsD a++pcsD b
 |[],b=>rfl
 |p::a,b=>by show pcD p::pcsD (a++b)=pcD p::(pcsD a++pcsD b);rw [qY a b]
theorem wA:∀a b:List (List Pc),rowsD (a++b)=rowsD a++rowsD b
 |[],b=>rfl
 |p::a,b=>by show D.tup (pcsD p)::rowsD (a++b)=D.tup (pcsD p)::(rowsD a++rowsD b);rw [wA a b]
theorem mN:∀a:List Pc,(pcsD a).length=a.length
 |[]=>rfl
 |p::a=>by show(pcsD a).length+1=a.length+1;rw [mN a]
theorem iQ:∀a:List (List Pc),(rowsD a).length=a.length
 |[]=>rfl
 |p::a=>by show(rowsD a).length+1=a.length+1;rw [iQ a]
theorem zz0{α β:Type}(f:α->β)(hf:∀a b,f a=f b->a=b):∀{l m:List α},l.map f=m.map f->l=m
 |[],[],_=>rfl
 |[],_::_,h=>by simp at h
 |_::_,[],h=>by simp at h
 |a::l,b::m,h=>by
  simp only [Zb,List.cons.injEq] at h
  rw [hf a b h.1,zz0 f hf h.2]
theorem gN(a b:String):(Str.ofString a=Str.ofString b)=(a=b):=by
 refine propext ⟨fun h=> ?_,fun h=>by rw [h]⟩
 rw [Str.ofString_eq_toList,Str.ofString_eq_toList] at h
 have h1:(a.toList.map Char.toNat).toArray=(b.toList.map Char.toNat).toArray:=(Str.mk.inj h)
 have h2:a.toList.map Char.toNat=b.toList.map Char.toNat:=by simpa using ZS Array.toList h1
 have h3:a.toList=b.toList:=zz0 _ (fun x y e=>by
  have:Char.ofNat x.toNat=Char.ofNat y.toNat:=by rw [e]
  simpa using this) h2
 exact String.toList_inj.mp h3
theorem kE{α:Type}(a:α)(l:List α):atI (a::l) 0=some a:=by simp [atI,ixN]
theorem eO{α:Type}(a b:α)(l:List α):atI (a::b::l) 1=some b:=by
 have h:ixN (a::b::l).length 1=some 1:=by unfold ixN;rw [if_pos (by decide),if_pos (by simp only [Z4];omega)];rfl
 simp only [atI,h];rfl
theorem zr3{α:Type}(a b c:α)(l:List α):atI (a::b::c::l) 2=some c:=by
 have h:ixN (a::b::c::l).length 2=some 2:=by unfold ixN;rw [if_pos (by decide),if_pos (by simp only [Z4];omega)];rfl
 simp only [atI,h];rfl
theorem sz{n:Nat}(h:n<=1000):n<=sizeLine:=yY h
theorem sz1{n:Nat}(h:n<=1000):n<sizeLine:=vO h
theorem zx1{rs:List (List Pc)}{r:List Pc}(h:r∈rs):(toksR r).length<=(toksMore rs).length:=by
 induction rs with
 |nil=>simp at h
 |cons q rs ih=>
  show _<=(Tk.orr::(toksR q++toksMore rs)).length
  rw [Z4,Z3]
  rcases Za.mp h with e|e
  ·subst e;omega
  ·have:=ih e;omega
theorem sJ{rs:List (List Pc)}{r:List Pc}(h:r∈rs):(toksR r).length<=(toksRows rs).length:=by
 cases rs with
 |nil=>simp at h
 |cons q rs=>
  show _<=(toksR q++toksMore rs).length
  rw [Z3]
  rcases Za.mp h with e|e
  ·subst e;omega
  ·have:=zx1 e;omega
theorem uF(n:Nat):ixN (n+1) (-1)=some n:=by
 unfold ixN
 rw [if_neg (by decide),if_pos (by omega)]
 congr 1
 omega
theorem yJ{α:Type}(l:List α)(a b:α):(l++[a]).set l.length b=l++[b]:=by
 induction l with
 |nil=>rfl
 |cons x l ih=>show x::(l++[a]).set l.length b=_;rw [ih];rfl
theorem xp6(n:Nat):ixN (n+1) 0=some 0:=by unfold ixN;rw [if_pos (by decide),if_pos (by omega)];rfl
theorem dZ(i j:Int):cK (.int i) (.int j)=if 0<j then some (.int (i % j)) else none:=by simp [cK,dII]
theorem gO(i j:Int):dX (.int i) (.int j)=if 0<j/\j<1073741824 then some (.int (i/j)) else none:=by simp [dX,dII]
local macro_rules|`(tactic|simp! [$a,*] $[$l]?)=>`(tactic|simp [aE,aB,aA,fC,f2,aJ,aZ,D.imm,fIf,ze6,dIx,aH,aR,fT,aY,kE,bR,bJ,D.imms,bP,eO,fB,aS,dB,dA,cV,cN,gN,fS,cA,jS,dY,aX,zr3,cE,kR,gP,dGe,dLt,fO,dS,dGt,dNe,cI,dEq,eqB,dLe,uZ,gE,rY,iL,fIO,fY,kS,tN,eX,mU,zZ,gR,dG,yh4,cG,dIs,cY,zu6,fKs,dZ,gO,xb1,uF,rF,eY,xp6,yJ,gG,L2.zo0,$a,*] $[$l]?)
theorem cJ(x y:Str):(x++y).cps.toList=x.cps.toList++y.cps.toList:=by
 show(x.cps++y.cps).toList=_
 simp
theorem eI(x y:Str):(x++y).length=x.length+y.length:=by
 show(x.cps++y.cps).size=x.cps.size+y.cps.size
 simp
def sg:Str:=("abcdefghijklmnopqrstuvwxyzABCDEFGHIJKLMNOPQRSTUVWXYZ0123456789":Str)++("!\"#$&'()*+,-./:;<=>?\x40[\\]^_`{|}~":Str)
theorem yo5:sg.cps.toList.length=93:=by decide+kernel
theorem xi5:sg.cps.toList.all xP=true:=by decide+kernel
theorem xi6:sg.length<=sizeLine:=by
 have e:sg.length=sg.cps.toList.length:=by simp [Str.length]
 rw [e,yo5];exact sz (by decide)
theorem nW{α:Type}(xs:List α)(i:Int)(h0:0<=i)(h1:i<xs.length):∃v∈xs,atI xs i=some v:=by
 have hn:i.toNat<xs.length:=by omega
 obtain⟨v,hv⟩:∃v,xs[i.toNat]? =some v:=⟨_,Zn hn⟩
 refine⟨v,ZT hv,?_⟩
 have e:i=((i.toNat:Nat):Int):=by omega
 rw [e]
 exact zb6 hv
theorem xv1(i:Int)(h0:0<=i)(h1:i<93):∃c,atI sg.cps.toList i=some c/\xP c=true:=by
 obtain⟨c,hc,e⟩:=nW sg.cps.toList i h0 (by rw [yo5];omega)
 exact⟨c,e,List.all_eq_true.mp xi5 c hc⟩
theorem yo6(n:Nat):eS 0 n=((List.range n).map fun(k:Nat)=>(k:Int)).map .int:=by
 unfold eS
 rw [Yu]
 refine List.map_congr_left fun k _=> ?_
 show D.int (0+(k:Int))=D.int (k:Int)
 rw [Int.zero_add]
theorem xi7(m:Int):∃s:Int,atI [D.int 1,.int 2,.int 3,.int 4,.int 5,.int 6,.int 7,.int 8,.int 10,.int 11,.int 9,.int 12] (m % 12)=some (.int s)/\1<=s/\s<=12:=by
 have h0:=Zt m (show(12:Int)≠0 by decide)
 have h1:=Zr m (show(0:Int)<12 by decide)
 obtain⟨d,hd,e⟩:=nW [D.int 1,.int 2,.int 3,.int 4,.int 5,.int 6,.int 7,.int 8,.int 10,.int 11,.int 9,.int 12] (m % 12) h0 (by simpa using h1)
 simp only [Za,ZM,YJ] at hd
 rcases hd with rfl|rfl|rfl|rfl|rfl|rfl|rfl|rfl|rfl|rfl|rfl|rfl<;>exact⟨_,e,by decide,by decide⟩
theorem xp7(k:Int):∃x:Str,atI [D.str (Str.ofString " "),.str (Str.ofString " "),.str (Str.ofString " "),.str (Str.ofString "")] (k % 4)=some (.str x)/\(x=""\/x=" "):=by
 have h0:=Zt k (show(4:Int)≠0 by decide)
 have h1:=Zr k (show(0:Int)<4 by decide)
 obtain⟨d,hd,e⟩:=nW [D.str (Str.ofString " "),.str (Str.ofString " "),.str (Str.ofString " "),.str (Str.ofString "")] (k % 4) h0 (by simpa using h1)
 simp only [Za,ZM,YJ] at hd
 rcases hd with rfl|rfl|rfl|rfl
 ·exact⟨_,e,.inr rfl⟩
 ·exact⟨_,e,.inr rfl⟩
 ·exact⟨_,e,.inr rfl⟩
 ·exact⟨_,e,.inl rfl⟩
theorem xi8(a b k:Int)(ha:0<=a/\a<=40)(hb:0<=b/\b<=40):∃c:Int,atI [D.int a,.int b] (k % 2)=some (.int c)/\0<=c/\c<=40:=by
 have h0:=Zt k (show(2:Int)≠0 by decide)
 have h1:=Zr k (show(0:Int)<2 by decide)
 obtain⟨d,hd,e⟩:=nW [D.int a,.int b] (k % 2) h0 (by simpa using h1)
 simp only [Za,ZM,YJ] at hd
 rcases hd with rfl|rfl
 ·exact⟨_,e,ha⟩
 ·exact⟨_,e,hb⟩
theorem xp8{α:Type}(a b c d:α):atI [a,b,c,d] 3=some d:=rfl
theorem xi9{i j:Int}(h1: -1000000<=i)(h2:i<=1000000)(h3: -1000000<=j)(h4:j<=1000000):zl4 [.int i,.int j]=some (eS i (j-i).toNat):=by
 rw [zl4]
 exact if_pos ⟨by omega,by omega,by omega,by omega⟩
theorem xj0{j:Int}(h3: -1000000<=j)(h4:j<=1000000):qB [.int j]=some (eS 0 j.toNat):=by
 rw [qB]
 exact if_pos ⟨by omega,by omega⟩
theorem xp9(a:Int)(n:Nat):eS a n=((List.range n).map fun(k:Nat)=>a+(k:Int)).map .int:=by
 unfold eS
 rw [Yu];rfl
theorem aK{f g:tz1}{p p':PSt}(h:f p=some (.nx,p')):aR f g p=g p':=by unfold aR;rw [h];rfl
theorem bL{f g:tz1}{p p':PSt}{R:Fl}(h:f p=some (.nx,p'))(e:∃q,g p'=some (R,q)):∃q,aR f g p=some (R,q):=e.elim fun q e=>⟨q,(aK h).trans e⟩
theorem dO{f g:tz1}{p p':PSt}{d:D}(h:f p=some (.ret d,p')):aR f g p=some (.ret d,p'):=by unfold aR;rw [h];rfl
theorem yf5{c:PSt->Option (Bool×PSt)}{f g:tz1}{p p':PSt}(h:c p=some (true,p')):fIf c f g p=f p':=by unfold fIf;rw [h];rfl
theorem dL{c:PSt->Option (Bool×PSt)}{f g:tz1}{p p':PSt}(h:c p=some (false,p')):fIf c f g p=g p':=by unfold fIf;rw [h];rfl
theorem bF{i:Nat}{f:tz2}{p:PSt}{d:D}(h:f p=some d):aS i (aH f) p=some (.nx,p.set i (some d)):=by unfold aS aH;rw [h];rfl
theorem bS{f:tz2}{p:PSt}{d:D}(h:f p=some d):bR (aH f) p=some (.ret d,p):=by unfold bR aH;rw [h];rfl
theorem kA{np n:Nat}{f:tz1}{ds:List D}{d:D}{p:PSt}(hl:ds.length=np)(h:f (ds.map some++List.replicate n none)=some (.ret d,p)):gP np n f ds=some d:=by
 unfold gP;rw [if_pos hl,h];rfl
theorem aM{g:D->D->Option D}{fa fb:tz2}{p:PSt}{x y d:D}(h1:fa p=some x)(h2:fb p=some y)(h3:g x y=some d):f2 g fa fb p=some d:=by unfold f2;rw [h1,h2];exact h3
theorem aT{h:tz6}{g:tz3}{p:PSt}{ds:List D}{d:D}(h1:g p=some ds)(h2:h ds=some d):aJ h g p=some d:=by unfold aJ;rw [h1];exact h2
theorem yo7{o o':Bool}{ys zs:List D}(h1:D.imms ys=true)(h2:D.imms zs=true)(h:ys.length+zs.length<=1000):bJ (.lst o ys) (.lst o' zs)=some (.lst true (ys++zs)):=by
 rw [bJ]
 exact if_pos (by rw [h1,h2];simpa using sz h)
theorem aD{f:tz2}{g:tz3}{p:PSt}{d:D}{ds:List D}(h1:f p=some d)(h2:g p=some ds):aA f g p=some (d::ds):=by unfold aA;rw [h1,h2];rfl
theorem fA{g:tz3}{p:PSt}{ds:List D}(h:g p=some ds)(hl:ds.length<=1000):cE g p=some (.lst true ds):=by unfold cE;rw [h];exact if_pos hl
theorem xj1(a:Int)(b c:Nat)(hc:0<c):∃n:Nat,(b:Int)+a % (c:Int)=(n:Int)/\n<b+c:=by
 have h1:=Zt a (show(c:Int)≠0 by omega)
 have h2:=Zr a (show(0:Int)<c by omega)
 exact⟨(b+a % c).toNat,by omega,by omega⟩
theorem zM(k:Nat)(n:Nat):eS (k:Int) (n+1)= .int k::eS ((k+1:Nat):Int) n:=by
 unfold eS
 rw [List.range_succ_eq_map,Zb,Yu]
 congr 1
 ·simp
  intro j _
  omega
theorem xq0{n:Nat}(h:n<=1000):qB [.int (n:Int)]=some (eS ((0:Nat):Int) n):=xj0 (j:=(n:Int)) (by omega) (by omega)
theorem cW{g:tz3}{p:PSt}{ds:List D}(h:g p=some ds)(hi:D.imms ds=true)(hl:ds.length<=1000):aX g p=some (.tup ds):=by
 unfold aX
 rw [h]
 exact if_pos (by rw [hi];simpa using hl)
theorem lM{i:Nat}{p:PSt}{d:D}(h:p[i]? =some (some d)):aB i p=some d:=by unfold aB;rw [h];rfl
theorem cD{f:tz4}{p:PSt}{b:Bool}(h:f p=some b):aY f p=some (b,p):=by unfold aY;rw [h];rfl
theorem cU{f:tz2}{p:PSt}{b:Bool}(h:f p=some (.bl b)):fB f p=some b:=by unfold fB;rw [h];rfl
theorem iH{f:tz2}{p:PSt}{b:Bool}(h:f p=some (.bl b)):fT f p=some b:=by unfold fT;rw [h];rfl
theorem eD{f g:tz4}{p:PSt}(h:f p=some false):cG f g p=some false:=by unfold cG;rw [h];rfl
theorem eN{f g:tz4}{p:PSt}{b:Bool}(h:f p=some true)(h2:g p=some b):cG f g p=some b:=by unfold cG;rw [h];exact h2
theorem xc4{f g:tz4}{p:PSt}(h:f p=some true):kR f g p=some true:=by unfold kR;rw [h];rfl
theorem lN{f g:tz4}{p:PSt}{b:Bool}(h:f p=some false)(h2:g p=some b):kR f g p=some b:=by unfold kR;rw [h];exact h2
theorem gQ{f:tz4}{p:PSt}{b:Bool}(h:f p=some b):gR f p=some (!b):=by unfold gR;rw [h];rfl
theorem aU{c:tz4}{F:tz1}{p:PSt}(h:c p=some false):fIf (aY c) F bP p=some (.nx,p):=(dL (cD h)).trans rfl
theorem bD{c:tz4}{F G:tz1}{p:PSt}(h:c p=some true):fIf (aY c) F G p=F p:=yf5 (cD h)
def kdT(i:Nat)(w:String):tz4:=fB (f2 dEq (f2 dIx (aB i) (fC (.int 0))) (fC (.str w)))
theorem fN{i:Nat}{p:PSt}{k w:String}{ds:List D}{b:Bool}(hp:p[i]? =some (some (.tup (.str k::ds))))(h:decide (k=w)=b):kdT i w p=some b:=by
 refine cU (aM (aM (lM hp) rfl (kE _ _)) rfl ?_)
 show some (D.bl (decide ((k:Str)=(w:Str))))=_
 rw [<-h]
 congr 2
 exact Yy.mpr (by rw [gN])
theorem qZ{f:tz8}{p p':PSt}{d:D}(h:f p=some (d,p')):dA f p=some (.nx,p'):=by unfold dA;rw [h];rfl
theorem oT{as:List L2.Arg}{g:tz7}{p:PSt}{ds ds':List D}{d:D}(h1:cV as p=some ds)(h2:g ds=some (d,ds'))(h3:ds'.length=as.length):fIO as g p=some (d,iL p as ds'):=by unfold fIO;rw [h1,Z6,h2,Z6,if_pos h3]
theorem cF{f:tz2}{p:PSt}{d:D}(h:f p=some d)(hi:d.imm=true):aZ f p=some d:=by unfold aZ;rw [h];exact if_pos hi
theorem fX{p:PSt}:cV [] p=some []:=rfl
theorem cR{f:tz2}{as:List L2.Arg}{p:PSt}{d:D}{ds:List D}(h:f p=some d)(hi:d.imm=true)(h2:cV as p=some ds):cV (.im f::as) p=some (d::ds):=by
 show(aZ f p).bind _=_
 rw [cF h hi,Z6,h2];rfl
theorem mR{j:Nat}{as:List L2.Arg}{p:PSt}{d:D}{ds:List D}(h:p[j]? =some (some d))(h2:cV as p=some ds):cV (.io j::as) p=some (d::ds):=by
 show((p[j]?).join).bind _=_
 rw [h,YL,Z6,h2];rfl
theorem tD{x y:Str}(h:x.cps.toList=y.cps.toList):x=y:=by
 cases x;cases y
 congr
 exact Xh.mp h
section
variable{c:Nat}
theorem rA(x y:Str)(r:List Str):(Str.join ⟨#[c]⟩ (x::y::r)).cps.toList=x.cps.toList++c::(Str.join ⟨#[c]⟩ (y::r)).cps.toList:=by
 show((x++⟨#[c]⟩)++Str.join ⟨#[c]⟩ (y::r)).cps.toList=_
 rw [cJ,cJ]
 show(x.cps.toList++[c])++_=_
 simp
end
structure Gm where
 kd:Nat
 n:Int
 full:List (List Pc)
 parts:List Pc
def kdS:Nat->String
 |0=>"top"
 |1=>"group"
 |2=>"hang"
 |_=>"either"
def gmD(f:Gm):D:= .lst true [.str (kdS f.kd),.int f.n,.lst true (rowsD f.full),.lst true (pcsD f.parts)]
def cB:List Gm->List D
 |[]=>[]
 |f::fs=>cB fs++[gmD f]
theorem nX:∀fs,(cB fs).length=fs.length
 |[]=>rfl
 |f::fs=>by rw [cB,Z3,nX fs];rfl
def eT:List Pc:=[.leaf (.word "or")]
def oM(f:Gm):List (List Pc):=if f.full=[] then [f.parts,eT] else f.full++[f.parts]
def gB(f:Gm):Pc:=match f.kd with
 |1=> .group f.parts
 |2=> .hang f.n f.parts
 |_=> .either (oM f)
def kG(g:Gm)(p:Pc):Gm:={g with parts:=g.parts++[p]}
mutual
def okP:Pc->Prop
 | .leaf l=>fE l
 | .group r=>okR r
 | .hang n r=>(0<=n/\n<=12)/\okR r
 | .either rs=>(2<=rs.length/\rs.length<=4)/\okRs rs
def okR:List Pc->Prop
 |[]=>True
 |p::r=>okP p/\okR r
def okRs:List (List Pc)->Prop
 |[]=>True
 |r::rs=>okR r/\okRs rs
end
theorem xG:∀a b:List Pc,okR (a++b)↔okR a/\okR b
 |[],b=>by simp [okR]
 |p::a,b=>by rw [ZU,okR,okR,xG a b,and_assoc]
theorem yK:∀a b:List (List Pc),okRs (a++b)↔okRs a/\okRs b
 |[],b=>by simp [okRs]
 |p::a,b=>by rw [ZU,okRs,okRs,yK a b,and_assoc]
theorem zz1(p:Pc):okR [p]↔okP p:=by simp [okR]
theorem zr4(r:List Pc):okRs [r]↔okR r:=by simp [okRs]
theorem rB:∀a b:List (List Pc),toksMore (a++b)=toksMore a++toksMore b
 |[],b=>rfl
 |r::a,b=>by
  show Tk.orr::(toksR r++toksMore (a++b))=(Tk.orr::(toksR r++toksMore a))++toksMore b
  rw [rB a b];simp
def wF(f:Gm):Nat:=(toksMore f.full).length+(toksR f.parts).length+4
def wG:List Gm->Nat
 |[]=>0
 |f::fs=>wF f+wG fs
def xt8(f:Gm):Prop:=okRs f.full/\okR f.parts/\f.full.length<=3/\(f.kd≠3->f.full=[])/\0<=f.n/\f.n<=12
def zv5:List Gm->Prop
 |[]=>False
 |[f]=>f.kd=0
 |f::g::fs=>(1<=f.kd/\f.kd<=3)/\zv5 (g::fs)
def xd6(m:Nat):List Gm->Prop
 |[]=>True
 |f::fs=>depR f.parts+fs.length<=m/\depRs f.full+fs.length<=m/\xd6 m fs
structure GInv(nest k:Nat)(fs:List Gm):Prop where
 len:fs.length<=nest+1
 wt:wG fs<=4*k+4
 each:∀f∈fs,xt8 f
 kinds:zv5 fs
 deep:xd6 nest fs
theorem yf6{f:Gm}(h:f.kd≠3->f.full=[])(hk:1<=f.kd/\f.kd<=3):(bN (gB f)).length<=wF f:=by
 have e:f.kd=1\/f.kd=2\/f.kd=3:=by omega
 unfold wF gB
 rcases e with e|e|e
 ·rw [e];show(Tk.opn::(toksR f.parts++[.cls])).length<=_;rw [Z4,Z3];simp;omega
 ·rw [e];show(Tk.hng f.n::(toksR f.parts++[.bck])).length<=_;rw [Z4,Z3];simp;omega
 ·rw [e]
  show(Tk.eit::(toksRows (oM f)++[.don])).length<=_
  rw [Z4,Z3]
  unfold oM
  cases hf:f.full with
  |nil=>
   rw [if_pos rfl]
   show(toksR f.parts++(Tk.orr::(toksR eT++[]))).length+1+1<=_
   simp [eT,toksR,bN,toksMore]
  |cons r rs=>
   rw [if_neg (by simp)]
   show(toksR r++toksMore (rs++[f.parts])).length+1+1<=(Tk.orr::(toksR r++toksMore rs)).length+_+4
   rw [rB]
   simp [toksMore];omega
theorem yw7{f:Gm}(h:xt8 f)(hk:1<=f.kd/\f.kd<=3):okP (gB f):=by
 obtain⟨h1,h2,h3,h4,h5,h6⟩:=h
 have e:f.kd=1\/f.kd=2\/f.kd=3:=by omega
 unfold gB
 rcases e with e|e|e
 ·rw [e];exact h2
 ·rw [e];exact⟨⟨h5,h6⟩,h2⟩
 ·rw [e]
  show(2<=(oM f).length/\(oM f).length<=4)/\okRs (oM f)
  unfold oM
  by_cases c:f.full=[]
  ·rw [if_pos c]
   refine⟨⟨by simp,by simp⟩,h2,?_,trivial⟩
   exact⟨⟨by decide+kernel,by decide+kernel,by decide+kernel⟩,trivial⟩
  ·rw [if_neg c]
   have hp:1<=f.full.length:=by cases hf:f.full with|nil=>exact absurd hf c|cons a l=>simp
   refine⟨⟨by rw [Z3];simp;omega,by rw [Z3];simp;omega⟩,?_⟩
   rw [yK,zr4];exact⟨h1,h2⟩
theorem yo8{f:Gm}{m k:Nat}(h1:depR f.parts+(k+1)<=m)(h2:depRs f.full+(k+1)<=m):cX (gB f)+k<=m:=by
 unfold gB
 split
 ·show depR f.parts+1+k<=m;omega
 ·show depR f.parts+1+k<=m;omega
 ·show depRs (oM f)+1+k<=m
  unfold oM
  split
  ·show max (depR f.parts) (max (depR eT) 0)+1+k<=m
   have:depR eT=0:=rfl
   omega
  ·rw [uC];omega
theorem GInv.leaf{nest k:Nat}{f:Gm}{fs:List Gm}{l:Leaf}(h:GInv nest k (f::fs))(hl:fE l):GInv nest (k+1) (kG f (.leaf l)::fs):=by
 obtain⟨h1,h2,h3,h4,h5⟩:=h
 have hf:=h3 f Z0
 refine⟨h1,?_,?_,?_,?_⟩
 ·have h2':wF f+wG fs<=4*k+4:=h2
  show(toksMore f.full).length+(toksR (f.parts++[.leaf l])).length+4+wG fs<=_
  rw [nC,Z3]
  unfold wF at h2'
  show _+(_+1)+4+_<=_
  omega
 ·intro x hx
  rcases Za.mp hx with rfl|hx
  ·obtain⟨a1,a2,a3,a4,a5⟩:=hf
   exact⟨a1,(xG _ _).mpr ⟨a2,(zz1 _).mpr hl⟩,a3,a4,a5⟩
  ·exact h3 x (Z1 _ hx)
 ·cases fs with
  |nil=>exact h4
  |cons g fs=>exact⟨h4.1,h4.2⟩
 ·refine⟨?_,h5.2.1,h5.2.2⟩
  show depR (f.parts++[.leaf l])+fs.length<=nest
  rw [vT]
  have:=h5.1
  show max _ 0+_<=_
  omega
theorem GInv.opener{nest k:Nat}{fs:List Gm}{kd:Nat}{n:Int}(h:GInv nest k fs)(hk:1<=kd/\kd<=3)(hn:0<=n/\n<=12)(hl:fs.length<=nest):GInv nest (k+1) (⟨kd,n,[],[]⟩::fs):=by
 obtain⟨h1,h2,h3,h4,h5⟩:=h
 refine⟨by simp;omega,?_,?_,?_,?_⟩
 ·show 0+0+4+wG fs<=_;omega
 ·intro x hx
  rcases Za.mp hx with rfl|hx
  ·exact⟨trivial,trivial,ZH _,fun _=>rfl,hn⟩
  ·exact h3 x hx
 ·cases fs with
  |nil=>exact h4.elim
  |cons g fs=>exact⟨hk,h4⟩
 ·exact⟨by show 0+_<=_;omega,by show 0+_<=_;omega,h5⟩
theorem GInv.orr{nest k:Nat}{f:Gm}{fs:List Gm}(h:GInv nest k (f::fs))(hf3:f.full.length<3)(hk:f.kd=3):GInv nest (k+1) ({f with full:=f.full++[f.parts],parts:=[]}::fs):=by
 obtain⟨h1,h2,h3,h4,h5⟩:=h
 have hf:=h3 f Z0
 refine⟨h1,?_,?_,?_,?_⟩
 ·have h2':wF f+wG fs<=4*k+4:=h2
  show(toksMore (f.full++[f.parts])).length+0+4+wG fs<=_
  rw [rB,Z3]
  unfold wF at h2'
  simp [toksMore];omega
 ·intro x hx
  rcases Za.mp hx with rfl|hx
  ·obtain⟨a1,a2,a3,a4,a5⟩:=hf
   exact⟨(yK _ _).mpr ⟨a1,(zr4 _).mpr a2⟩,trivial,by show(f.full++[f.parts]).length<=3;rw [Z3];simp;omega,fun z=>absurd hk z,a5⟩
  ·exact h3 x (Z1 _ hx)
 ·cases fs with
  |nil=>exact h4
  |cons g fs=>exact⟨h4.1,h4.2⟩
 ·refine⟨?_,?_,h5.2.2⟩
  ·show 0+_<=_
   have:=h5.1;omega
  ·show depRs (f.full++[f.parts])+fs.length<=nest
   rw [uC]
   have a1:=h5.1;have a2:=h5.2.1
   omega
theorem GInv.shut{nest k:Nat}{f g:Gm}{fs:List Gm}(h:GInv nest k (f::g::fs)):GInv nest k (kG g (gB f)::fs):=by
 obtain⟨h1,h2,h3,h4,h5⟩:=h
 have hf:=h3 f Z0
 have hg:=h3 g (Z1 _ Z0)
 have hk:=h4.1
 refine⟨by simp at h1|-;omega,?_,?_,?_,?_⟩
 ·have h2':wF f+(wF g+wG fs)<=4*k+4:=h2
  have t:=yf6 hf.2.2.2.1 hk
  show(toksMore g.full).length+(toksR (g.parts++[gB f])).length+4+wG fs<=_
  rw [nC,Z3,yn8]
  unfold wF at h2' t
  omega
 ·intro x hx
  rcases Za.mp hx with rfl|hx
  ·obtain⟨a1,a2,a3,a4,a5⟩:=hg
   exact⟨a1,(xG _ _).mpr ⟨a2,(zz1 _).mpr (yw7 hf hk)⟩,a3,a4,a5⟩
  ·exact h3 x (Z1 _ (Z1 _ hx))
 ·cases fs with
  |nil=>exact h4.2
  |cons g' fs=>exact⟨h4.2.1,h4.2.2⟩
 ·obtain⟨d1,d2,d3,d4,d5⟩:=h5
  refine⟨?_,d4,d5⟩
  show depR (g.parts++[gB f])+fs.length<=nest
  rw [vT]
  have:=yo8 (f:=f) (m:=nest) (k:=fs.length) d1 d2
  omega
theorem GInv.more{nest k k':Nat}{fs:List Gm}(h:GInv nest k fs)(hk:k<=k'):GInv nest k' fs:=⟨h.len,by have:=h.wt;omega,h.each,h.kinds,h.deep⟩
theorem yo9:∀{fs:List Gm} {f:Gm},f∈fs->wF f<=wG fs
 |[],_,h=>by simp at h
 |g::fs,f,h=>by
  show wF f<=wF g+wG fs
  rcases Za.mp h with rfl|h
  ·omega
  ·have:=yo9 h;omega
theorem yf7(p:Pc):1<=(bN p).length:=by cases p<;>simp [bN]
theorem zN:∀r:List Pc,r.length<=(toksR r).length
 |[]=>Z9 _
 |p::r=>by
  show r.length+1<=(bN p++toksR r).length
  rw [Z3]
  have:=zN r;have:=yf7 p;omega
theorem GInv.parts{nest k:Nat}{fs:List Gm}{f:Gm}(h:GInv nest k fs)(hf:f∈fs):f.parts.length<=4*k+4:=by
 have h1:=yo9 hf;have h2:=h.wt;have h3:=zN f.parts
 unfold wF at h1;omega
theorem xH:("\n":Str)=⟨#[10]⟩:=by decide+kernel
theorem xc5:(" ":Str)=⟨#[32]⟩:=by decide+kernel
theorem uG{x y:Str}(h:x.cps.toList=y.cps.toList):x=y:=by
 cases x;cases y
 simp only at h
 rw [Xh.mp h]
theorem eP(x:Str):x.length=x.cps.toList.length:=by simp [Str.length]
theorem zh5:∀(n:Nat) (a b:Array Nat),((List.replicate n a).foldl (·++·) b).toList=b.toList++(List.replicate n a.toList).flatten
 |0,a,b=>by simp
 |n+1,a,b=>by
  rw [Y7,List.foldl_cons,zh5 n a (b++a),Y7,Yq]
  simp
theorem zr5(n:Int):(Txt.mul " " n).cps.toList=List.replicate n.toNat 32:=by
 rw [xc5]
 unfold Txt.mul
 by_cases h:n<1
 ·rw [if_pos h,show n.toNat=0 by omega];rfl
 ·rw [if_neg h]
  by_cases h1:n=1
  ·subst h1;rfl
  ·rw [if_neg]
   ·show((List.replicate n.toNat #[32]).foldl (·++·) #[]).toList=_
    rw [zh5]
    simp
   ·simp [h1,Str.length]
theorem tF(n:Int):(Txt.mul " " n).length=n.toNat:=by rw [eP,zr5,YR]
theorem yp0(n:Int):(10:Nat)∉(Txt.mul " " n).cps.toList:=by rw [zr5];simp
def col(t:Str):Nat:=(t.cps.toList.reverse.takeWhile (· !=10)).length
theorem yp1{l:List Nat}(h:(10:Nat)∉l):∀a∈l,(a !=10)=true:=fun a ha=>by
 simp only [bne_iff_ne,ne_eq]
 intro e;subst e;exact h ha
theorem zd4{t w:Str}(h:(10:Nat)∉w.cps.toList):col (t++w)=col t+w.length:=by
 unfold col
 rw [cJ,X2,Xq (yp1 (by simpa using h)),Z3,X3,eP]
 omega
theorem zr6{t w:Str}(h:(10:Nat)∉w.cps.toList):col (t++((⟨#[10]⟩:Str)++w))=w.length:=by
 unfold col
 rw [cJ,cJ,X2,X2,Zj,Xq (yp1 (by simpa using h)),Z3,X3,eP]
 simp
theorem xq1(t:Str):col t<=t.length:=by
 unfold col
 rw [eP,<-X3 (as:=t.cps.toList)]
 exact(List.takeWhile_sublist _).length_le
theorem zk8{t:Str}{i:Nat}:StrLaws.At t ⟨#[10]⟩ t.length i↔t.cps.toList[i]? =some 10:=by
 unfold StrLaws.At Builtin.Str.subAt
 show i+1<=t.length/\(t.cps.extract i (i+1)== #[10])=true↔_
 rw [Yx,<-Xh]
 have e:(t.cps.extract i (i+1)).toList=(t.cps.toList.drop i).take 1:=by simp [YT,List.extract]
 rw [e,eP]
 constructor
 ·intro ⟨h1,h2⟩
  rw [Zn (by omega)]
  rw [ZO (by omega)] at h2
  simpa using h2
 ·intro h
  obtain⟨hi,h2⟩:=Z7.mp h
  refine⟨by omega,?_⟩
  rw [ZO hi,h2]
  rfl
theorem yp2(t:Str):(t.length:Int)-1-Txt.rfind t ⟨#[10]⟩=(col t:Int):=by
 rcases rfind_whole t ⟨#[10]⟩ with ⟨e,h⟩|⟨i,e,h1,h2⟩
 ·have hn:(10:Nat)∉t.cps.toList:=fun hm=>by
   obtain⟨i,hi⟩:=YU hm
   exact h i (zk8.mpr hi)
  have:=zd4 (t:=⟨#[]⟩) hn
  have e0:(⟨#[]⟩:Str)++t=t:=uG (by rw [cJ];rfl)
  rw [e0,show col ⟨#[]⟩=0 from rfl] at this
  rw [e,this];omega
 ·rw [zk8] at h1
  obtain⟨hi,h3⟩:=Z7.mp h1
  have hs:t.cps.toList=t.cps.toList.take i++10::t.cps.toList.drop (i+1):=by
   rw [<-h3,<-ZO hi,List.take_append_drop]
  have hn:(10:Nat)∉t.cps.toList.drop (i+1):=fun hm=>by
   obtain⟨j,hj⟩:=YU hm
   rw [List.getElem?_drop] at hj
   exact h2 (i+1+j) (by omega) (zk8.mpr hj)
  have e1:t=(⟨(t.cps.toList.take i).toArray⟩:Str)++((⟨#[10]⟩:Str)++(⟨(t.cps.toList.drop (i+1)).toArray⟩:Str)):=uG (by
   rw [cJ,cJ]
   exact hs)
  have e2:=zr6 (t:=⟨(t.cps.toList.take i).toArray⟩) (w:=⟨(t.cps.toList.drop (i+1)).toArray⟩) hn
  rw [<-e1] at e2
  rw [e,e2,eP,eP]
  show((t.cps.toList.length:Nat):Int)-1-(i:Int)=(((t.cps.toList.drop (i+1)).length:Nat):Int)
  rw [Xe]
  omega
def nlw(m:Int):Str:=(⟨#[10]⟩:Str)++Txt.mul " " m
def wr(b:Bool)(m:Int)(k:Nat):Leaf->Option Str
 | .word x=>some x
 | .gap x=>if b then some (nlw m) else some x
 | .stop c=>if (k:Int)<=c then some (Txt.mul " " (c-k)) else if b then some (nlw c) else none
 | .fin=>if b then some (nlw m) else none
def Wr(w:Str):Prop:=(10:Nat)∉w.cps.toList\/∃m:Int,w=nlw m
theorem xj2{x:Str}(h:za4 x):(10:Nat)∉x.cps.toList:=fun hm=>by
 have:=List.all_eq_true.mp h.2.2 _ hm
 simp [xP] at this
theorem xq2{x:Str}(h:x=""\/x=" "):(10:Nat)∉x.cps.toList:=by
 rcases h with rfl|rfl
 ·simp [show("":Str)=⟨#[]⟩ from by decide+kernel]
 ·simp [xc5]
theorem zk9{b:Bool}{m:Int}{k:Nat}{l:Leaf}{w:Str}(hl:fE l)(h0:0<=m)(h1:m<=200)(h:wr b m k l=some w):Wr w/\w.length<=201:=by
 have nl:∀c:Int,0<=c->c<=200->Wr (nlw c)/\(nlw c).length<=201:=fun c c0 c1=>⟨.inr ⟨c,rfl⟩,by unfold nlw;rw [eI,tF];show 1+_<=_;omega⟩
 cases l with
 |word x=>cases h;exact⟨.inl (xj2 hl),by have:=hl.2.1;omega⟩
 | gap x=>
  cases b with
  |true=>cases h;exact nl m h0 h1
  |false=>
   have e:x=w:=by simpa [wr] using h
   subst e
   have hl':x=""\/x=" ":=hl
   refine⟨.inl (xq2 hl'),?_⟩
   rcases hl' with e|e<;>subst e
   ·show(0:Nat)<=201;decide
   ·show(1:Nat)<=201;decide
 | stop c=>
  have hc:0<=c/\c<=40:=hl
  change (if (k:Int)<=c then some (Txt.mul " " (c-k)) else if b=true then some (nlw c) else none)=some w at h
  by_cases hk:(k:Int)<=c
  ·rw [if_pos hk] at h;cases h
   exact⟨.inl (yp0 _),by rw [tF];omega⟩
  ·rw [if_neg hk] at h
   cases b with
   |true=>cases h;exact nl c hc.1 (by omega)
   |false=>cases h
 |fin=>
  cases b with
  |true=>cases h;exact nl m h0 h1
  |false=>cases h
mutual
def cH:Bool->Int->Pc->List Int->Str->Option (List Int×Str)
 |b,m,.leaf l,cs,t=>(wr b m (col t) l).map fun w=>(cs,t++w)
 | b,m,.group r,cs,t=>if b=true then(match cs with
   |[]=>none
   |c::cs=>if c=0 then setR false m r cs t else if c=1 then setR true m r cs t else none) else setR false m r cs t
 |b,m,.hang n r,cs,t=>setR b (m+n) r cs t
 | b,m,.either rs,cs,t=>match cs with
   |[]=>none
   |c::cs=>if 0<=c then setAt b m rs c.toNat cs t else none
def setR:Bool->Int->List Pc->List Int->Str->Option (List Int×Str)
 |_,_,[],cs,t=>some (cs,t)
 |b,m,p::r,cs,t=>(cH b m p cs t).bind fun s=>setR b m r s.1 s.2
def setAt:Bool->Int->List (List Pc)->Nat->List Int->Str->Option (List Int×Str)
 |_,_,[],_,_,_=>none
 |b,m,r::_,0,cs,t=>setR b m r cs t
 |b,m,_::rs,i+1,cs,t=>setAt b m rs i cs t
end
theorem oU:∀{rs:List (List Pc)} {i:Nat} {b:Bool} {m:Int} {cs:List Int} {t:Str} {r:List Pc},rs[i]? =some r->setAt b m rs i cs t=setR b m r cs t
 |[],i,_,_,_,_,_,h=>by simp at h
 |q::rs,0,_,_,_,_,_,h=>by simp at h;subst h;rw [setAt]
 |q::rs,i+1,_,_,_,_,_,h=>by rw [setAt];exact oU (by simpa using h)
theorem uH:∀{rs:List (List Pc)} {i:Nat} {b:Bool} {m:Int} {cs:List Int} {t:Str},rs[i]? =none->setAt b m rs i cs t=none
 |[],i,_,_,_,_,h=>by rw [setAt]
 |q::rs,0,_,_,_,_,h=>by simp at h
 |q::rs,i+1,_,_,_,_,h=>by rw [setAt];exact uH (by simpa using h)
mutual
theorem rT:∀{p:Pc} {b:Bool} {m:Int} {cs cs':List Int} {t t':Str} (x:List Int),cH b m p cs t=some (cs',t')->cH b m p (cs++x) t=some (cs'++x,t')
 | .leaf l,b,m,cs,cs',t,t',x,h=>by
  rw [cH] at h|-
  cases e:wr b m (col t) l with
  |none=>rw [e] at h;cases h
  |some w=>rw [e] at h;cases h;rfl
 | .group r,b,m,cs,cs',t,t',x,h=>by
  rw [cH.eq_def] at h|-
  simp only at h|-
  cases b with
  |false=>simp only [ZV,Yz] at h|-;exact setR_more x h
  | true=>
   cases cs with
   |nil=>simp at h
   | cons c cs=>
    simp only [ZW,ZU] at h|-
    by_cases c0:c=0
    ·simp only [c0,ZW] at h|-;exact setR_more x h
    ·by_cases c1:c=1
     ·simp only [c1,ZW] at h|-;exact setR_more x h
     ·simp [c0,c1] at h
 | .hang n r,b,m,cs,cs',t,t',x,h=>by rw [cH] at h|-;exact setR_more x h
 | .either rs,b,m,cs,cs',t,t',x,h=>by
  rw [cH.eq_def] at h|-
  cases cs with
  |nil=>cases h
  |cons c cs=>
   simp only [ZU] at h|-
   by_cases c0:0<=c
   ·simp only [c0,ZW] at h|-;exact setAt_more x h
   ·simp [c0] at h
theorem setR_more:∀{r:List Pc} {b:Bool} {m:Int} {cs cs':List Int} {t t':Str} (x:List Int),setR b m r cs t=some (cs',t')->setR b m r (cs++x) t=some (cs'++x,t')
 |[],b,m,cs,cs',t,t',x,h=>by rw [setR] at h|-;cases h;rfl
 | p::r,b,m,cs,cs',t,t',x,h=>by
  rw [setR] at h|-
  cases e:cH b m p cs t with
  |none=>rw [e] at h;cases h
  |some s=>
   obtain⟨c1,t1⟩:=s
   rw [e] at h
   rw [rT x e]
   exact setR_more x h
theorem setAt_more:∀{rs:List (List Pc)} {i:Nat} {b:Bool} {m:Int} {cs cs':List Int} {t t':Str} (x:List Int),setAt b m rs i cs t=some (cs',t')->setAt b m rs i (cs++x) t=some (cs'++x,t')
 |[],i,b,m,cs,cs',t,t',x,h=>by rw [setAt] at h;cases h
 |r::rs,0,b,m,cs,cs',t,t',x,h=>by rw [setAt] at h|-;exact setR_more x h
 |r::rs,i+1,b,m,cs,cs',t,t',x,h=>by rw [setAt] at h|-;exact setAt_more x h
end
abbrev nsP:List Str:=["broken","margin"]
def aW(b:Bool)(m:Int):D:= .obj false "Place" nsP [.bl b,.int m]
abbrev gZ:tz7:=gE 3 0 (cI [true,false,false]) vL
theorem yf8(b:Bool)(m:Int):gZ [.obj true "Place" [] [],.bl b,.int m]=some (.non,[.obj true "Place" nsP [.bl b,.int m],.bl b,.int m]):=by
 kernel_rfl
abbrev ys2:tz6:=gP 0 0 (rH gZ)
abbrev wS:tz6:=gP 1 0 sD
def pK:Pc->Bool
 | .leaf _=>false
 |_=>true
theorem yw8(p:Pc):wS [pcD p]=some (.bl (pK p)):=by
 cases p with
 |leaf l=>cases l<;>kernel_rfl
 |_=>kernel_rfl
abbrev wT:tz6:=gP 2 0 pU
def cZ(b:Bool):Pc->Bool
 | .either _=>true
 | .group _=>b
 |_=>false
theorem yw9(p:Pc)(b:Bool)(m:Int)(hp:pK p=true):wT [pcD p,aW b m]=some (.bl (cZ b p)):=by
 cases p with
 |leaf l=>cases hp
 |group r=>cases b<;>kernel_rfl
 |_=>kernel_rfl
def cP(b:Bool)(m:Int):Pc->List (List Pc×Bool×Int)
 | .leaf _=>[]
 | .group r=>if b=true then [(r,false,m),(r,true,m)] else [(r,false,m)]
 | .hang n r=>[(r,b,m+n)]
 | .either rs=>rs.map fun r=>(r,b,m)
def eW(x:List Pc×Bool×Int):D:= .tup [.tup (pcsD x.1),aW x.2.1 x.2.2]
abbrev zm3:tz6:=gP 2 2 (kX gZ)
theorem yp3(b:Bool)(m:Int):(aW b m).imm=true:=rfl
theorem zd5(x:List Pc×Bool×Int):(eW x).imm=true:=by
 show(D.imm (.tup (pcsD x.1))&&(D.imm (aW x.2.1 x.2.2)&&D.imms []))=true
 rw [show D.imm (.tup (pcsD x.1))=D.imms (pcsD x.1) from rfl,pcs_imm];rfl
theorem zh6(b:Bool)(m:Int):∀(rs:List (List Pc)) (x:Option D),kI [x,some (aW b m)] sM (aX (aA (aZ (aB 0)) (aA (aZ (aB 1)) aE))) (rowsD rs)=some ((rs.map fun r=>(r,b,m)).map eW)
 |[],_=>rfl
 | r::rs,x=>by
  have ih:=zh6 b m rs x
  have hi:=yp3 b m
  have hp:=pcs_imm r
  show kI _ _ _ (.tup (pcsD r)::rowsD rs)=_
  rw [kI]
  show(sM [some (.tup (pcsD r)),some (aW b m)]).bind _=_
  rw [Zb,Zb]
  have e:aX (aA (aZ (aB 0)) (aA (aZ (aB 1)) aE)) [some (.tup (pcsD r)),some (aW b m)]=some (eW (r,b,m)):=by
   unfold eW
   generalize aW b m=q at hi|-
   simp! [dIn,inB,qA,D.flat,D.flats,inV,eqV,sL,fOr,lU,fMt,gY,hp,hi]
  show((aX (aA (aZ (aB 0)) (aA (aZ (aB 1)) aE)) [some (.tup (pcsD r)),some (aW b m)]).bind _)=_
  rw [e,Z6,ih];rfl
def xd7:Pc->Nat
 | .either rs=>rs.length
 |_=>0
theorem kd2{p:PSt}{k w:String}{b:Bool}(hp:p[2]? =some (some (.str k)))(h:decide (k=w)=b):fB (f2 dEq (aB 2) (fC (.str w))) p=some b:=by
 refine cU (aM (lM hp) rfl ?_)
 show some (D.bl (decide ((k:Str)=(w:Str))))=_
 rw [<-h]
 congr 2
 exact Yy.mpr (by rw [gN])
theorem yL{p:PSt}{f g:tz2}{b:Bool}{m:Int}(h1:f p=some (.bl b))(h2:g p=some (.int m)):lU (eX "Place" (cV [.im f,.im g]) gZ) p=some (aW b m):=by
 have q:=yf8 b m
 have e:eX "Place" (cV [.im f,.im g]) gZ p=some (.obj true "Place" nsP [.bl b,.int m]):=by
  unfold eX
  rw [cR h1 rfl (cR h2 rfl fX),Z6,q];rfl
 unfold lU
 rw [e];rfl
theorem yx0:ys2 []=some (aW true 0):=kA (p:=[]) rfl (bS (yL rfl rfl))
theorem zd6{p:PSt}{f g:tz2}{r:List Pc}{b:Bool}{m:Int}(h1:f p=some (.tup (pcsD r)))(h2:g p=some (aW b m)):aX (aA f (aA g aE)) p=some (eW (r,b,m)):=by
 unfold aX
 rw [aD h1 (aD h2 rfl)]
 refine(if_pos ?_).trans rfl
 have:=zd5 (r,b,m)
 rw [show D.imms [.tup (pcsD r),aW b m]=true from this];rfl
theorem xj3(p:Pc)(b:Bool)(m:Int)(hp:pK p=true)(hl:xd7 p<=1000):zm3 [pcD p,aW b m]=some (.lst true ((cP b m p).map eW)):=by
 show gP 2 2 (kX gZ) _=_
 cases p with
 |leaf l=>cases hp
 | group r=>
  have s1:aS 2 (aH (aZ (f2 dIx (aB 0) (fC (.int 0))))) [some (pcD (.group r)),some (aW b m),none,none]=some (.nx,[some (pcD (.group r)),some (aW b m),some (.str "group"),none]):=bF (cF (aM rfl rfl (kE _ _)) rfl)
  have s4:aS 3 (aH (aX (aA (aZ (f2 dIx (aB 0) (fC (.int 1)))) (aA (lU (eX "Place" (cV [.im (fC (.bl false)),.im (dG "Place" "margin" (aB 1))]) gZ)) aE)))) [some (pcD (.group r)),some (aW b m),some (.str "group"),none]=some (.nx,[some (pcD (.group r)),some (aW b m),some (.str "group"),some (eW (r,false,m))]):=bF (zd6 (cF (aM rfl rfl (eO _ _ _)) (pcs_imm r)) (yL rfl (by kernel_rfl)))
  have w3:aZ (aB 3) [some (pcD (.group r)),some (aW b m),some (.str "group"),some (eW (r,false,m))]=some (eW (r,false,m)):=cF rfl (zd5 _)
  have br:fT (dG "Place" "broken" (aB 1)) [some (pcD (.group r)),some (aW b m),some (.str "group"),some (eW (r,false,m))]=some b:=iH (by kernel_rfl)
  suffices h:∃q,kX gZ [some (pcD (.group r)),some (aW b m),none,none]=some (.ret (.lst true ((cP b m (.group r)).map eW)),q) from by
   obtain⟨q,hq⟩:=h;exact kA rfl hq
  unfold kX
  rw [aK s1,aK (aU (kd2 rfl (by decide))),aK (aU (kd2 rfl (by decide))),aK s4]
  cases b with
  |true=>exact⟨_,dO ((bD br).trans (bS (fA (aD w3 (aD (zd6 (cF (aM rfl rfl (eO _ _ _)) (pcs_imm r)) (cF rfl rfl)) rfl)) (Z2 rfl))))⟩
  |false=>exact⟨_,(aK (aU br)).trans (bS (fA (aD w3 rfl) (Z2 rfl)))⟩
 |hang n r=>
  have s1:aS 2 (aH (aZ (f2 dIx (aB 0) (fC (.int 0))))) [some (pcD (.hang n r)),some (aW b m),none,none]=some (.nx,[some (pcD (.hang n r)),some (aW b m),some (.str "hang"),none]):=bF (cF (aM rfl rfl (kE _ _)) rfl)
  refine kA (p:=[some (pcD (.hang n r)),some (aW b m),some (.str "hang"),none]) rfl ?_
  unfold kX
  exact(aK s1).trans (dO ((bD (kd2 rfl (by decide))).trans (bS (fA (aD (zd6 (cF (aM rfl rfl (zr3 _ _ _ _)) (pcs_imm r)) (yL (by kernel_rfl) (aM (x:= .int m) (by kernel_rfl) (aM rfl rfl (eO _ _ _)) rfl))) rfl) (Z2 rfl)))))
 | either rs=>
  generalize gZ=G
  have hz:(rowsD rs).length<=sizeLine:=by rw [iQ];exact sz hl
  have e:=zh6 b m rs none
  have e2:uY [none,some 1] (gY (f2 dIx (aB 0) (fC (.int 1)))) sM (aX (aA (aZ (aB 0)) (aA (aZ (aB 1)) aE))) [some (pcD (.either rs)),some (aW b m),some (.str "either"),none]=some (.lst true ((cP b m (.either rs)).map eW)):=by
   unfold uY
   have e3:gY (f2 dIx (aB 0) (fC (.int 1))) [some (pcD (.either rs)),some (aW b m),some (.str "either"),none]=some (rowsD rs):=by simp! [dIn,inB,qA,D.flat,D.flats,inV,eqV,sL,fOr,lU,fMt,gY,pcD]
   rw [e3,Z6,if_pos hz]
   have e4:kI (rE [none,some 1] [some (pcD (.either rs)),some (aW b m),some (.str "either"),none]) sM (aX (aA (aZ (aB 0)) (aA (aZ (aB 1)) aE))) (rowsD rs)=some ((rs.map fun r=>(r,b,m)).map eW):=e
   rw [e4];rfl
  have s1:aS 2 (aH (aZ (f2 dIx (aB 0) (fC (.int 0))))) [some (pcD (.either rs)),some (aW b m),none,none]=some (.nx,[some (pcD (.either rs)),some (aW b m),some (.str "either"),none]):=by simp! [dIn,inB,qA,D.flat,D.flats,inV,eqV,sL,fOr,lU,fMt,gY,pcD]
  have s2:∀F:tz1,fIf (aY (fB (f2 dEq (aB 2) (fC (.str "hang"))))) F bP [some (pcD (.either rs)),some (aW b m),some (.str "either"),none]=some (.nx,[some (pcD (.either rs)),some (aW b m),some (.str "either"),none]):=fun F=>by simp! [dIn,inB,qA,D.flat,D.flats,inV,eqV,sL,fOr,lU,fMt,gY]
  have s3:∀F:tz1,fIf (aY (fB (f2 dEq (aB 2) (fC (.str "either"))))) F bP [some (pcD (.either rs)),some (aW b m),some (.str "either"),none]=F [some (pcD (.either rs)),some (aW b m),some (.str "either"),none]:=fun F=>by simp! [dIn,inB,qA,D.flat,D.flats,inV,eqV,sL,fOr,lU,fMt,gY]
  refine kA rfl ?_ (p:=[some (pcD (.either rs)),some (aW b m),some (.str "either"),none])
  unfold kX
  exact(aK s1).trans ((aK (s2 _)).trans (dO ((s3 _).trans (bS e2))))
abbrev gNl:tz6:=gP 1 0 vJ
theorem zl0(m:Int)(h0: -1000<=m)(h1:m<=1000):iK (.str " ") (.int m)=some (.str (Txt.mul " " m)):=by
 rw [iK,if_pos]
 simp only [ZG,ZQ]
 exact⟨⟨by decide+kernel,by omega⟩,by omega⟩
theorem xc6(m:Int)(h0:0<=m)(h1:m<=200):gNl [.int m]=some (.str (nlw m)):=by
 have q:=zl0 m (by omega) (by omega)
 have hl:1+(Txt.mul " " m).length<=sizeLine:=by rw [tF];exact sz (by omega)
 have e:((⟨#[10]⟩:Str)++Txt.mul " " m)=nlw m:=rfl
 have e1:bJ (.str "\n") (.str (Txt.mul " " m))=some (.str (nlw m)):=by
  rw [xH,bJ,if_pos (by exact hl)];rfl
 exact kA rfl (bS (aM rfl (aM rfl rfl q) e1))
abbrev yP:tz6:=gP 3 1 (nK gNl)
def wrD:Option Str->D
 |some w=> .str w
 |none=> .non
theorem kd3{p:PSt}{k w:String}{b:Bool}(hp:p[3]? =some (some (.str k)))(h:decide (k=w)=b):fB (f2 dEq (aB 3) (fC (.str w))) p=some b:=by
 refine cU (aM (lM hp) rfl ?_)
 show some (D.bl (decide ((k:Str)=(w:Str))))=_
 rw [<-h]
 congr 2
 exact Yy.mpr (by rw [gN])
theorem yf9(l:Leaf)(b:Bool)(m:Int)(k:Nat)(hl:fE l)(h0:0<=m)(h1:m<=200)(hk:k<=1000000):yP [bU l,aW b m,.int k]=some (wrD (wr b m k l)):=by
 suffices h:∃q,nK gNl [some (bU l),some (aW b m),some (.int k),none]=some (.ret (wrD (wr b m k l)),q) from by
  obtain⟨q,hq⟩:=h;exact kA rfl hq
 have br:∀d x,fT (dG "Place" "broken" (aB 1)) [some d,some (aW b m),some (.int k),x]=some b:=fun d x=>iH (by kernel_rfl)
 have mg:∀d x,aJ gNl (aA (dG "Place" "margin" (aB 1)) aE) [some d,some (aW b m),some (.int k),x]=some (.str (nlw m)):=fun d x=>aT (ds:=[.int m]) (aD (by kernel_rfl) rfl) (xc6 m h0 h1)
 have s1:∀(w:String) (ds:List D),aS 3 (aH (aZ (f2 dIx (aB 0) (fC (.int 0))))) [some (.tup (.str w::ds)),some (aW b m),some (.int k),none]=some (.nx,[some (.tup (.str w::ds)),some (aW b m),some (.int k),some (.str w)]):=fun w ds=>bF (cF (aM rfl rfl (kE _ _)) rfl)
 unfold nK
 cases l with
 |word x=>exact⟨_,(aK (s1 "word" [.str x])).trans (dO ((bD (kd3 rfl (by decide))).trans (bS (cF (aM rfl rfl (eO _ _ _)) rfl))))⟩
 |gap x=>
  show ∃q,aR _ _ [some (.tup [.str "gap",.str x]),some (aW b m),some (.int k),none]=_
  rw [aK (s1 "gap" [.str x]),aK (aU (kd3 rfl (by decide)))]
  cases b with
  |false=>exact⟨_,dO ((bD (eN (kd3 rfl (by decide)) (gQ (br _ _)))).trans (bS (cF (aM rfl rfl (eO _ _ _)) rfl)))⟩
  |true=>exact⟨_,(aK (aU (eN (kd3 rfl (by decide)) (gQ (br _ _))))).trans ((aK (aU (eD (kd3 rfl (by decide))))).trans ((aK (aU (gQ (br _ _)))).trans ((aK (aU (kd3 rfl (by decide)))).trans (bS (mg _ _)))))⟩
 |fin=>
  show ∃q,aR _ _ [some (.tup [.str "end"]),some (aW b m),some (.int k),none]=_
  rw [aK (s1 "end" []),aK (aU (kd3 rfl (by decide))),aK (aU (eD (kd3 rfl (by decide)))),aK (aU (eD (kd3 rfl (by decide))))]
  cases b with
  |false=>exact⟨_,dO ((bD (gQ (br _ _))).trans (bS rfl))⟩
  |true=>exact⟨_,(aK (aU (gQ (br _ _)))).trans ((aK (aU (kd3 rfl (by decide)))).trans (bS (mg _ _)))⟩
 | stop c=>
  have hc:0<=c/\c<=40:=hl
  show ∃q,aR _ _ [some (.tup [.str "stop",.int c]),some (aW b m),some (.int k),none]=_
  have le:fB (f2 dLe (aB 2) (f2 dIx (aB 0) (fC (.int 1)))) [some (.tup [.str "stop",.int c]),some (aW b m),some (.int k),some (.str "stop")]=some (decide ((k:Int)<=c)):=cU (aM rfl (aM rfl rfl (eO _ _ _)) rfl)
  rw [aK (s1 "stop" [.int c]),aK (aU (kd3 rfl (by decide))),aK (aU (eD (kd3 rfl (by decide))))]
  by_cases hkc:(k:Int)<=c
  ·rw [Ze hkc] at le
   rw [show wr b m k (.stop c)=some (Txt.mul " " (c-k)) from if_pos hkc]
   exact⟨_,dO ((bD (eN (kd3 rfl (by decide)) le)).trans (bS (aM rfl (aM (aM rfl rfl (eO _ _ _)) rfl rfl) (zl0 (c-k) (by omega) (by omega)))))⟩
  ·rw [Z5 hkc] at le
   rw [aK (aU (eN (kd3 rfl (by decide)) le))]
   cases b with
   |false=>
    rw [show wr false m k (.stop c)=none from(if_neg hkc).trans rfl]
    exact⟨_,dO ((bD (gQ (br _ _))).trans (bS rfl))⟩
   |true=>
    rw [show wr true m k (.stop c)=some (nlw c) from(if_neg hkc).trans rfl]
    exact⟨_,(aK (aU (gQ (br _ _)))).trans (dO ((bD (kd3 rfl (by decide))).trans (bS (aT (aD (aM rfl rfl (eO _ _ _)) rfl) (xc6 c hc.1 (by omega))))))⟩
theorem yp4{w:Str}:Txt.startswith w ⟨#[10]⟩=decide (w.cps.toList[0]? =some 10):=by
 rw [Yj,ZQ,<-zk8 (t:=w) (i:=0)]
 unfold Txt.startswith StrLaws.At
 simp only [ZG,ZQ]
abbrev zm4:tz6:=gP 1 0 oB
theorem xj4(w:Str):zm4 [.str w]=some (.bl (decide (w.cps.toList[0]? =some 10))):=by
 rw [<-yp4,<-xH]
 simp! [fMt,oB,oG,zl3]
abbrev ze8:tz6:=gP 2 0 (gH zm4)
theorem xj5(t:Str):(⟨#[]⟩:Str)++t=t:=uG (by rw [cJ];simp! [fMt])
theorem xj6(a b c:Str):(a++b)++c=a++(b++c):=uG (by simp only [cJ,Zj])
def bV(C:List Int):List D:=C.map .int
theorem wB(a b:List Int):bV (a++b)=bV a++bV b:=by simp! [fMt,bV]
theorem jK(a:List Int):(bV a).length=a.length:=by simp! [fMt,bV]
theorem yp5:∀C:List Int,D.ints (bV C)=some C
 |[]=>rfl
 |c::C=>by show D.ints (.int c::bV C)=_;rw [D.ints,yp5 C];rfl
theorem jL:∀C,D.imms (bV C)=true
 |[]=>rfl
 |c::C=>by show(D.imm (.int c)&&D.imms (bV C))=true;rw [jL C];rfl
theorem mO{α:Type}{xs:List α}{n:Nat}{v:α}(h:xs[n]? =some v):atI xs (n:Int)=some v:=zb6 h
def lns(t:Str):List Str:=Txt.split t ⟨#[10]⟩
theorem zr7(t:Str):lns t≠[]:=fun z=>by
 have:=split_pos t ⟨#[10]⟩
 rw [show Txt.split t ⟨#[10]⟩=[] from z] at this
 exact absurd this (by decide)
theorem yx1(t:Str):∀p∈lns t,(10:Nat)∉p.cps.toList:=StrLaws.split_free _ 10
theorem uI(t:Str):Str.join ⟨#[10]⟩ (lns t)=t:=StrLaws.join_split _ _
theorem yx2(t:Str):∃xs y,lns t=xs++[y]:=⟨(lns t).dropLast,(lns t).getLast (zr7 t),(List.dropLast_concat_getLast _).symm⟩
theorem zh7:∀(x:Str) (xs:List Str) (y:Str),Str.join ⟨#[10]⟩ (x::xs++[y])=Str.join ⟨#[10]⟩ (x::xs)++((⟨#[10]⟩:Str)++y)
 |x,[],y=>tD (by rw [ZU,Y2,rA,cJ,cJ];rfl)
 |x,x'::xs,y=>tD (by
  rw [ZU,ZU,rA,cJ,rA,<-ZU,zh7 x' xs y,cJ]
  simp [cJ])
theorem yx3{t y:Str}{xs:List Str}(h:lns t=xs++[y]):col t=y.length:=by
 have hf:=yx1 t
 rw [h] at hf
 have hy:=hf y (by simp)
 cases xs with
 |nil=>
  have e:y=t:=by have:=uI t;rw [h] at this;exact this
  have:=zd4 (t:=⟨#[]⟩) hy
  rw [xj5] at this
  rw [<-e,this]
  show 0+_=_
  omega
 |cons x xs=>
  have:=uI t
  rw [h,zh7] at this
  rw [<-this,zr6 hy]
theorem rV:∀{rs:List (List Pc)} {i:Nat} {r:List Pc},rs[i]? =some r->depR r<=depRs rs
 |[],i,_,h=>by simp at h
 |q::rs,0,_,h=>by simp at h;subst h;rw [depRs];omega
 |q::rs,i+1,_,h=>by have:=rV (rs:=rs) (i:=i) (by simpa using h);rw [depRs];omega
theorem uJ:∀{rs:List (List Pc)} {i:Nat} {r:List Pc},okRs rs->rs[i]? =some r->okR r
 |[],i,_,_,h=>by simp at h
 |q::rs,0,_,o,h=>by simp at h;subst h;rw [okRs] at o;exact o.1
 |q::rs,i+1,_,o,h=>by rw [okRs] at o;exact uJ (rs:=rs) (i:=i) o.2 (by simpa using h)
abbrev Way:=Unit×List Int
abbrev Frt:=List (Nat×Way)
def ltW(x y:Way):Bool:=L2.zu7 [[],x.2] [[],y.2]
def gS:Frt->Nat->Option Way
 |[],_=>none
 |p::F,j=>if p.1=j then some p.2 else gS F j
def lE:Frt->Nat->Way->Frt
 |[],_,_=>[]
 |p::F,j,y=>(if p.1=j then(p.1,y) else p)::lE F j y
def gT(F:Frt)(k:Nat)(x:Way):Frt:=match gS F k with
 |none=>F++[(k,x)]
 |some y=>if ltW x y=true then lE F k x else F
def jH(F G:Frt):Frt:=G.foldl (fun F p=>gT F p.1 p.2) F
def zv6(n:Int)(p:Nat×Way):Nat×Way:=(p.1,(p.2.1,p.2.2++[n]))
def jY(F:Frt)(n:Int):Frt:=jH [] (F.map (zv6 n))
def lfB(w:Str):Bool:=decide (w.cps.toList[0]? =some 10)
def hdT(W:Str)(k:Nat):Str:=⟨(W.cps.toList.take k).toArray⟩
def cT(W:Str)(k:Nat):Nat:=col (hdT W k)
def jC(W:Str)(b:Bool)(m:Int)(l:Leaf)(k:Nat)(c:Unit):Option (Nat×Unit):=(wr b m (cT W k) l).bind fun w=>
 if Txt.startswith3 W w (k:Int)=true then some (k+w.length,c) else none
def jI(W:Str)(b:Bool)(m:Int)(l:Leaf)(F G:Frt):Frt:=F.foldl (fun G p=>match jC W b m l p.1 p.2.1 with
 |none=>G
 |some s=>gT G s.1 (s.2,p.2.2)) G
def frW(GR:Bool->Int->List Pc->Frt->Frt)(tk:Bool)(F:Frt):Nat->List (List Pc×Bool×Int)->Frt->Frt
 |_,[],A=>A
 |n,x::xs,A=>frW GR tk F (n+1) xs (jH A (GR x.2.1 x.2.2 x.1 (if tk=true then jY F n else F)))
def frP(W:Str)(GR:Bool->Int->List Pc->Frt->Frt)(b:Bool)(m:Int)(F:Frt):Pc->Frt
 | .leaf l=>jI W b m l F []
 |p=>frW GR (cZ b p) F 0 (cP b m p) []
def frN(W:Str):Nat->Bool->Int->List Pc->Frt->Frt
 |0,_,_,_,F=>F
 |n+1,b,m,r,F=>r.foldl (fun F p=>frP W (frN W n) b m F p) F
def pR(W t:Str)(k:Nat):Prop:=t=hdT W k/\k<=W.length
theorem qI(W:Str)(k:Nat):(hdT W k).cps.toList=W.cps.toList.take k:=rfl
theorem yp6{W:Str}{k:Nat}(h:k<=W.length):(hdT W k).length=k:=by
 rw [eP,qI,Yi]
 rw [eP] at h
 omega
theorem pR.len{W t:Str}{k:Nat}(h:pR W t k):t.length=k:=by rw [h.1];exact yp6 h.2
theorem uK{W w:Str}{k:Nat}(hk:k<=W.length):Txt.startswith3 W w (k:Int)=true↔k+w.length<=W.length/\hdT W k++w=hdT W (k+w.length):=by
 have e1:PySem.fromIndex W.length (k:Int)=k:=by
  unfold PySem.fromIndex
  rw [if_neg (by omega)]
  omega
 unfold Txt.startswith3
 rw [e1,ZG,ZQ]
 refine and_congr_right fun hl=> ?_
 unfold Builtin.Str.subAt
 rw [Yx]
 have lw:w.length=w.cps.toList.length:=eP w
 have lW:W.length=W.cps.toList.length:=eP W
 constructor
 ·intro h
  refine tD ?_
  rw [cJ,qI,qI]
  have h2:=ZS Array.toList h
  rw [YT] at h2
  rw [<-h2,List.extract_eq_drop_take,show k+w.length-k=w.length by omega,List.take_add]
 ·intro h
  have h2:=ZS (fun x:Str=>x.cps.toList) h
  simp only [cJ,qI] at h2
  rw [List.take_add] at h2
  have h3:=Yp h2
  apply Array.ext'
  rw [YT,List.extract_eq_drop_take,show k+w.length-k=w.length by omega]
  exact h3.symm
def Hit(W:Str)(R:List Int->Str->Prop)(p:Nat×Way):Prop:=∃t,R p.2.2 t/\pR W t p.1
structure Good(W:Str)(R:List Int->Str->Prop)(F:Frt):Prop where
 nd:(F.map (·.1)).Nodup
 hit:∀p∈F,Hit W R p
theorem Good.nil{W:Str}{R:List Int->Str->Prop}:Good W R []:=⟨Zf,fun _ h=>nomatch h⟩
theorem Good.mono{W:Str}{R R':List Int->Str->Prop}{F:Frt}(h:Good W R F)(k:∀c t,R c t->R' c t):Good W R' F:=⟨h.nd,fun p hp=>by
 obtain⟨t,h1,h2⟩:=h.hit p hp
 exact⟨t,k _ _ h1,h2⟩⟩
theorem wC:∀{F:Frt} {k:Nat},gS F k=none->k∉F.map (·.1)
 |[],_,_=>by simp
 | p::F,k,h=>by
  rw [gS] at h
  by_cases e:p.1=k
  ·rw [if_pos e] at h;cases h
  ·rw [if_neg e] at h
   simp only [Zb,Za,not_or]
   exact⟨fun z=>e z.symm,wC h⟩
theorem rW:∀(F:Frt) (k:Nat) (y:Way),(lE F k y).map (·.1)=F.map (·.1)
 |[],_,_=>rfl
 |p::F,k,y=>by
  rw [lE,Zb,Zb,rW F]
  by_cases e:p.1=k
  ·rw [if_pos e]
  ·rw [if_neg e]
theorem zr8:∀{F:Frt} {k:Nat} {y:Way} {p:Nat×Way},p∈lE F k y->p=(k,y)\/p∈F
 |[],_,_,_,h=>by cases h
 | q::F,k,y,p,h=>by
  rw [lE] at h
  rcases Za.mp h with e|e
  ·by_cases z:q.1=k
   ·rw [if_pos z,z] at e;exact .inl e
   ·rw [if_neg z] at e;exact .inr (by rw [e];exact Z0)
  ·exact(zr8 e).imp id (Z1 _)
theorem zh8{W:Str}{R:List Int->Str->Prop}{F:Frt}{k:Nat}{x:Way}(h:Good W R F)(hx:Hit W R (k,x)):Good W R (gT F k x):=by
 unfold gT
 cases e:gS F k with
 | none=>
  simp only
  refine⟨?_,fun p hp=> ?_⟩
  ·rw [ZX,Zz]
   refine⟨h.nd,by simp,fun a ha b hb z=> ?_⟩
   simp only [Zb,X9,ZB] at hb
   subst hb
   subst z
   exact wC e ha
  ·rcases ZE.mp hp with z|z
   ·exact h.hit p z
   ·rw [ZB.mp z];exact hx
 | some y=>
  simp only
  by_cases c:ltW x y=true
  ·rw [if_pos c]
   refine⟨by rw [rW];exact h.nd,fun p hp=> ?_⟩
   rcases zr8 hp with z|z
   ·rw [z];exact hx
   ·exact h.hit p z
  ·rw [if_neg c];exact h
theorem sK{W:Str}{R:List Int->Str->Prop}:∀{G F:Frt},Good W R F->(∀p∈G,Hit W R p)->Good W R (jH F G)
 |[],F,h,_=>h
 |p::G,F,h,hG=>sK (G:=G) (zh8 h (hG p Z0)) fun q hq=>hG q (Z1 _ hq)
def zm5(R:List Int->Str->Prop)(n:Int):List Int->Str->Prop:=fun cs t=>∃c0,R c0 t/\cs=c0++[n]
theorem uL{W:Str}{R:List Int->Str->Prop}{F:Frt}(h:Good W R F)(n:Int):Good W (zm5 R n) (jY F n):=sK .nil fun p hp=>by
 obtain⟨q,hq,rfl⟩:=Yc.mp hp
 obtain⟨t,h1,h2⟩:=h.hit q hq
 exact⟨t,⟨_,h1,rfl⟩,h2⟩
def Aft(R:List Int->Str->Prop)(set:List Int->Str->Option (List Int×Str)):List Int->Str->Prop:=fun cs t=>∃c0 t0 c1,R c0 t0/\cs=c0++c1/\set c1 t0=some ([],t)
theorem xq3(m:Int):lfB (nlw m)=true:=by
 unfold lfB nlw
 rw [cJ]
 exact Ze rfl
theorem xv2{w:Str}(h:(10:Nat)∉w.cps.toList):lfB w=false:=by
 unfold lfB
 refine Z5 fun e=>h (ZT e)
theorem yx4{W:Str}{b:Bool}{m:Int}{l:Leaf}{k:Nat}{c:Unit}{s:Nat×Unit}{t:Str}(hc:pR W t k)(h:jC W b m l k c=some s):∃w,wr b m (col t) l=some w/\pR W (t++w) s.1:=by
 unfold jC at h
 obtain⟨rfl,hk⟩:=hc
 cases e:wr b m (cT W k) l with
 |none=>rw [e] at h;cases h
 | some w=>
  rw [e,Z6] at h
  refine⟨w,e,?_⟩
  by_cases z:Txt.startswith3 W w (k:Int)=true
  ·rw [if_pos z] at h
   cases h
   obtain⟨z1,z2⟩:=(uK hk).mp z
   exact⟨z2,z1⟩
  ·rw [if_neg z] at h;cases h
theorem zO{W:Str}{R:List Int->Str->Prop}{b:Bool}{m:Int}{l:Leaf}(hl:fE l)(h0:0<=m)(h1:m<=200):∀{F G:Frt},(∀p∈F,Hit W R p)->Good W (Aft R (cH b m (.leaf l))) G->Good W (Aft R (cH b m (.leaf l))) (jI W b m l F G)
 |[],G,_,hG=>hG
 | p::F,G,hF,hG=>by
  have key:Good W (Aft R (cH b m (.leaf l))) (match jC W b m l p.1 p.2.1 with|none=>G|some s=>gT G s.1 (s.2,p.2.2)):=by
   cases e:jC W b m l p.1 p.2.1 with
   |none=>exact hG
   |some s=>
    obtain⟨t,r1,r2⟩:=hF p Z0
    obtain⟨w,e1,e2⟩:=yx4 r2 e
    exact zh8 (x:=(s.2,p.2.2)) hG ⟨t++w,⟨_,t,[],r1,by simp,by rw [cH,e1];rfl⟩,e2⟩
  exact zO (F:=F) hl h0 h1 (fun q hq=>hF q (Z1 _ hq)) key
theorem xj7{b:Bool}{m:Int}{p:Pc}{i:Nat}{x:List Pc×Bool×Int}(hx:(cP b m p)[i]? =some x)(c:List Int)(t:Str):cH b m p ((if cZ b p=true then [(i:Int)] else [])++c) t=setR x.2.1 x.2.2 x.1 c t:=by
 cases p with
 |leaf l=>simp [cP] at hx
 | group r=>
  rw [cH.eq_def]
  cases b with
  | false=>
   have e:i=0:=by
    cases i with
    |zero=>rfl
    |succ i=>simp [cP] at hx
   subst e
   simp [cP] at hx
   subst hx
   simp [cZ]
  |true=>
   match i,hx with
   |0,hx=>simp [cP] at hx;subst hx;simp [cZ]
   |1,hx=>simp [cP] at hx;subst hx;simp [cZ]
   |i+2,hx=>simp [cP] at hx
 | hang n r=>
  have e:i=0:=by
   cases i with
   |zero=>rfl
   |succ i=>simp [cP] at hx
  subst e
  simp [cP] at hx
  subst hx
  simp [cZ,cH]
 |either rs=>
  have hx':(rs.map fun r=>(r,b,m))[i]? =some x:=hx
  rw [Zi] at hx'
  obtain⟨r,hr,rfl⟩:=Zl.mp hx'
  rw [cH.eq_def]
  simp only [cZ,ZW,ZU,Y2]
  rw [if_pos (by omega)]
  exact oU (by simpa using hr)
def oE(W:Str)(GR:Bool->Int->List Pc->Frt->Frt)(r:List Pc):Prop:=∀(b:Bool) (m:Int) (R:List Int->Str->Prop) (F:Frt),0<=m->m+12*depR r<=200->Good W R F->Good W (Aft R (setR b m r)) (GR b m r F)
theorem zh9{W:Str}{GR:Bool->Int->List Pc->Frt->Frt}{R:List Int->Str->Prop}{b:Bool}{m:Int}{p:Pc}{F:Frt}(hF:Good W R F):∀(xs:List (List Pc×Bool×Int)) (n:Nat) (A:Frt),(∀(i:Nat) x,xs[i]? =some x->(cP b m p)[n+i]? =some x)->(∀x∈xs,0<=x.2.2/\x.2.2+12*depR x.1<=200/\oE W GR x.1)->
  Good W (Aft R (cH b m p)) A->Good W (Aft R (cH b m p)) (frW GR (cZ b p) F n xs A)
 |[],n,A,_,_,hA=>hA
 | x::xs,n,A,hi,hx,hA=>by
  rw [frW]
  refine zh9 hF xs (n+1) _ (fun i y hy=>by have:=hi (i+1) y (by simpa using hy);rwa [show n+1+i=n+(i+1) by omega]) (fun y hy=>hx y (Z1 _ hy)) (sK hA ?_)
  obtain⟨h0,h1,hG⟩:=hx x Z0
  have hw:=fun c t=>xj7 (hi 0 x rfl) c t
  rw [Xb] at hw
  by_cases tk:cZ b p=true
  ·rw [if_pos tk]
   simp only [tk,ZW] at hw
   intro q hq
   obtain⟨t,⟨c0,t0,c1,⟨c,r1,rfl⟩,e1,e2⟩,hc⟩:=(hG x.2.1 x.2.2 _ _ h0 h1 (uL hF n)).hit q hq
   exact⟨t,⟨c,t0,n::c1,r1,by rw [e1];simp,by rw [<-e2,<-hw];rfl⟩,hc⟩
  ·rw [if_neg tk]
   simp only [tk,ZV,Yz,Y2] at hw
   intro q hq
   obtain⟨t,⟨c0,t0,c1,r1,e1,e2⟩,hc⟩:=(hG x.2.1 x.2.2 _ _ h0 h1 hF).hit q hq
   exact⟨t,⟨c0,t0,c1,r1,e1,by rw [<-e2,<-hw]⟩,hc⟩
theorem yM{b:Bool}{m:Int}{p:Pc}{x:List Pc×Bool×Int}{k:Nat}(ho:okP p)(h0:0<=m)(h1:m+12*cX p<=200)(hk:cX p<=k)(hx:x∈cP b m p):0<=x.2.2/\x.2.2+12*depR x.1<=200/\depR x.1<k/\okR x.1:=by
 cases p with
 |leaf l=>simp [cP] at hx
 | group r=>
  rw [cX] at h1 hk
  have hr:okR r:=ho
  have:x.1=r/\x.2.2=m:=by
   cases b<;>simp [cP] at hx
   ·subst hx;exact⟨rfl,rfl⟩
   ·rcases hx with e|e<;>subst e<;>exact⟨rfl,rfl⟩
  rw [this.1,this.2]
  exact⟨h0,by omega,by omega,hr⟩
 |hang n r=>
  rw [cX] at h1 hk
  have hr:(0<=n/\n<=12)/\okR r:=ho
  simp [cP] at hx
  subst hx
  exact⟨by show 0<=m+n;omega,by show m+n+12*(depR r:Int)<=200;omega,by show depR r<k;omega,hr.2⟩
 |either rs=>
  rw [cX] at h1 hk
  have hr:(2<=rs.length/\rs.length<=4)/\okRs rs:=ho
  obtain⟨r,hm,rfl⟩:=Yc.mp (show x∈rs.map fun r=>(r,b,m) from hx)
  obtain⟨i,hi⟩:=YU hm
  have:=rV hi
  exact⟨h0,by show m+12*(depR r:Int)<=200;omega,by show depR r<k;omega,uJ hr.2 hi⟩
theorem uM{W:Str}{GR:Bool->Int->List Pc->Frt->Frt}{k:Nat}(hG:∀r,depR r<k->okR r->oE W GR r){R:List Int->Str->Prop}{b:Bool}{m:Int}{p:Pc}{F:Frt}(hk:cX p<=k)(ho:okP p)(h0:0<=m)(h1:m+12*cX p<=200)(hF:Good W R F):Good W (Aft R (cH b m p)) (frP W GR b m F p):=by
 have hold:Good W (Aft R (cH b m p)) (frW GR (cZ b p) F 0 (cP b m p) []):=zh9 hF _ 0 [] (fun i x h=>by rwa [Yt]) (fun x hx=>by
  obtain⟨a1,a2,a3,a4⟩:=yM ho h0 h1 hk hx
  exact⟨a1,a2,hG x.1 a3 a4⟩) .nil
 cases p with
 |leaf l=>exact zO ho h0 (by rw [cX] at h1;omega) hF.hit .nil
 |group r=>exact hold
 |hang n r=>exact hold
 |either rs=>exact hold
theorem zi0{W:Str}{GR:Bool->Int->List Pc->Frt->Frt}{k:Nat}(hG:∀r,depR r<k->okR r->oE W GR r){b:Bool}{m:Int}(h0:0<=m):∀{r:List Pc} {R:List Int->Str->Prop} {F:Frt},depR r<=k->okR r->m+12*depR r<=200->Good W R F->Good W (Aft R (setR b m r)) (r.foldl (fun F p=>frP W GR b m F p) F)
 |[],R,F,_,_,_,hF=>hF.mono fun c t h=>⟨c,t,[],h,by simp,by rw [setR]⟩
 |p::r,R,F,hk,ho,h1,hF=>by
  rw [depR] at hk h1
  have hp:=uM hG (b:=b) (show cX p<=k by omega) ho.1 h0 (by omega) hF
  refine(zi0 hG h0 (r:=r) (by omega) ho.2 (by omega) hp).mono fun c t=> ?_
  rintro⟨c0,t0,c2,⟨d0,s0,c1,r1,rfl,e1⟩,rfl,e2⟩
  refine⟨d0,s0,c1++c2,r1,by simp,?_⟩
  rw [setR,rT c2 e1]
  exact e2
theorem uN{W:Str}:∀(n:Nat) (r:List Pc),depR r<n->okR r->oE W (frN W n) r
 |0,_,h,_=>absurd h (Yl _)
 |n+1,r,h,ho=>fun b m R F h0 h1 hF=>by
  rw [frN]
  exact zi0 (fun q h1 h2=>uN n q h1 h2) h0 (by omega) ho h1 hF
theorem yg0(W:Str):pR W ⟨#[]⟩ 0:=⟨rfl,ZH _⟩
theorem zP{W:Str}{n:Nat}{r:List Pc}(hd:depR r<n)(ho:okR r)(h1:12*(depR r:Int)<=200):Good W (fun cs t=>setR true 0 r cs ⟨#[]⟩=some ([],t)) (frN W n true 0 r [(0,((),[]))]):=by
 have g0:Good W (fun cs t=>cs=[]/\t=⟨#[]⟩) [(0,((),[]))]:=⟨by simp,fun p hp=>by
  rw [ZB.mp hp];exact⟨_,⟨rfl,rfl⟩,yg0 W⟩⟩
 refine(uN n r hd ho true 0 _ _ (Y9 _) (by omega) g0).mono fun c t=> ?_
 rintro⟨c0,t0,c1,⟨rfl,rfl⟩,rfl,e⟩
 exact e
abbrev nsF:List Str:=["steps","best"]
def cS(W:Str):D:= .obj false "AlongText" ["text"] [.str W]
def wyD(x:Way):D:= .tup [.tup [],.tup (bV x.2)]
def dP(W:Str)(k:Nat):List Key:=[.inl (k:Int),.inl (cT W k:Int)]
theorem zr9{W:Str}{j k:Nat}(h:dP W j=dP W k):j=k:=by
 unfold dP at h
 have:=Sum.inl.inj (List.cons.inj h).1
 omega
def dU(W:Str)(F:Frt):List (List Key):=F.map fun p=>dP W p.1
def eK(F:Frt):List D:=F.map fun p=>wyD p.2
def aL(o:Bool)(W:Str)(F:Frt):D:= .obj o "Front" nsF [cS W,.dit o (dU W F) (eK F)]
theorem tG(x:Way):(wyD x).imm=true:=by
 have:=jL x.2
 simp! [iM,jT,D.key,qD,oI,qC,wyD,this]
theorem rC:∀F:Frt,D.imms (eK F)=true
 |[]=>rfl
 |p::F=>by
  show(D.imm (wyD p.2)&&D.imms (eK F))=true
  rw [tG,rC F];rfl
theorem wD(W:Str)(F:Frt):(aL false W F).imm=true:=by
 have:=rC F
 simp! [iM,jT,D.key,qD,oI,qC,aL,cS,this]
theorem yx5(W:Str)(F:Frt):(dU W F).length=F.length:=Zc _
theorem nE(W:Str):∀(F:Frt) (k:Nat),iC (dU W F) (eK F) (dP W k)=(gS F k).map wyD
 |[],_=>rfl
 |p::F,k=>by
  show iC (dP W p.1::dU W F) (wyD p.2::eK F) _=_
  rw [iC,gS]
  by_cases e:p.1=k
  ·rw [if_pos e,if_pos (by rw [e])];rfl
  ·rw [if_neg e,if_neg (fun z=>e (zr9 z)),nE W F k]
theorem zQ(W:Str):∀(F:Frt) (k:Nat) (x:Way),pP (dU W F) (eK F) (dP W k) (wyD x)=eK (lE F k x)
 |[],_,_=>rfl
 |p::F,k,x=>by
  show pP (dP W p.1::dU W F) (wyD p.2::eK F) _ _=_
  rw [pP,zQ W F,lE]
  by_cases e:p.1=k
  ·rw [if_pos e,if_pos (by rw [e])];rfl
  ·rw [if_neg e,if_neg (fun z=>e (zr9 z))];rfl
theorem yp7(W:Str)(F:Frt)(k:Nat)(x:Way):dU W (lE F k x)=dU W F:=by
 unfold dU
 have:=ZS (List.map fun(k:Nat)=>dP W k) (rW F k x)
 rw [Yu,Yu] at this
 exact this
theorem xj8(x y:Way):zu8 (wyD x) (wyD y)=some (.bl (ltW x y)):=by
 unfold wyD zu8 ltW
 simp! [iM,jT,D.key,qD,oI,qC,D.intss,D.ints,yp5]
abbrev lF:tz7:=gE 2 0 (cI [true,false]) pQ
theorem xq4(W:Str):lF [.obj true "Front" [] [],cS W]=some (.non,[aL true W [],cS W]):=by
 have e:aL true W []= .obj true "Front" nsF [cS W,.dit true [] []]:=rfl
 have h:(cS W).imm=true:=rfl
 rw [e]
 generalize cS W=w at h|-
 simp! [iM,jT,D.key,qD,oI,qC,pQ,h]
theorem uO{p:PSt}{f:tz2}{W:Str}(h:f p=some (cS W)):eX "Front" (cV [.im f]) lF p=some (aL true W []):=by
 have hi:(cS W).imm=true:=rfl
 have i:=xq4 W
 generalize lF=G at i|-
 generalize aL true W []=X at i|-
 generalize cS W=w at h hi i|-
 unfold eX
 rw [cR h hi fX,Z6,i]
 rfl
abbrev mF:tz7:=gE 3 0 (cI [true,false,false]) lD
theorem xq5{W:Str}{F:Frt}{k:Nat}{x:Way}(hl:F.length<=9000000):mF [aL true W F,.kt (dP W k),wyD x]=some (.non,[aL true W (gT F k x),.kt (dP W k),wyD x]):=by
 have g:=nE W F k
 have hx:=tG x
 have hv:=rC F
 have hz:(dU W F).length<sizeLine:=by rw [yx5,ZZ];omega
 unfold gT
 cases e:gS F k with
 | none=>
  rw [e] at g
  have e1:aL true W (F++[(k,x)])= .obj true "Front" nsF [cS W,.dit true (dU W F++[dP W k]) (eK F++[wyD x])]:=by
   unfold aL dU eK
   rw [ZX,ZX];rfl
  simp only
  rw [e1]
  unfold aL
  generalize dU W F=ks at*
  generalize eK F=vs at*
  generalize wyD x=X at*
  generalize dP W k=kk at*
  generalize cS W=w at*
  simp only [Option.map_none] at g
  simp! [iM,jT,D.key,qD,oI,qC,lD,g,hx,hv,hz]
 | some y=>
  rw [e] at g
  have l:=xj8 x y
  have pv:=zQ W F k x
  have ks:=yp7 W F k x
  simp only [Option.map_some] at g
  by_cases c:ltW x y=true
  ·rw [c] at l
   simp only [c,ZW]
   have e1:aL true W (lE F k x)= .obj true "Front" nsF [cS W,.dit true (dU W F) (eK (lE F k x))]:=by unfold aL;rw [ks]
   rw [e1,<-pv]
   unfold aL
   generalize dU W F=ks at*
   generalize eK F=vs at*
   generalize wyD x=X at*
   generalize wyD y=Y at*
   generalize dP W k=kk at*
   generalize cS W=w at*
   simp! [iM,jT,D.key,qD,oI,qC,lD,g,hx,hv,hz,l]
  ·rw [YK] at c
   rw [c] at l
   simp only [c,ZV,Yz]
   unfold aL
   generalize dU W F=ks at*
   generalize eK F=vs at*
   generalize wyD x=X at*
   generalize wyD y=Y at*
   generalize dP W k=kk at*
   generalize cS W=w at*
   simp! [iM,jT,D.key,qD,oI,qC,lD,g,hx,hv,hz,l]
theorem yp8{g:tz7}{m:Str}{W:Str}{F:Frt}{ys:List D}{N v:D}(hm:cY nsF m=none)(h:g (aL true W F::ys)=some (v,N::ys)):iR "Front" m g ys (aL true W F)=some (v,N):=by
 show(if (("Front":Str)="Front"/\cY nsF m=none) then(g (aL true W F::ys)).bind _ else none)=_
 rw [if_pos ⟨rfl,hm⟩,h]
 show(if ys.length=ys.length then some (v,N) else none)=_
 rw [if_pos rfl]
theorem zs0:∀(F:Frt) (k:Nat) (x:Way),(lE F k x).length=F.length
 |[],_,_=>rfl
 |p::F,k,x=>by rw [lE,Z4,Z4,zs0 F]
theorem uP(F:Frt)(k:Nat)(x:Way):(gT F k x).length<=F.length+1:=by
 unfold gT
 cases gS F k with
 |none=>simp
 |some y=>
  simp only
  split
  ·rw [zs0];omega
  ·omega
theorem zR:∀(G F:Frt),(jH F G).length<=F.length+G.length
 |[],F=>Z9 _
 |p::G,F=>by
  have h1:=zR G (gT F p.1 p.2)
  have h2:=uP F p.1 p.2
  show(jH (gT F p.1 p.2) G).length<=_
  rw [Z4];omega
theorem rD:∀{F:Frt} {p:Nat×Way},(F.map (·.1)).Nodup->p∈F->gS F p.1=some p.2
 |[],_,_,h=>by cases h
 | q::F,p,nd,h=>by
  rw [Zb,Zp] at nd
  rw [gS]
  rcases Za.mp h with e|e
  ·rw [e,if_pos rfl]
  ·rw [if_neg (fun z=>nd.1 (by rw [z];exact YA e))]
   exact rD nd.2 e
theorem yN{p:PSt}{f:tz2}{o:Bool}{W:Str}{F:Frt}(h:f p=some (aL o W F)):dG "Front" "best" f p=some (.dit o (dU W F) (eK F)):=by
 unfold dG
 rw [h,Z6]
 unfold aL
 generalize cS W=w
 simp [zu6,cY,gN]
theorem rX{p:PSt}{f:tz2}{o:Bool}{W:Str}{F:Frt}(h:f p=some (aL o W F)):dG "Front" "steps" f p=some (cS W):=by
 unfold dG
 rw [h,Z6]
 unfold aL
 generalize cS W=w
 simp [zu6,cY,gN]
def za9(W:Str)(F:Frt):List D:=F.map fun q=> .kt (dP W q.1)
theorem yp9(W:Str)(F:Frt):(dU W F).map D.kt=za9 W F:=by
 unfold dU za9
 rw [Yu];rfl
theorem zz2(W:Str)(F:Frt):(D.dit false (dU W F) (eK F)).imm=true:=by
 have:=rC F
 simp [D.imm,this]
theorem zd7{p:PSt}{f:tz2}{W:Str}{F:Frt}(h:f p=some (aL false W F)):tR (aZ (dG "Front" "best" f)) p=some (za9 W F):=by
 unfold tR
 rw [cF (yN h) (zz2 W F),Z6,<-yp9];rfl
theorem zs1{p:PSt}{f g:tz2}{W:Str}{F:Frt}{k:Nat}{x:Way}(h:f p=some (aL false W F))(hg:g p=some (.kt (dP W k)))(hx:gS F k=some x):f2 jT (dG "Front" "best" f) g p=some (wyD x):=by
 refine aM (yN h) hg ?_
 show iC (dU W F) (eK F) (dP W k)=_
 rw [nE,hx];rfl
theorem zz3{j:Nat}{g:tz3}{h:List D->D->Option (D×D)}{p:PSt}{d0 d0' r:D}{ys:List D}(h0:p[j]? =some (some d0))(hg:g p=some ys)(hh:h ys d0=some (r,d0')):dY j cA g h p=some (r,p.set j (some d0')):=by
 unfold dY cA
 rw [h0]
 simp only [YL,Z6,hg,fS,hh]
theorem xI{j:Nat}{p:PSt}{f g:tz2}{W:Str}{F:Frt}{k:Nat}{x:Way}(h0:p[j]? =some (some (aL true W F)))(hf:f p=some (.kt (dP W k)))(hg:g p=some (wyD x))(hl:F.length<=9000000):
  dA (dY j cA (cV [.im f,.im g]) (iR "Front" "add" mF)) p=some (.nx,p.set j (some (aL true W (gT F k x)))):=
 qZ (zz3 h0 (cR hf rfl (cR hg (tG x) fX)) (yp8 (by simp [cY,gN]) (xq5 hl)))
theorem xJ{W:Str}{i N:Nat}{f:tz1}(S:Nat->Frt->PSt->Prop)(st:Frt->Nat×Way->Frt):∀{L:Frt} {p:PSt} {n:Nat} {A:Frt},n+L.length<=N->S n A p->(∀n A p q,n<N->q∈L->S n A p->∃p',f (p.set i (some (.kt (dP W q.1))))=some (.nx,p')/\S (n+1) (st A q) p')->∃p',dM i f (za9 W L) p=some (.nx,p')/\S (n+L.length) (L.foldl st A) p'
 |[],p,n,A,_,h,_=>⟨p,rfl,h⟩
 |q::L,p,n,A,hn,h,hs=>by
  rw [Z4] at hn
  obtain⟨p1,e1,h1⟩:=hs n A p q (by omega) Z0 h
  obtain⟨p2,e2,h2⟩:=xJ (W:=W) S st (L:=L) (n:=n+1) (by omega) h1 fun n A p r h1 hr=>hs n A p r h1 (Z1 _ hr)
  refine⟨p2,?_,by rw [Z4,show n+(L.length+1)=n+1+L.length by omega];exact h2⟩
  show dM i f (.kt (dP W q.1)::za9 W L) p=_
  rw [dM,e1]
  exact e2
theorem mS{i:Nat}{fi:tz3}{f:tz1}{p p':PSt}{ds:List D}(h:fi p=some ds)(e:dM i f ds p=some (.nx,p')):gF i fi f p=some (.nx,p'):=by
 unfold gF
 rw [h];exact e
abbrev yh6:tz7:=gE 2 1 (cI [true,false]) (jX mF)
theorem xq6{W:Str}{F G:Frt}(nd:(G.map (·.1)).Nodup)(hl:F.length+G.length<=9000000):yh6 [aL true W F,aL false W G]=some (.non,[aL true W (jH F G),aL false W G]):=by
 obtain⟨p',e,_,z,rfl⟩:=xJ (W:=W) (i:=2) (N:=G.length) (f:=dA (dY 0 cA (cV [.im (aB 2),.im (f2 jT (dG "Front" "best" (aB 1)) (aB 2))]) (iR "Front" "add" mF)))
  (fun n A p=>A.length<=F.length+n/\∃z,p=[some (aL true W A),some (aL false W G),z]) (fun A q=>gT A q.1 q.2) (L:=G) (p:=[some (aL true W F),some (aL false W G),none]) (n:=0) (A:=F) (by omega) ⟨Z9 _,none,rfl⟩
  (by
   rintro n A p q hn hq ⟨hA,z,rfl⟩
   refine⟨_,xI (j:=0) (F:=A) (W:=W) (k:=q.1) (x:=q.2) rfl rfl (zs1 (F:=G) (W:=W) rfl rfl (rD nd hq)) (by omega),?_,_,rfl⟩
   have:=uP A q.1 q.2
   omega)
 have e2:=mS (i:=2) (zd7 (f:=aB 1) (W:=W) (F:=G) (p:=[some (aL true W F),some (aL false W G),none]) rfl) e
 show gE 2 1 _ (jX mF) _=_
 have e3:jX mF ([aL true W F,aL false W G].map some++List.replicate 1 none)=some (.nx,[some (aL true W (jH F G)),some (aL false W G),z]):=e2
 unfold gE
 rw [if_pos (show [aL true W F,aL false W G].length=2 from rfl),e3]
 rfl
theorem iI{np n:Nat}{f:tz1}{ds:List D}{d:D}(hl:ds.length=np)(h:∃q,f (ds.map some++List.replicate n none)=some (.ret d,q)):gP np n f ds=some d:=h.elim fun _ e=>kA hl e
theorem kQ{f g:tz1}{p:PSt}{d:D}(h:∃q,f p=some (.ret d,q)):∃q,aR f g p=some (.ret d,q):=h.elim fun q e=>⟨q,dO e⟩
theorem yg1(F:Frt)(n:Int):jY F n=F.foldl (fun A q=>gT A q.1 (q.2.1,q.2.2++[n])) []:=by
 unfold jY jH
 rw [List.foldl_map];rfl
theorem zz4{p:PSt}{i:Nat}{x:Way}(h:p[i]? =some (some (wyD x))):f2 dIx (aB i) (fC (.int 0)) p=some (.tup []):=aM (lM h) rfl (kE _ _)
theorem zz5{p:PSt}{i:Nat}{x:Way}(h:p[i]? =some (some (wyD x))):f2 dIx (aB i) (fC (.int 1)) p=some (.tup (bV x.2)):=aM (lM h) rfl (eO _ _ _)
theorem zs2{p:PSt}{f g:tz2}{x:Way}(h1:f p=some (.tup []))(h2:g p=some (.tup (bV x.2))):aX (aA f (aA g aE)) p=some (wyD x):=
 cW (aD h1 (aD h2 rfl)) (tG x) (by simp)
theorem yx6{p:PSt}{i j:Nat}{x:Way}{n:Int}(h:p[i]? =some (some (wyD x)))(hn:p[j]? =some (some (.int n)))(hl:x.2.length<=900):aX (aA (aZ (f2 dIx (aB i) (fC (.int 0)))) (aA (f2 bJ (f2 dIx (aB i) (fC (.int 1))) (aX (aA (aZ (aB j)) aE))) aE)) p=some (wyD (x.1,x.2++[n])):=by
 refine zs2 (x:=(x.1,x.2++[n])) (cF (zz4 (x:=x) h) rfl) (aM (zz5 (x:=x) h) (cW (aD (cF (lM hn) rfl) rfl) rfl (by simp)) ?_)
 show(if (bV x.2).length+[D.int n].length<=sizeLine then some (D.tup (bV x.2++[.int n])) else none)=_
 rw [if_pos (by rw [jK];exact sz (by show x.2.length+1<=1000;omega)),wB];rfl
abbrev zb0:tz6:=gP 2 3 (rJ lF mF)
theorem yx7{W:Str}{F:Frt}{n:Int}(nd:(F.map (·.1)).Nodup)(hl:F.length<=9000000)(hc:∀q∈F,q.2.2.length<=900):zb0 [aL false W F,.int n]=some (aL true W (jY F n)):=by
 have s1:aS 2 (aH (eX "Front" (cV [.im (dG "Front" "steps" (aB 0))]) lF)) [some (aL false W F),some (.int n),none,none,none]=some (.nx,[some (aL false W F),some (.int n),some (aL true W []),none,none]):=bF (uO (rX (f:=aB 0) (F:=F) rfl))
 obtain⟨p',e,_,y,z,rfl⟩:=xJ (W:=W) (i:=3) (N:=F.length) (f:=aR (aS 4 (aH (aZ (f2 jT (dG "Front" "best" (aB 0)) (aB 3))))) (dA (dY 2 cA (cV [.im (aB 3),.im (aX (aA (aZ (f2 dIx (aB 4) (fC (.int 0)))) (aA (f2 bJ (f2 dIx (aB 4) (fC (.int 1))) (aX (aA (aZ (aB 1)) aE))) aE)))]) (iR "Front" "add" mF))))
  (fun k A p=>A.length<=k/\∃y z,p=[some (aL false W F),some (.int n),some (aL true W A),y,z]) (fun A q=>gT A q.1 (q.2.1,q.2.2++[n])) (L:=F) (p:=[some (aL false W F),some (.int n),some (aL true W []),none,none]) (n:=0) (A:=[]) (by omega) ⟨Z9 _,none,none,rfl⟩
  (by
   rintro k A p q hk hq ⟨hA,y,z,rfl⟩
   refine⟨_,(aK (bF (cF (zs1 (F:=F) (W:=W) (k:=q.1) rfl rfl (rD nd hq)) (tG q.2)))).trans (xI (j:=2) (F:=A) (W:=W) (k:=q.1) (x:=(q.2.1,q.2.2++[n])) rfl rfl (yx6 rfl rfl (hc q hq)) (by omega)),?_,_,_,rfl⟩
   have:=uP A q.1 (q.2.1,q.2.2++[n])
   omega)
 refine iI rfl (bL s1 (bL (mS (i:=3) (zd7 (f:=aB 0) (W:=W) (F:=F) rfl) e) ?_))
 rw [yg1]
 exact⟨_,rfl⟩
theorem yx8{p:PSt}{f:tz2}{W:Str}(h:f p=some (cS W)):dG "AlongText" "text" f p=some (.str W):=by
 unfold dG
 rw [h,Z6]
 simp [cS,zu6,cY]
theorem yx9(k:Nat)(w:Str)(hz:w.length<=1000):ze8 [.int (k:Int),.str w]=some (.int ((if lfB w=true then w.length-1 else k+w.length:Nat):Int)):=by
 have q:=xj4 w
 have hs:w.length<=sizeLine:=sz hz
 show gP 2 0 (gH zm4) _=_
 unfold lfB
 generalize zm4=G at q|-
 by_cases c:w.cps.toList[0]? =some 10
 ·rw [Ze c] at q|-
  have h1:1<=w.length:=by
   rw [eP]
   have:=(Z7.mp c).1
   omega
  rw [if_pos rfl,show((w.length-1:Nat):Int)=(w.length:Int)-1 by omega]
  simp! [gH,q,hs]
 ·rw [Z5 c] at q|-
  rw [if_neg Z8]
  simp! [gH,q,hs]
def zm6(W:Str):Option (Nat×Unit)->D
 |none=> .non
 |some s=> .tup [.kt (dP W s.1),.tup []]
theorem xv3{W w:Str}{b:Bool}{m:Int}{l:Leaf}{k:Nat}(hl:fE l)(h0:0<=m)(h1:m<=200)(hk:k<=W.length)(e:wr b m (cT W k) l=some w)(hw:Txt.startswith3 W w (k:Int)=true):(if lfB w=true then w.length-1 else cT W k+w.length:Nat)=cT W (k+w.length):=by
 obtain⟨z1,z2⟩:=(uK hk).mp hw
 unfold cT
 rw [<-z2]
 rcases(zk9 hl h0 h1 e).1 with hn|⟨m',hn⟩
 ·rw [xv2 hn,if_neg Z8,zd4 hn]
 ·subst hn
  rw [xq3,if_pos rfl]
  unfold nlw
  rw [zr6 (yp0 m'),eI]
  show 1+_-1=_
  omega
abbrev zm7:tz6:=gP 5 1 (kK yP ze8)
theorem xj9{W:Str}{b:Bool}{m:Int}{l:Leaf}{k:Nat}{c:Unit}(hW:W.length<=900000)(hl:fE l)(h0:0<=m)(h1:m<=200)(hk:k<=W.length):zm7 [cS W,.kt (dP W k),.tup [],bU l,aW b m]=some (zm6 W (jC W b m l k c)):=by
 have hs:sizeLine=16777216:=ZZ
 have hck:cT W k<=1000000:=by
  unfold cT
  have:=xq1 (hdT W k)
  rw [yp6 hk] at this
  omega
 have q1:=yf9 l b m (cT W k) hl h0 h1 hck
 have u0:∀P5,f2 dIx (fUn (aB 1)) (fC (.int 0)) [some (cS W),some (.kt (dP W k)),some (.tup []),some (bU l),some (aW b m),P5]=some (.int (k:Int)):=fun _=>aM (x:= .tup [.int (k:Int),.int (cT W k:Int)]) rfl rfl (kE _ _)
 have u1:∀P5,f2 dIx (fUn (aB 1)) (fC (.int 1)) [some (cS W),some (.kt (dP W k)),some (.tup []),some (bU l),some (aW b m),P5]=some (.int (cT W k:Int)):=fun _=>aM (x:= .tup [.int (k:Int),.int (cT W k:Int)]) rfl rfl (eO _ _ _)
 have s1:aS 5 (aH (aJ yP (aA (aB 3) (aA (aB 4) (aA (f2 dIx (fUn (aB 1)) (fC (.int 1))) aE))))) [some (cS W),some (.kt (dP W k)),some (.tup []),some (bU l),some (aW b m),none]=some (.nx,[some (cS W),some (.kt (dP W k)),some (.tup []),some (bU l),some (aW b m),some (wrD (wr b m (cT W k) l))]):=bF (aT (aD rfl (aD rfl (aD (u1 _) rfl))) q1)
 unfold jC
 cases e:wr b m (cT W k) l with
 |none=>
  rw [e] at s1
  exact iI rfl (bL s1 (kQ ⟨_,(bD (xc4 (cU (aM rfl rfl rfl)))).trans (bS rfl)⟩))
 | some w=>
  rw [e] at s1
  obtain⟨_,hz⟩:=zk9 hl h0 h1 e
  rw [Z6]
  have st:fT (fMt sC (dG "AlongText" "text" (aB 0)) (aA (aB 5) (aA (f2 dIx (fUn (aB 1)) (fC (.int 0))) aE))) [some (cS W),some (.kt (dP W k)),some (.tup []),some (bU l),some (aW b m),some (.str w)]=some (Txt.startswith3 W w (k:Int)):=by
   refine iH ?_
   unfold fMt
   rw [yx8 (W:=W) rfl,Z6,aD (d:= .str w) rfl (aD (u0 _) (show aE _=some [] from rfl)),Z6]
   rfl
  by_cases z:Txt.startswith3 W w (k:Int)=true
  ·rw [if_pos z]
   rw [z] at st
   have q2:=yx9 (cT W k) w (by omega)
   rw [xv3 hl h0 h1 hk e z] at q2
   refine iI rfl (bL s1 (bL (aU (lN (cU (aM rfl rfl rfl)) (gQ st))) ⟨_,bS (cW (aD (d:= .kt (dP W (k+w.length))) ?_ (aD (cF rfl rfl) rfl)) rfl (by simp))⟩))
   have a1:f2 bJ (f2 dIx (fUn (aB 1)) (fC (.int 0))) (aJ cN (aA (aB 5) aE)) [some (cS W),some (.kt (dP W k)),some (.tup []),some (bU l),some (aW b m),some (.str w)]=some (.int ((k+w.length:Nat):Int)):=aM (u0 _) (aT (aD rfl rfl) (if_pos (by omega))) (by show some (D.int ((k:Int)+(w.length:Int)))=_;rw [show((k:Int)+(w.length:Int))=((k+w.length:Nat):Int) by omega])
   have a2:=aT (h:=ze8) (aD (u1 (some (.str w))) (aD (f:=aB 5) (d:= .str w) (g:=aE) rfl rfl)) q2
   unfold fKt
   show((aA _ (aA _ aE) [some (cS W),some (.kt (dP W k)),some (.tup []),some (bU l),some (aW b m),some (.str w)]).bind _)=_
   rw [aD a1 (aD a2 (show aE _=some [] from rfl))]
   rfl
  ·rw [if_neg z]
   rw [YK] at z
   rw [z] at st
   exact iI rfl (bL s1 (kQ ⟨_,(bD (lN (cU (aM rfl rfl rfl)) (gQ st))).trans (bS rfl)⟩))
abbrev xR:tz6:=gP 3 4 (pV lF zm7 mF)
theorem yq0{W:Str}{F:Frt}{b:Bool}{m:Int}{l:Leaf}(hW:W.length<=900000)(hl:fE l)(h0:0<=m)(h1:m<=200)(nd:(F.map (·.1)).Nodup)(hF:F.length<=9000000)(hk:∀q∈F,q.1<=W.length):
  xR [aL false W F,bU l,aW b m]=some (aL true W (jI W b m l F [])):=by
 have s1:aS 3 (aH (eX "Front" (cV [.im (dG "Front" "steps" (aB 0))]) lF)) [some (aL false W F),some (bU l),some (aW b m),none,none,none,none]=some (.nx,[some (aL false W F),some (bU l),some (aW b m),some (aL true W []),none,none,none]):=bF (uO (rX (f:=aB 0) (F:=F) rfl))
 obtain⟨p',e,_,x,y,z,rfl⟩:=xJ (W:=W) (i:=4) (N:=F.length) (f:=aR (aS 5 (aH (aZ (f2 jT (dG "Front" "best" (aB 0)) (aB 4)))))
  (aR (aS 6 (aH (aJ zm7 (aA (tT "AlongText" "state_behind" (dG "Front" "steps" (aB 0))) (aA (aB 4) (aA (f2 dIx (aB 5) (fC (.int 0))) (aA (aB 1) (aA (aB 2) aE))))))))
  (fIf (aY (fB (f2 tL (aB 6) (fC .non)))) (dA (dY 3 cA (cV [.im (f2 dIx (aB 6) (fC (.int 0))),.im (aX (aA (aZ (f2 dIx (aB 6) (fC (.int 1)))) (aA (aZ (f2 dIx (aB 5) (fC (.int 1)))) aE)))]) (iR "Front" "add" mF))) bP)))
  (fun k A p=>A.length<=k/\∃x y z,p=[some (aL false W F),some (bU l),some (aW b m),some (aL true W A),x,y,z]) (fun G p=>match jC W b m l p.1 p.2.1 with
   |none=>G
   |some s=>gT G s.1 (s.2,p.2.2)) (L:=F) (p:=[some (aL false W F),some (bU l),some (aW b m),some (aL true W []),none,none,none]) (n:=0) (A:=[]) (by omega) ⟨Z9 _,none,none,none,rfl⟩
  (by
   rintro k A p q hn hq ⟨hA,x,y,z,rfl⟩
   have t1:aS 5 (aH (aZ (f2 jT (dG "Front" "best" (aB 0)) (aB 4)))) [some (aL false W F),some (bU l),some (aW b m),some (aL true W A),some (.kt (dP W q.1)),y,z]=some (.nx,[some (aL false W F),some (bU l),some (aW b m),some (aL true W A),some (.kt (dP W q.1)),some (wyD q.2),z]):=bF (cF (zs1 (F:=F) (W:=W) (k:=q.1) rfl rfl (rD nd hq)) (tG q.2))
   have r1:tT "AlongText" "state_behind" (dG "Front" "steps" (aB 0)) [some (aL false W F),some (bU l),some (aW b m),some (aL true W A),some (.kt (dP W q.1)),some (wyD q.2),z]=some (cS W):=by
    unfold tT
    rw [rX (f:=aB 0) (o:=false) (W:=W) (F:=F) rfl,Z6]
    unfold zm0 cS
    exact if_pos ⟨rfl,by simp [cY,gN]⟩
   have t2:aS 6 (aH (aJ zm7 (aA (tT "AlongText" "state_behind" (dG "Front" "steps" (aB 0))) (aA (aB 4) (aA (f2 dIx (aB 5) (fC (.int 0))) (aA (aB 1) (aA (aB 2) aE))))))) [some (aL false W F),some (bU l),some (aW b m),some (aL true W A),some (.kt (dP W q.1)),some (wyD q.2),z]=some (.nx,[some (aL false W F),some (bU l),some (aW b m),some (aL true W A),some (.kt (dP W q.1)),some (wyD q.2),some (zm6 W (jC W b m l q.1 q.2.1))]):=
    bF (aT (aD r1 (aD rfl (aD (zz4 rfl) (aD rfl (aD rfl rfl))))) (xj9 hW hl h0 h1 (hk q hq)))
   cases es:jC W b m l q.1 q.2.1 with
   |none=>
    rw [es] at t2
    exact⟨_,(aK t1).trans ((aK t2).trans (aU (cU (aM rfl rfl rfl)))),W9 hA,_,_,_,rfl⟩
   |some s=>
    rw [es] at t2
    have w0:f2 dIx (aB 6) (fC (.int 0)) [some (aL false W F),some (bU l),some (aW b m),some (aL true W A),some (.kt (dP W q.1)),some (wyD q.2),some (zm6 W (some s))]=some (.kt (dP W s.1)):=aM rfl rfl (kE _ _)
    have w1:f2 dIx (aB 6) (fC (.int 1)) [some (aL false W F),some (bU l),some (aW b m),some (aL true W A),some (.kt (dP W q.1)),some (wyD q.2),some (zm6 W (some s))]=some (.tup []):=aM rfl rfl (eO _ _ _)
    refine⟨_,(aK t1).trans ((aK t2).trans ((bD (cU (aM rfl rfl rfl))).trans (xI (j:=3) (F:=A) (W:=W) (k:=s.1) (x:=(s.2,q.2.2)) rfl w0 (zs2 (x:=(s.2,q.2.2)) (cF w1 rfl) (cF (zz5 (x:=q.2) rfl) (jL q.2.2))) (by omega)))),?_,_,_,_,rfl⟩
    have:=uP A s.1 (s.2,q.2.2)
    show(gT A s.1 (s.2,q.2.2)).length<=_
    omega)
 exact iI rfl (bL s1 (bL (mS (i:=4) (zd7 (f:=aB 0) (W:=W) (F:=F) rfl) e) ⟨_,rfl⟩))
mutual
theorem zs3:∀{p:Pc} {b:Bool} {m:Int} {cs cs':List Int} {t t':Str},cH b m p cs t=some (cs',t')->cs.length<=cs'.length+(bN p).length
 | .leaf l,b,m,cs,cs',t,t',h=>by
  rw [cH] at h
  cases e:wr b m (col t) l with
  |none=>rw [e] at h;cases h
  |some w=>rw [e] at h;cases h;omega
 | .group r,b,m,cs,cs',t,t',h=>by
  rw [cH.eq_def] at h
  simp only at h
  have hl:(bN (.group r)).length=(toksR r).length+2:=by simp [bN]
  cases b with
  |false=>
   simp only [ZV,Yz] at h
   have:=setR_len h
   omega
  | true=>
   cases cs with
   |nil=>simp at h
   | cons c cs=>
    simp only [ZW] at h
    rw [Z4]
    by_cases c0:c=0
    ·simp only [c0,ZW] at h;have:=setR_len h;omega
    ·by_cases c1:c=1
     ·simp only [c1,ZW] at h;have:=setR_len h;omega
     ·simp [c0,c1] at h
 | .hang n r,b,m,cs,cs',t,t',h=>by
  rw [cH] at h
  have hl:(bN (.hang n r)).length=(toksR r).length+2:=by simp [bN]
  have:=setR_len h
  omega
 | .either rs,b,m,cs,cs',t,t',h=>by
  rw [cH.eq_def] at h
  have hl:(bN (.either rs)).length=(toksRows rs).length+2:=by simp [bN]
  cases cs with
  |nil=>cases h
  |cons c cs=>
   simp only at h
   rw [Z4]
   by_cases c0:0<=c
   ·simp only [c0,ZW] at h;have:=setAt_len h;omega
   ·simp [c0] at h
theorem setR_len:∀{r:List Pc} {b:Bool} {m:Int} {cs cs':List Int} {t t':Str},setR b m r cs t=some (cs',t')->cs.length<=cs'.length+(toksR r).length
 |[],b,m,cs,cs',t,t',h=>by rw [setR] at h;cases h;omega
 | p::r,b,m,cs,cs',t,t',h=>by
  rw [setR] at h
  cases e:cH b m p cs t with
  |none=>rw [e] at h;cases h
  |some s=>
   obtain⟨c1,t1⟩:=s
   rw [e] at h
   have h1:=zs3 e
   have h2:=setR_len (cs:=c1) (t:=t1) h
   rw [toksR,Z3]
   omega
theorem setAt_len:∀{rs:List (List Pc)} {i:Nat} {b:Bool} {m:Int} {cs cs':List Int} {t t':Str},setAt b m rs i cs t=some (cs',t')->cs.length<=cs'.length+(toksRows rs).length
 |[],i,b,m,cs,cs',t,t',h=>by rw [setAt] at h;cases h
 |r::rs,0,b,m,cs,cs',t,t',h=>by
  rw [setAt] at h
  have:=setR_len h
  rw [toksRows,Z3]
  omega
 | r::rs,i+1,b,m,cs,cs',t,t',h=>by
  rw [setAt] at h
  have h1:=setAt_len h
  rw [toksRows,Z3]
  cases rs with
  |nil=>rw [setAt] at h;cases h
  |cons q qs=>
   rw [toksRows,Z3] at h1
   rw [toksMore,Z4,Z3]
   omega
end
def Few(N:Nat)(R:List Int->Str->Prop):Prop:=∀c t,R c t->c.length<=N
theorem yy0{N:Nat}{R:List Int->Str->Prop}{b:Bool}{m:Int}{p:Pc}(h:Few N R):Few (N+(bN p).length) (Aft R (cH b m p)):=by
 rintro c t ⟨c0,t0,c1,r,rfl,e⟩
 have h1:=h c0 t0 r
 have h2:=zs3 e
 rw [ZL] at h2
 rw [Z3];omega
theorem yq1{N:Nat}{R:List Int->Str->Prop}{n:Int}(h:Few N R):Few (N+1) (zm5 R n):=by
 rintro c t ⟨c0,r,rfl⟩
 have:=h c0 t r
 rw [Z3]
 show c0.length+1<=_
 omega
theorem zs4:∀{n:Nat} {l:List Nat},l.Nodup->(∀x∈l,x<n)->l.length<=n
 |0,l,_,h=>by
  cases l with
  |nil=>exact Z9 _
  |cons a l=>exact absurd (h a Z0) (Yl _)
 | n+1,l,nd,h=>by
  have h2:=zs4 (n:=n) (nd.erase n) fun x hx=>by
   have h3:=h x (List.mem_of_mem_erase hx)
   have h4:x≠n:=fun z=>by
    rw [z] at hx
    exact absurd hx nd.not_mem_erase
   omega
  by_cases hm:n∈l
  ·rw [List.length_erase_of_mem hm] at h2;omega
  ·rw [List.erase_of_not_mem hm] at h2;omega
theorem Good.key{W:Str}{R:List Int->Str->Prop}{F:Frt}(h:Good W R F){q:Nat×Way}(hq:q∈F):q.1<=W.length:=by
 obtain⟨t,_,_,h2⟩:=h.hit q hq
 exact h2
theorem Good.len{W:Str}{R:List Int->Str->Prop}{F:Frt}(h:Good W R F)(hW:W.length<=900000):F.length<=900001:=by
 have:=zs4 (n:=W.length+1) h.nd fun x hx=>by
  obtain⟨q,hq,rfl⟩:=Yc.mp hx
  have:=h.key hq
  omega
 rw [Zc] at this
 omega
theorem Good.few{W:Str}{R:List Int->Str->Prop}{F:Frt}{N:Nat}(h:Good W R F)(hN:Few N R){q:Nat×Way}(hq:q∈F):q.2.2.length<=N:=by
 obtain⟨t,r,_⟩:=h.hit q hq
 exact hN _ _ r
theorem zi1(W:Str)(F:Frt):ze7 (aL true W F)=some (aL false W F):=by
 have h:=rC F
 unfold aL ze7
 exact if_pos ⟨rfl,h⟩
theorem zs5{f:tz2}{p:PSt}{W:Str}{F:Frt}(h:f p=some (aL true W F)):oJ f p=some (aL false W F):=by
 unfold oJ
 rw [h,Z6,zi1]
abbrev pL(GR:tz6):tz6:=gP 3 4 (pB lF zm3 wT zb0 yh6 GR)
def zm8(GR:tz6):tz1:=aR (aS 6 (aH (aZ (aB 0))))
 (aR (fIf (aY (fT (aJ wT (aA (aB 1) (aA (aB 2) aE))))) (aS 6 (aH (oJ (aJ zb0 (aA (aB 0) (aA (aB 4) aE)))))) bP)
 (dA (dY 3 cA (cV [.im (aJ GR (aA (aB 6) (aA (f2 dIx (aB 5) (fC (.int 0))) (aA (f2 dIx (aB 5) (fC (.int 1))) aE))))]) (iR "Front" "add_all" yh6))))
theorem yq2{GR:tz6}{W:Str}{F A Z:Frt}{p:Pc}{b:Bool}{m:Int}{n:Nat}{x:List Pc×Bool×Int}{y:Option D}(hp:pK p=true)(nd:(F.map (·.1)).Nodup)(hF:F.length<=900001)(hc:∀q∈F,q.2.2.length<=900)
  (hG:GR [aL false W (if cZ b p=true then jY F n else F),.tup (pcsD x.1),aW x.2.1 x.2.2]=some (aL false W Z)) (ndZ:(Z.map (·.1)).Nodup) (hZ:A.length+Z.length<=9000000):
  ∃z,zm8 GR [some (aL false W F),some (pcD p),some (aW b m),some (aL true W A),some (.int (n:Int)),some (eW x),y]=some (.nx,[some (aL false W F),some (pcD p),some (aW b m),some (aL true W (jH A Z)),some (.int (n:Int)),some (eW x),z]):=by
 have t1:aS 6 (aH (aZ (aB 0))) [some (aL false W F),some (pcD p),some (aW b m),some (aL true W A),some (.int (n:Int)),some (eW x),y]=some (.nx,[some (aL false W F),some (pcD p),some (aW b m),some (aL true W A),some (.int (n:Int)),some (eW x),some (aL false W F)]):=bF (cF rfl (wD W F))
 have q2:=yw9 p b m hp
 have c2:fT (aJ wT (aA (aB 1) (aA (aB 2) aE))) [some (aL false W F),some (pcD p),some (aW b m),some (aL true W A),some (.int (n:Int)),some (eW x),some (aL false W F)]=some (cZ b p):=iH (aT (aD rfl (aD rfl rfl)) q2)
 have t2:fIf (aY (fT (aJ wT (aA (aB 1) (aA (aB 2) aE))))) (aS 6 (aH (oJ (aJ zb0 (aA (aB 0) (aA (aB 4) aE)))))) bP [some (aL false W F),some (pcD p),some (aW b m),some (aL true W A),some (.int (n:Int)),some (eW x),some (aL false W F)]=some (.nx,[some (aL false W F),some (pcD p),some (aW b m),some (aL true W A),some (.int (n:Int)),some (eW x),some (aL false W (if cZ b p=true then jY F n else F))]):=by
  cases tk:cZ b p with
  |true=>
   rw [tk] at c2
   exact(bD c2).trans (bF (zs5 (aT (aD rfl (aD rfl rfl)) (yx7 nd (by omega) hc))))
  |false=>
   rw [tk] at c2
   exact aU c2
 generalize (if cZ b p=true then jY F n else F)=F' at hG t2
 have x0:f2 dIx (aB 5) (fC (.int 0)) [some (aL false W F),some (pcD p),some (aW b m),some (aL true W A),some (.int (n:Int)),some (eW x),some (aL false W F')]=some (.tup (pcsD x.1)):=aM rfl rfl (kE _ _)
 have x1:f2 dIx (aB 5) (fC (.int 1)) [some (aL false W F),some (pcD p),some (aW b m),some (aL true W A),some (.int (n:Int)),some (eW x),some (aL false W F')]=some (aW x.2.1 x.2.2):=aM rfl rfl (eO _ _ _)
 have x2:=aT (h:=GR) (aD (f:=aB 6) (d:=aL false W F') rfl (aD x0 (aD (g:=aE) x1 rfl))) hG
 exact⟨_,(aK t1).trans ((aK t2).trans (qZ (zz3 (j:=3) rfl (cR x2 (wD W Z) fX) (yp8 (by simp [cY,gN]) (xq6 ndZ hZ)))))⟩
theorem zi2{GR:tz6}{GA:Bool->Int->List Pc->Frt->Frt}{W:Str}{F:Frt}{p:Pc}{b:Bool}{m:Int}(hp:pK p=true)(nd:(F.map (·.1)).Nodup)(hF:F.length<=900001)(hc:∀q∈F,q.2.2.length<=900):∀(xs:List (List Pc×Bool×Int)) (n:Nat) (A:Frt) (y4 y5 y6:Option D),
  (∀(i:Nat) x,xs[i]? =some x->∃Z,Z=GA x.2.1 x.2.2 x.1 (if cZ b p=true then jY F (n+i:Nat) else F)/\GR [aL false W (if cZ b p=true then jY F (n+i:Nat) else F),.tup (pcsD x.1),aW x.2.1 x.2.2]=some (aL false W Z)/\(Z.map (·.1)).Nodup/\Z.length<=900001)->A.length+900001*xs.length<=4000000->
  ∃z4 z5 z6,lZ [4,5] (zm8 GR) (lP n (xs.map eW)) [some (aL false W F),some (pcD p),some (aW b m),some (aL true W A),y4,y5,y6]=some (.nx,[some (aL false W F),some (pcD p),some (aW b m),some (aL true W (frW GA (cZ b p) F n xs A)),z4,z5,z6])
 |[],n,A,y4,y5,y6,_,_=>⟨y4,y5,y6,rfl⟩
 | x::xs,n,A,y4,y5,y6,hG,hA=>by
  rw [Z4] at hA
  obtain⟨Z,e1,e2,e3,e4⟩:=hG 0 x rfl
  rw [Xb] at e1 e2
  obtain⟨z,t⟩:=yq2 (m:=m) (A:=A) (y:=y6) hp nd hF hc e2 e3 (by omega)
  have hl:=zR Z A
  obtain⟨z4,z5,z6,ih⟩:=zi2 (m:=m) hp nd hF hc xs (n+1) (jH A Z) (some (.int (n:Int))) (some (eW x)) z (fun i y hy=>by
   have:=hG (i+1) y (by simpa using hy)
   rwa [show n+(i+1)=n+1+i by omega] at this) (by omega)
  refine⟨z4,z5,z6,?_⟩
  rw [Zb,lP,lZ]
  show(some [D.int (n:Int),eW x]).bind _=_
  rw [Z6,if_pos (show [D.int (n:Int),eW x].length=[4,5].length from rfl)]
  show(zm8 GR [some (aL false W F),some (pcD p),some (aW b m),some (aL true W A),some (.int (n:Int)),some (eW x),y6]).bind _=_
  rw [frW,<-e1]
  rw [t,Z6]
  exact ih
theorem yy1{GR:tz6}{GA:Bool->Int->List Pc->Frt->Frt}{W:Str}{F:Frt}{p:Pc}{b:Bool}{m:Int}(hp:pK p=true)(ho:okP p)(nd:(F.map (·.1)).Nodup)(hF:F.length<=900001)(hc:∀q∈F,q.2.2.length<=900)
  (hG:∀(i:Nat) x,(cP b m p)[i]? =some x->∃Z,Z=GA x.2.1 x.2.2 x.1 (if cZ b p=true then jY F i else F)/\GR [aL false W (if cZ b p=true then jY F i else F),.tup (pcsD x.1),aW x.2.1 x.2.2]=some (aL false W Z)/\(Z.map (·.1)).Nodup/\Z.length<=900001):
  pL GR [aL false W F,pcD p,aW b m]=some (aL true W (frW GA (cZ b p) F 0 (cP b m p) [])):=by
 have h4:(cP b m p).length<=4:=by
  cases p with
  |leaf l=>simp [cP]
  |group r=>cases b<;>simp [cP]
  |hang k r=>simp [cP]
  |either rs=>have:=ho.1.2;simpa [cP] using this
 have hn:xd7 p<=1000:=by
  cases p with
  |either rs=>have:=ho.1.2;show rs.length<=1000;omega
  |_=>exact ZH _
 have q1:=xj3 p b m hp hn
 have him:D.imms ((cP b m p).map eW)=true:=by
  generalize cP b m p=xs
  induction xs with
  |nil=>rfl
  |cons x xs ih=>
   show(D.imm (eW x)&&D.imms (xs.map eW))=true
   rw [zd5,ih];rfl
 have s1:aS 3 (aH (eX "Front" (cV [.im (dG "Front" "steps" (aB 0))]) lF)) [some (aL false W F),some (pcD p),some (aW b m),none,none,none,none]=some (.nx,[some (aL false W F),some (pcD p),some (aW b m),some (aL true W []),none,none,none]):=bF (uO (rX (f:=aB 0) (F:=F) rfl))
 obtain⟨z4,z5,z6,e⟩:=zi2 (m:=m) hp nd hF hc (cP b m p) 0 [] none none none (fun i x hx=>by rw [Yt];exact hG i x hx) (by show 0+_<=_;omega)
 have s2:zl6 [4,5] (zl9 (aJ zm3 (aA (aB 1) (aA (aB 2) aE)))) (zm8 GR) [some (aL false W F),some (pcD p),some (aW b m),some (aL true W []),none,none,none]=some (.nx,[some (aL false W F),some (pcD p),some (aW b m),some (aL true W (frW GA (cZ b p) F 0 (cP b m p) [])),z4,z5,z6]):=by
  unfold zl6 zl9
  rw [aT (h:=zm3) (aD (f:=aB 1) (d:=pcD p) rfl (aD (f:=aB 2) (d:=aW b m) (g:=aE) rfl rfl)) q1,Z6]
  show((if D.imms ((cP b m p).map eW)=true then some ((cP b m p).map eW) else none).map (lP 0)).bind _=_
  rw [if_pos him]
  exact e
 exact iI rfl (bL s1 (bL s2 ⟨_,rfl⟩))
def vC:Nat->tz6
 |0=>fun _=>none
 |n+1=>gP 3 2 (nM wS (pL (vC n)) xR)
def wU(GH:tz6):tz1:=fIf (aY (fT (aJ wS (aA (aB 4) aE))))
 (aS 3 (aH (oJ (aJ GH (aA (aB 3) (aA (aB 4) (aA (aB 2) aE)))))))
 (aS 3 (aH (oJ (aJ xR (aA (aB 3) (aA (aB 4) (aA (aB 2) aE)))))))
def xb3(W:Str)(GR:tz6)(GA:Bool->Int->List Pc->Frt->Frt)(r:List Pc):Prop:=∀(b:Bool) (m:Int) (R:List Int->Str->Prop) (F:Frt) (N:Nat),0<=m->m+12*depR r<=200->Good W R F->Few N R->N+(toksR r).length<=900->
 GR [aL false W F,.tup (pcsD r),aW b m]=some (aL false W (GA b m r F))
theorem yg2{b:Bool}{m:Int}{p:Pc}{x:List Pc×Bool×Int}(hx:x∈cP b m p):(toksR x.1).length+1<=(bN p).length:=by
 cases p with
 |leaf l=>simp [cP] at hx
 | group r=>
  have:x.1=r:=by
   cases b<;>simp [cP] at hx
   ·subst hx;rfl
   ·rcases hx with e|e<;>subst e<;>rfl
  rw [this];simp [bN]
 |hang n r=>
  simp [cP] at hx
  subst hx;simp [bN]
 |either rs=>
  obtain⟨r,hm,rfl⟩:=Yc.mp (show x∈rs.map fun r=>(r,b,m) from hx)
  have:=sJ hm
  simp [bN];omega
theorem xk0{W:Str}{GR:tz6}{GA:Bool->Int->List Pc->Frt->Frt}{k:Nat}(hW:W.length<=900000)(hG:∀r,depR r<k->okR r->oE W GA r)(hD:∀r,depR r<k->okR r->xb3 W GR GA r)
  {b:Bool} {m:Int} {R:List Int->Str->Prop} {F:Frt} {N:Nat} {p:Pc} {Y0 Y1:Option D} (hk:cX p<=k) (ho:okP p) (h0:0<=m) (h1:m+12*cX p<=200) (hF:Good W R F) (hN:Few N R) (hT:N+(bN p).length<=900):
  wU (pL GR) [Y0,Y1,some (aW b m),some (aL false W F),some (pcD p)]=some (.nx,[Y0,Y1,some (aW b m),some (aL false W (frP W GA b m F p)),some (pcD p)]):=by
 have c1:fT (aJ wS (aA (aB 4) aE)) [Y0,Y1,some (aW b m),some (aL false W F),some (pcD p)]=some (pK p):=iH (aT (aD rfl rfl) (yw8 p))
 have hl:=hF.len hW
 have hc:∀q∈F,q.2.2.length<=900:=fun q hq=>by have:=hF.few hN hq;omega
 have hold:pK p=true->wU (pL GR) [Y0,Y1,some (aW b m),some (aL false W F),some (pcD p)]=some (.nx,[Y0,Y1,some (aW b m),some (aL false W (frW GA (cZ b p) F 0 (cP b m p) [])),some (pcD p)]):=fun hp=>by
  rw [hp] at c1
  refine(bD c1).trans (bF (zs5 (aT (aD rfl (aD rfl (aD rfl rfl))) (yy1 (GA:=GA) hp ho hF.nd hl hc fun i x hx=> ?_))))
  have hm:=ZT hx
  obtain⟨a1,a2,a3,a4⟩:=yM ho h0 h1 hk hm
  have ht:=yg2 hm
  have gg:∀(R':List Int->Str->Prop) (F':Frt),Good W R' F'->Few (N+1) R'->∃Z,Z=GA x.2.1 x.2.2 x.1 F'/\GR [aL false W F',.tup (pcsD x.1),aW x.2.1 x.2.2]=some (aL false W Z)/\(Z.map (·.1)).Nodup/\Z.length<=900001:=fun R' F' hR hf=>by
   have g:=hG x.1 a3 a4 x.2.1 x.2.2 R' F' a1 a2 hR
   exact⟨_,rfl,hD x.1 a3 a4 x.2.1 x.2.2 R' F' (N+1) a1 a2 hR hf (by omega),g.nd,g.len hW⟩
  by_cases tk:cZ b p=true
  ·rw [if_pos tk]
   exact gg _ _ (uL hF i) (yq1 hN)
  ·rw [if_neg tk]
   exact gg _ _ hF fun c t h=>W9 (hN c t h)
 cases p with
 |leaf l=>
  have hm:m<=200:=by rw [cX] at h1;omega
  exact(dL (cD c1)).trans (bF (zs5 (aT (aD rfl (aD rfl (aD rfl rfl))) (yq0 hW ho h0 hm hF.nd (by omega) fun q hq=>hF.key hq))))
 |group r=>exact hold rfl
 |hang n r=>exact hold rfl
 |either rs=>exact hold rfl
theorem yq3{W:Str}{GR:tz6}{GA:Bool->Int->List Pc->Frt->Frt}{k:Nat}(hW:W.length<=900000)(hG:∀r,depR r<k->okR r->oE W GA r)(hD:∀r,depR r<k->okR r->xb3 W GR GA r){b:Bool}{m:Int}{Y0 Y1:Option D}(h0:0<=m):∀(r:List Pc) (R:List Int->Str->Prop) (F:Frt) (N:Nat) (y:Option D),depR r<=k->okR r->m+12*depR r<=200->Good W R F->Few N R->N+(toksR r).length<=900->
  ∃z,dM 4 (wU (pL GR)) (pcsD r) [Y0,Y1,some (aW b m),some (aL false W F),y]=some (.nx,[Y0,Y1,some (aW b m),some (aL false W (r.foldl (fun F p=>frP W GA b m F p) F)),z])
 |[],R,F,N,y,_,_,_,_,_,_=>⟨y,rfl⟩
 |p::r,R,F,N,y,hk,ho,h1,hF,hN,hT=>by
  rw [depR] at hk h1
  rw [toksR,Z3] at hT
  have q1:=xk0 hW hG hD (b:=b) (Y0:=Y0) (Y1:=Y1) (show cX p<=k by omega) ho.1 h0 (by omega) hF hN (by omega)
  obtain⟨z,e⟩:=yq3 hW hG hD h0 r _ _ _ (some (pcD p)) (by omega) ho.2 (by omega) (uM hG (b:=b) (show cX p<=k by omega) ho.1 h0 (by omega) hF) (yy0 hN) (by omega)
  refine⟨z,?_⟩
  show dM 4 _ (pcD p::pcsD r) _=_
  rw [dM]
  show((wU (pL GR) [Y0,Y1,some (aW b m),some (aL false W F),some (pcD p)]).bind _)=_
  rw [q1];exact e
theorem zz6{W:Str}(hW:W.length<=900000):∀(n:Nat) (r:List Pc),depR r<n->okR r->xb3 W (vC n) (frN W n) r
 |0,_,h,_=>absurd h (Yl _)
 |n+1,r,hd,ho=>fun b m R F N h0 h1 hF hN hT=>by
  obtain⟨z,e⟩:=yq3 (GR:=vC n) (GA:=frN W n) (k:=n) (Y0:=some (aL false W F)) (Y1:=some (.tup (pcsD r))) hW (fun q h2 h3=>uN n q h2 h3) (fun q h2 h3=>zz6 hW n q h2 h3) h0 r R F N none (by omega) ho h1 hF hN hT
  have s1:aS 3 (aH (aZ (aB 0))) [some (aL false W F),some (.tup (pcsD r)),some (aW b m),none,none]=some (.nx,[some (aL false W F),some (.tup (pcsD r)),some (aW b m),some (aL false W F),none]):=bF (cF rfl (wD W F))
  have s2:gF 4 (gY (aB 1)) (wU (pL (vC n))) [some (aL false W F),some (.tup (pcsD r)),some (aW b m),some (aL false W F),none]=some (.nx,[some (aL false W F),some (.tup (pcsD r)),some (aW b m),some (aL false W (frN W (n+1) b m r F)),z]):=mS rfl e
  show gP 3 2 (nM wS (pL (vC n)) xR) _=_
  exact iI rfl (bL s1 (bL s2 ⟨_,rfl⟩))
abbrev wV:tz7:=gE 2 0 (cI [true,false]) lV
theorem xq7(W:Str):wV [.obj true "AlongText" [] [],.str W]=some (.non,[.obj true "AlongText" ["text"] [.str W],.str W]):=by
 simp [gE,lV,mU,tN,cY,aZ,aB,cA,fS,uZ,cI,D.imm]
theorem yy2{p:PSt}{f:tz2}{W:Str}(h:f p=some (.str W)):lU (eX "AlongText" (cV [.im f]) wV) p=some (cS W):=by
 have i:=xq7 W
 unfold lU
 have e:eX "AlongText" (cV [.im f]) wV p=some (.obj true "AlongText" ["text"] [.str W]):=by
  unfold eX
  rw [cR h rfl fX,Z6,i];rfl
 rw [e];rfl
abbrev ze9(n:Nat):tz6:=gP 2 0 (pC (vC n) ys2)
def dQ(W:Str)(n:Nat)(r:List Pc):Frt:=frN W n true 0 r [(0,((),[]))]
theorem zS(W:Str):Good W (fun cs t=>cs=[]/\t=⟨#[]⟩) [(0,((),[]))]:=⟨by simp,fun p hp=>by
 rw [ZB.mp hp];exact⟨_,⟨rfl,rfl⟩,yg0 W⟩⟩
theorem yq4{W:Str}{n:Nat}{r:List Pc}(hW:W.length<=900000)(hd:depR r<n)(h8:depR r<=16)(ho:okR r)(hl:(toksR r).length<=800):ze9 n [aL false W [(0,((),[]))],.tup (pcsD r)]=some (aL false W (dQ W n r)):=by
 have q:=zz6 hW n r hd ho true 0 _ _ 0 (Y9 _) (by omega) (zS W) (fun c t h=>by rw [h.1];exact Z9 _) (by omega)
 exact iI rfl ⟨_,bS (aT (aD rfl (aD rfl (aD (aT rfl yx0) rfl))) q)⟩
def nb(y x:Way):Prop:=ltW x y=false
theorem qJ:∀a:List Int,HT.lexLt a a=false
 |[]=>rfl
 |x::a=>by show(if x=x then HT.lexLt a a else _)=_;rw [if_pos rfl];exact qJ a
theorem zz7:∀{a b c:List Int},HT.lexLt a b=false->HT.lexLt b c=false->HT.lexLt a c=false
 |[],[],c,_,h=>h
 |[],_::_,_,h,_=>by cases h
 |x::a,b,[],_,_=>rfl
 |x::a,[],z::c,_,h=>by cases h
 | x::a,y::b,z::c,h1,h2=>by
  have h1':(if x=y then HT.lexLt a b else decide (x<y))=false:=h1
  have h2':(if y=z then HT.lexLt b c else decide (y<z))=false:=h2
  show(if x=z then HT.lexLt a c else decide (x<z))=false
  by_cases e1:x=y
  ·subst e1
   rw [if_pos rfl] at h1'
   by_cases e2:x=z
   ·subst e2
    rw [if_pos rfl] at h2'|-
    exact zz7 h1' h2'
   ·rw [if_neg e2] at h2'|-;exact h2'
  ·rw [if_neg e1] at h1'
   have g1:=X7 h1'
   by_cases e2:y=z
   ·subst e2
    rw [if_neg e1];exact h1'
   ·rw [if_neg e2] at h2'
    have g2:=X7 h2'
    rw [if_neg (by omega)]
    exact Z5 (by omega)
theorem wE{y x:Way}:nb y x↔HT.lexLt x.2 y.2=false:=by
 have e:ltW x y=(if x.2=y.2 then false else HT.lexLt x.2 y.2):=rfl
 unfold nb
 rw [e]
 by_cases c:x.2=y.2
 ·rw [if_pos c,c,qJ]
 ·rw [if_neg c]
theorem zd8(x:Way):nb x x:=wE.mpr (qJ _)
theorem zs6{z y x:Way}(h1:nb z y)(h2:nb y x):nb z x:=by
 rw [wE] at*
 exact zz7 h2 h1
theorem yy3:∀{a b:List Int},HT.lexLt a b=true->HT.lexLt b a=false:=fun {a b} h=>by
 cases e:HT.lexLt b a with
 |false=>rfl
 | true =>
  cases e2:HT.lexLt a a with
  | false=>
   exact absurd h (by
    intro _
    have:∀{a b:List Int},HT.lexLt a b=true->HT.lexLt b a=true->False:=by
     intro a
     induction a with
     |nil=>intro b _ h2;cases b<;>cases h2
     | cons x a ih=>
      intro b h1 h2
      cases b with
      |nil=>cases h1
      | cons y b=>
       have h1':(if x=y then HT.lexLt a b else decide (x<y))=true:=h1
       have h2':(if y=x then HT.lexLt b a else decide (y<x))=true:=h2
       by_cases c:x=y
       ·subst c
        rw [if_pos rfl] at h1' h2'
        exact ih h1' h2'
       ·rw [if_neg c] at h1'
        rw [if_neg (fun z=>c z.symm)] at h2'
        have:=Ys h1'
        have:=Ys h2'
        omega
    exact this h e)
  |true=>rw [qJ] at e2;cases e2
theorem yy4{x y:Way}(h:ltW x y=true):nb x y:=by
 have h':¬nb y x:=fun z=>by unfold nb at z;rw [h] at z;cases z
 rw [wE] at h'|-
 cases e:HT.lexLt x.2 y.2 with
 |false=>exact absurd e h'
 |true=>exact yy3 e
def yh7(a b:List Int):Prop:=(∀x,b=a++x->x=[])/\(∀x,a=b++x->x=[])
theorem zz8:∀{a b:List Int},yh7 a b->∀u,HT.lexLt (a++u) (b++u)=HT.lexLt a b
 |[],b,h,u=>by
  have:b=[]:=h.1 b rfl
  subst this
  rw [Y2,qJ,qJ]
 |a::as,[],h,u=>by have:=h.2 (a::as) rfl;cases this
 | x::a,y::b,h,u=>by
  show(if x=y then HT.lexLt (a++u) (b++u) else decide (x<y))=(if x=y then HT.lexLt a b else decide (x<y))
  by_cases c:x=y
  ·subst c
   rw [if_pos rfl,if_pos rfl]
   exact zz8 ⟨fun z hz=>h.1 z (by rw [hz];rfl),fun z hz=>h.2 z (by rw [hz];rfl)⟩ u
  ·rw [if_neg c,if_neg c]
theorem xq8{y x:Way}(h:nb y x)(ha:yh7 x.2 y.2)(u:List Int):nb (y.1,y.2++u) (x.1,x.2++u):=by
 rw [wE] at h|-
 show HT.lexLt (x.2++u) (y.2++u)=false
 rw [zz8 ha];exact h
theorem zd9:∀{F:Frt} {k:Nat} {y:Way},gS F k=some y->(k,y)∈F
 |[],_,_,h=>by cases h
 |p::F,k,y,h=>by
  rw [gS] at h
  by_cases e:p.1=k
  ·rw [if_pos e] at h;cases h;subst e;exact Z0
  ·rw [if_neg e] at h;exact Z1 _ (zd9 h)
theorem zz9:∀{F:Frt} {k:Nat} {y z:Way},(F.map (·.1)).Nodup->(k,y)∈F->(k,z)∈F->y=z
 |[],_,_,_,_,h,_=>by cases h
 |p::F,k,y,z,nd,h1,h2=>by
  rw [Zb,Zp] at nd
  rcases Za.mp h1 with e1|e1<;>rcases Za.mp h2 with e2|e2
  ·rw [<-e2] at e1;cases e1;rfl
  ·exact absurd (YA (f:=(·.1)) e2) (by rw [<-e1] at nd;exact nd.1)
  ·exact absurd (YA (f:=(·.1)) e1) (by rw [<-e2] at nd;exact nd.1)
  ·exact zz9 nd.2 e1 e2
theorem ze0:∀{F:Frt} {k:Nat} {x y:Way},(k,y)∈F->(k,x)∈lE F k x
 |[],_,_,_,h=>by cases h
 |p::F,k,x,y,h=>by
  rw [lE]
  rcases Za.mp h with e|e
  ·rw [<-e,if_pos rfl];exact Z0
  ·exact Z1 _ (ze0 e)
theorem zs7:∀{F:Frt} {k:Nat} {x:Way} {q:Nat×Way},q∈F->q.1≠k->q∈lE F k x
 |[],_,_,_,h,_=>by cases h
 |p::F,k,x,q,h,hk=>by
  rw [lE]
  rcases Za.mp h with e|e
  ·rw [<-e,if_neg hk];exact Z0
  ·exact Z1 _ (zs7 e hk)
def Has(F:Frt)(k:Nat)(x:Way):Prop:=∃y,(k,y)∈F/\nb y x
theorem Has.le{F:Frt}{k:Nat}{x z:Way}(h:Has F k x)(hz:nb x z):Has F k z:=by
 obtain⟨y,a,b⟩:=h
 exact⟨y,a,zs6 b hz⟩
theorem ya0{F:Frt}{k:Nat}{x:Way}(h:(F.map (·.1)).Nodup):((gT F k x).map (·.1)).Nodup:=by
 unfold gT
 cases e:gS F k with
 |none=>
  simp only
  rw [ZX,Zz]
  refine⟨h,by simp,fun a ha b hb z=> ?_⟩
  simp only [Zb,X9,ZB] at hb
  subst hb
  subst z
  exact wC e ha
 |some y=>
  simp only
  split
  ·rw [rW];exact h
  ·exact h
theorem zs8{F:Frt}{k:Nat}{x:Way}(nd:(F.map (·.1)).Nodup):Has (gT F k x) k x/\∀j z,Has F j z->Has (gT F k x) j z:=by
 unfold gT
 cases e:gS F k with
 |none=>
  simp only
  exact⟨⟨x,by simp,zd8 x⟩,fun j z ⟨y,a,b⟩=>⟨y,Zu _ a,b⟩⟩
 | some y=>
  simp only
  have hy:=zd9 e
  by_cases c:ltW x y=true
  ·rw [if_pos c]
   refine⟨⟨x,ze0 hy,zd8 x⟩,fun j z ⟨y',a,b⟩=> ?_⟩
   by_cases hj:j=k
   ·subst hj
    rw [zz9 nd a hy] at b
    exact⟨x,ze0 hy,zs6 (yy4 c) b⟩
   ·exact⟨y',zs7 a hj,b⟩
  ·rw [if_neg c]
   exact⟨⟨y,hy,by unfold nb;simpa using c⟩,fun j z h=>h⟩
theorem uQ:∀{G F:Frt},(F.map (·.1)).Nodup->((jH F G).map (·.1)).Nodup/\(∀p∈G,Has (jH F G) p.1 p.2)/\∀j z,Has F j z->Has (jH F G) j z
 |[],F,nd=>⟨nd,fun p h=>absurd h ZM,fun _ _ h=>h⟩
 |p::G,F,nd=>by
  obtain⟨a,b,c⟩:=uQ (G:=G) (ya0 (k:=p.1) (x:=p.2) nd)
  obtain⟨d,e⟩:=zs8 (k:=p.1) (x:=p.2) nd
  refine⟨a,fun q hq=> ?_,fun j z h=>c j z (e j z h)⟩
  rcases Za.mp hq with h|h
  ·subst h;exact c _ _ d
  ·exact b q h
mutual
theorem zs9:∀{p:Pc} {b:Bool} {m:Int} {cs cs':List Int} {t t':Str},cH b m p cs t=some (cs',t')->∃a,cs=a++cs'/\cH b m p a t=some ([],t')
 | .leaf l,b,m,cs,cs',t,t',h=>by
  rw [cH] at h
  cases e:wr b m (col t) l with
  |none=>rw [e] at h;cases h
  |some w=>rw [e] at h;cases h;exact⟨[],rfl,by rw [cH,e];rfl⟩
 | .group r,b,m,cs,cs',t,t',h=>by
  rw [cH.eq_def] at h
  simp only at h
  cases b with
  |false=>
   simp only [ZV,Yz] at h
   obtain⟨a,e1,e2⟩:=setR_cut h
   exact⟨a,e1,by rw [cH.eq_def];simpa using e2⟩
  | true=>
   cases cs with
   |nil=>simp at h
   | cons c cs=>
    simp only [ZW] at h
    by_cases c0:c=0
    ·simp only [c0,ZW] at h
     obtain⟨a,e1,e2⟩:=setR_cut h
     exact⟨c::a,by rw [e1];rfl,by rw [cH.eq_def];simpa [c0] using e2⟩
    ·by_cases c1:c=1
     ·simp [c1] at h
      obtain⟨a,e1,e2⟩:=setR_cut h
      exact⟨c::a,by rw [e1];rfl,by rw [cH.eq_def];simpa [c1] using e2⟩
     ·simp [c0,c1] at h
 | .hang n r,b,m,cs,cs',t,t',h=>by
  rw [cH] at h
  obtain⟨a,e1,e2⟩:=setR_cut h
  exact⟨a,e1,by rw [cH];exact e2⟩
 | .either rs,b,m,cs,cs',t,t',h=>by
  rw [cH.eq_def] at h
  cases cs with
  |nil=>cases h
  | cons c cs=>
   simp only at h
   by_cases c0:0<=c
   ·simp only [c0,ZW] at h
    obtain⟨a,e1,e2⟩:=setAt_cut h
    exact⟨c::a,by rw [e1];rfl,by rw [cH.eq_def];simpa [c0] using e2⟩
   ·simp [c0] at h
theorem setR_cut:∀{r:List Pc} {b:Bool} {m:Int} {cs cs':List Int} {t t':Str},setR b m r cs t=some (cs',t')->∃a,cs=a++cs'/\setR b m r a t=some ([],t')
 |[],b,m,cs,cs',t,t',h=>by rw [setR] at h;cases h;exact⟨[],rfl,by rw [setR]⟩
 | p::r,b,m,cs,cs',t,t',h=>by
  rw [setR] at h
  cases e:cH b m p cs t with
  |none=>rw [e] at h;cases h
  |some s=>
   obtain⟨c1,t1⟩:=s
   rw [e] at h
   obtain⟨a,e1,e2⟩:=zs9 e
   obtain⟨a',e3,e4⟩:=setR_cut (show setR b m r c1 t1=some (cs',t') from h)
   refine⟨a++a',by rw [e1,e3,Zj],?_⟩
   rw [setR,rT a' e2]
   exact e4
theorem setAt_cut:∀{rs:List (List Pc)} {i:Nat} {b:Bool} {m:Int} {cs cs':List Int} {t t':Str},setAt b m rs i cs t=some (cs',t')->∃a,cs=a++cs'/\setAt b m rs i a t=some ([],t')
 |[],i,b,m,cs,cs',t,t',h=>by rw [setAt] at h;cases h
 |r::rs,0,b,m,cs,cs',t,t',h=>by
  rw [setAt] at h
  obtain⟨a,e1,e2⟩:=setR_cut h
  exact⟨a,e1,by rw [setAt];exact e2⟩
 |r::rs,i+1,b,m,cs,cs',t,t',h=>by
  rw [setAt] at h
  obtain⟨a,e1,e2⟩:=setAt_cut h
  exact⟨a,e1,by rw [setAt];exact e2⟩
end
def nS(R:List Int->Str->Prop):Prop:=∀c x t t',R c t->R (c++x) t'->x=[]/\t=t'
theorem nS.apart{R:List Int->Str->Prop}(h:nS R){a b:List Int}{s t:Str}(ha:R a s)(hb:R b t):yh7 a b:=
 ⟨fun x e=>by subst e;exact(h a x s t ha hb).1,fun x e=>by subst e;exact(h b x t s hb ha).1⟩
theorem zi3:∀{a b c d:List Int},a++b=c++d->(∃x,c=a++x)\/∃x,a=c++x:=fun {a b c d} h=>by
 rcases List.append_eq_append_iff.mp h with ⟨x,e,_⟩|⟨x,e,_⟩
 ·exact .inl ⟨x,e⟩
 ·exact .inr ⟨x,e⟩
theorem nS.aft{R:List Int->Str->Prop}{set:List Int->Str->Option (List Int×Str)}(h:nS R)(hs:∀c x t t',set c t=some ([],t')->set (c++x) t=some (x,t')):nS (Aft R set):=by
 rintro c x t t' ⟨c0,t0,c1,r1,rfl,e1⟩ ⟨d0,s0,d1,r2,e,e2⟩
 have key:c0=d0/\t0=s0:=by
  rcases zi3 (show c0++(c1++x)=d0++d1 by rw [<-e,Zj]) with ⟨z,rfl⟩|⟨z,rfl⟩
  ·obtain⟨rfl,rfl⟩:=h c0 z t0 s0 r1 r2
   exact⟨by rw [Zh],rfl⟩
  ·obtain⟨rfl,rfl⟩:=h d0 z s0 t0 r2 r1
   exact⟨by rw [Zh],rfl⟩
 obtain⟨rfl,rfl⟩:=key
 rw [Zj] at e
 have ed:=Yp e
 subst ed
 rw [hs c1 x t0 t e1] at e2
 cases e2
 exact⟨rfl,rfl⟩
theorem nS.chose{R:List Int->Str->Prop}(h:nS R)(n:Int):nS (zm5 R n):=by
 rintro c x t t' ⟨c0,r1,rfl⟩ ⟨d0,r2,e⟩
 rcases zi3 (show c0++([n]++x)=d0++[n] by rw [<-e,Zj]) with ⟨z,rfl⟩|⟨z,rfl⟩
 ·obtain⟨rfl,rfl⟩:=h c0 z t t' r1 r2
  rw [Zh,Zj] at e
  have:=Yp e
  exact⟨by simpa using this,rfl⟩
 ·obtain⟨rfl,rfl⟩:=h d0 z t' t r2 r1
  rw [Zh,Zj] at e
  have:=Yp e
  exact⟨by simpa using this,rfl⟩
def lG(W:Str)(R:List Int->Str->Prop)(F:Frt):Prop:=∀c t k,R c t->pR W t k->Has F k ((),c)
theorem lG.mono{W:Str}{R R':List Int->Str->Prop}{F:Frt}(h:lG W R F)(k:∀c t,R' c t->R c t):lG W R' F:=fun c t j r hc=>h c t j (k c t r) hc
theorem yg3{W:Str}{R:List Int->Str->Prop}{F:Frt}(hf:nS R)(hg:Good W R F)(h:lG W R F)(n:Int):lG W (zm5 R n) (jY F n):=by
 rintro c t k ⟨c0,r,rfl⟩ hc
 obtain⟨y,hy,hn⟩:=h c0 t k r hc
 obtain⟨t',ry,_⟩:=hg.hit _ hy
 have:=(uQ (G:=F.map (zv6 n)) (F:=[]) Zf).2.1 (zv6 n (k,y)) (YA hy)
 exact this.le (xq8 hn (hf.apart r ry) [n])
theorem yq5{W t:Str}{k k':Nat}(h:pR W t k)(h':pR W t k'):k=k':=by rw [<-h.len,<-h'.len]
theorem yq6{W:Str}{b:Bool}{m:Int}{l:Leaf}{t w:Str}{k:Nat}(hw:wr b m (col t) l=some w)(hc:pR W (t++w) k):pR W t t.length/\∀c:Unit,jC W b m l t.length c=some (k,c):=by
 have hl:=hc.len
 rw [eI] at hl
 obtain⟨e,hk⟩:=hc
 have ht:t=hdT W t.length:=by
  have h:=ZS (fun x:Str=>x.cps.toList.take t.length) e
  simp only [cJ,qI] at h
  rw [List.take_append_of_le_length (by rw [eP];exact Z9 _),List.take_of_length_le (by rw [eP];exact Z9 _),List.take_take,show min t.length k=t.length by omega] at h
  exact tD h
 have p0:pR W t t.length:=⟨ht,by omega⟩
 refine⟨p0,fun c=> ?_⟩
 unfold jC cT
 rw [<-ht,hw,Z6,if_pos ((uK p0.2).mpr ⟨by omega,by rw [<-ht,e,hl]⟩),hl]
theorem wH{W:Str}{b:Bool}{m:Int}{l:Leaf}:∀{F G:Frt},(G.map (·.1)).Nodup->((jI W b m l F G).map (·.1)).Nodup/\(∀p∈F,∀s,jC W b m l p.1 p.2.1=some s->Has (jI W b m l F G) s.1 (s.2,p.2.2))/\∀j z,Has G j z->Has (jI W b m l F G) j z
 |[],G,nd=>⟨nd,fun p h=>absurd h ZM,fun _ _ h=>h⟩
 | p::F,G,nd=>by
  cases e:jC W b m l p.1 p.2.1 with
  | none=>
   have eq:jI W b m l (p::F) G=jI W b m l F G:=by
    show jI W b m l F (match jC W b m l p.1 p.2.1 with|none=>G|some s=>gT G s.1 (s.2,p.2.2))=_
    rw [e]
   obtain⟨a,h1,h2⟩:=wH (W:=W) (b:=b) (m:=m) (l:=l) (F:=F) nd
   rw [eq]
   refine⟨a,fun q hq s hs=> ?_,h2⟩
   rcases Za.mp hq with z|z
   ·rw [z,e] at hs;cases hs
   ·exact h1 q z s hs
  | some s=>
   have eq:jI W b m l (p::F) G=jI W b m l F (gT G s.1 (s.2,p.2.2)):=by
    show jI W b m l F (match jC W b m l p.1 p.2.1 with|none=>G|some s=>gT G s.1 (s.2,p.2.2))=_
    rw [e]
   obtain⟨a,h1,h2⟩:=wH (W:=W) (b:=b) (m:=m) (l:=l) (F:=F) (ya0 (k:=s.1) (x:=(s.2,p.2.2)) nd)
   obtain⟨d,f⟩:=zs8 (k:=s.1) (x:=(s.2,p.2.2)) nd
   rw [eq]
   refine⟨a,fun q hq s' hs=> ?_,fun j z h=>h2 j z (f j z h)⟩
   rcases Za.mp hq with z|z
   ·rw [z,e] at hs;cases hs;rw [z];exact h2 _ _ d
   ·exact h1 q z s' hs
theorem yg4{W:Str}{R:List Int->Str->Prop}{b:Bool}{m:Int}{l:Leaf}{F:Frt}(hl:fE l)(h0:0<=m)(h1:m<=200)(h:lG W R F):lG W (Aft R (cH b m (.leaf l))) (jI W b m l F []):=by
 rintro c t k ⟨c0,t0,c1,r,rfl,e⟩ hc
 rw [cH] at e
 cases ew:wr b m (col t0) l with
 |none=>rw [ew] at e;cases e
 |some w=>
  rw [ew] at e
  cases e
  obtain⟨g1,g2⟩:=yq6 ew hc
  obtain⟨y,hy,hn⟩:=h c0 t0 _ r g1
  have:=(wH (W:=W) (b:=b) (m:=m) (l:=l) (F:=F) (G:=[]) Zf).2.1 (t0.length,y) hy _ (g2 y.1)
  rw [Zh]
  exact this.le hn
theorem xk1{b:Bool}{m:Int}{p:Pc}{c:List Int}{t t':Str}(hp:∀l,p≠ .leaf l)(h:cH b m p c t=some ([],t')):∃(i:Nat) (x:List Pc×Bool×Int) (c':List Int),(cP b m p)[i]? =some x/\c=(if cZ b p=true then [(i:Int)] else [])++c'/\setR x.2.1 x.2.2 x.1 c' t=some ([],t'):=by
 cases p with
 |leaf l=>exact absurd rfl (hp l)
 | group r=>
  rw [cH.eq_def] at h
  cases b with
  |false=>exact⟨0,(r,false,m),c,by simp [cP],by simp [cZ],by simpa using h⟩
  | true=>
   cases c with
   |nil=>simp at h
   | cons d c=>
    simp only [ZW] at h
    by_cases c0:d=0
    ·subst c0
     exact⟨0,(r,false,m),c,by simp [cP],by simp [cZ],by simpa using h⟩
    ·by_cases c1:d=1
     ·subst c1
      exact⟨1,(r,true,m),c,by simp [cP],by simp [cZ],by simpa using h⟩
     ·simp [c0,c1] at h
 |hang n r=>exact⟨0,(r,b,m+n),c,by simp [cP],by simp [cZ],by rw [cH] at h;exact h⟩
 | either rs=>
  rw [cH.eq_def] at h
  cases c with
  |nil=>cases h
  | cons d c=>
   simp only at h
   by_cases c0:0<=d
   ·simp only [c0,ZW] at h
    cases e:rs[d.toNat]? with
    |none=>rw [uH e] at h;cases h
    |some r=>
     rw [oU e] at h
     refine⟨d.toNat,(r,b,m),c,?_,by simp [cZ];omega,h⟩
     show(rs.map fun r=>(r,b,m))[d.toNat]? =_
     rw [Zi,e];rfl
   ·simp [c0] at h
def zf0(W:Str)(GR:Bool->Int->List Pc->Frt->Frt)(r:List Pc):Prop:=∀(b:Bool) (m:Int) (R:List Int->Str->Prop) (F:Frt),0<=m->m+12*depR r<=200->nS R->Good W R F->lG W R F->lG W (Aft R (setR b m r)) (GR b m r F)
theorem ya1{GR:Bool->Int->List Pc->Frt->Frt}{tk:Bool}{F:Frt}:∀(xs:List (List Pc×Bool×Int)) (n:Nat) (A:Frt),(A.map (·.1)).Nodup->(∀(i:Nat) x,xs[i]? =some x->∀k z,Has (GR x.2.1 x.2.2 x.1 (if tk=true then jY F ((n+i:Nat):Int) else F)) k z->Has (frW GR tk F n xs A) k z)/\∀j z,Has A j z->Has (frW GR tk F n xs A) j z
 |[],n,A,nd=>⟨fun i x h=>by simp at h,fun _ _ h=>h⟩
 | x::xs,n,A,nd=>by
  rw [frW]
  obtain⟨a,b,c⟩:=uQ (G:=GR x.2.1 x.2.2 x.1 (if tk=true then jY F n else F)) nd
  obtain⟨d,e⟩:=ya1 (GR:=GR) (tk:=tk) (F:=F) xs (n+1) _ a
  refine⟨fun i y hy k z hk=> ?_,fun j z h=>e j z (c j z h)⟩
  cases i with
  |zero=>
   simp at hy
   subst hy
   obtain⟨w,hw,hn⟩:=hk
   exact e k z ((b (k,w) hw).le hn)
  |succ i=>exact d i y (by simpa using hy) k z (by rwa [show n+1+i=n+(i+1) by omega])
theorem yg5{W:Str}{GR:Bool->Int->List Pc->Frt->Frt}{k:Nat}(hG:∀r,depR r<k->okR r->zf0 W GR r){R:List Int->Str->Prop}{b:Bool}{m:Int}{p:Pc}{F:Frt}(hk:cX p<=k)(ho:okP p)(h0:0<=m)(h1:m+12*cX p<=200)(hf:nS R)(hF:Good W R F)(hB:lG W R F):lG W (Aft R (cH b m p)) (frP W GR b m F p):=by
 have hold:(∀l,p≠ .leaf l)->lG W (Aft R (cH b m p)) (frW GR (cZ b p) F 0 (cP b m p) []):=by
  intro hp
  rintro c t q ⟨c0,t0,c1,r,rfl,e⟩ hc
  obtain⟨i,x,c',hx,rfl,hs⟩:=xk1 hp e
  obtain⟨a1,a2,a3,a4⟩:=yM ho h0 h1 hk (ZT hx)
  refine(ya1 (GR:=GR) (tk:=cZ b p) (F:=F) (cP b m p) 0 [] Zf).1 i x hx q _ ?_
  rw [Yt]
  by_cases tk:cZ b p=true
  ·rw [if_pos tk,if_pos tk]
   exact hG x.1 a3 a4 x.2.1 x.2.2 _ _ a1 a2 (hf.chose i) (uL hF i) (yg3 hf hF hB i) _ t q ⟨c0++[(i:Int)],t0,c',⟨c0,r,rfl⟩,by rw [Zj],hs⟩ hc
  ·rw [if_neg tk,if_neg tk]
   exact hG x.1 a3 a4 x.2.1 x.2.2 _ _ a1 a2 hf hF hB _ t q ⟨c0,t0,c',r,rfl,hs⟩ hc
 cases p with
 |leaf l=>exact yg4 ho h0 (by rw [cX] at h1;omega) hB
 |group r=>exact hold nofun
 |hang n r=>exact hold nofun
 |either rs=>exact hold nofun
theorem zi4{W:Str}{GR:Bool->Int->List Pc->Frt->Frt}{k:Nat}(hGd:∀r,depR r<k->okR r->oE W GR r)(hG:∀r,depR r<k->okR r->zf0 W GR r){b:Bool}{m:Int}(h0:0<=m):∀{r:List Pc} {R:List Int->Str->Prop} {F:Frt},depR r<=k->okR r->m+12*depR r<=200->nS R->Good W R F->lG W R F->lG W (Aft R (setR b m r)) (r.foldl (fun F p=>frP W GR b m F p) F)
 |[],R,F,_,_,_,_,_,hB=>hB.mono fun c t ⟨c0,t0,c1,r,e,h⟩=>by
  rw [setR] at h
  cases h
  rw [e,Zh];exact r
 | p::r,R,F,hk,ho,h1,hf,hF,hB=>by
  rw [depR] at hk h1
  have hp:=uM hGd (b:=b) (show cX p<=k by omega) ho.1 h0 (by omega) hF
  have hb:=yg5 hG (b:=b) (show cX p<=k by omega) ho.1 h0 (by omega) hf hF hB
  have hff:nS (Aft R (cH b m p)):=hf.aft fun c x t t' e=>by rw [rT x e];rfl
  refine(zi4 hGd hG h0 (r:=r) (by omega) ho.2 (by omega) hff hp hb).mono fun c t=> ?_
  rintro⟨c0,t0,c1,r1,rfl,e⟩
  rw [setR] at e
  cases e2:cH b m p c1 t0 with
  |none=>rw [e2] at e;cases e
  |some s=>
   obtain⟨c2,t1⟩:=s
   rw [e2] at e
   obtain⟨a,rfl,e3⟩:=zs9 e2
   exact⟨c0++a,t1,c2,⟨c0,t0,a,r1,rfl,e3⟩,by rw [Zj],e⟩
theorem zt0{W:Str}:∀(n:Nat) (r:List Pc),depR r<n->okR r->zf0 W (frN W n) r
 |0,_,h,_=>absurd h (Yl _)
 |n+1,r,h,ho=>fun b m R F h0 h1 hf hF hB=>by
  rw [frN]
  exact zi4 (fun q h1 h2=>uN n q h1 h2) (fun q h1 h2=>zt0 n q h1 h2) h0 (by omega) ho h1 hf hF hB
theorem yg6{W:Str}{n:Nat}{r:List Pc}(hd:depR r<n)(ho:okR r)(h1:12*(depR r:Int)<=200):lG W (fun cs t=>setR true 0 r cs ⟨#[]⟩=some ([],t)) (dQ W n r):=by
 have hf:nS (fun cs t=>cs=[]/\t=⟨#[]⟩):=by
  rintro c x t t' ⟨rfl,rfl⟩ ⟨e,rfl⟩
  exact⟨e,rfl⟩
 have hb:lG W (fun cs t=>cs=[]/\t=⟨#[]⟩) [(0,((),[]))]:=by
  rintro c t k ⟨rfl,rfl⟩ hc
  obtain rfl:=yq5 hc (yg0 W)
  exact⟨_,ZB.mpr rfl,zd8 _⟩
 refine(zt0 n r hd ho true 0 _ _ (Y9 _) (by omega) hf (zS W) hb).mono fun c t e=> ?_
 exact⟨[],⟨#[]⟩,c,⟨rfl,rfl⟩,rfl,e⟩
theorem tH{m:Int}{x:Nat}(h:m+12*((x+1:Nat):Int)<=200):m+12*(x:Int)<=200:=by omega
theorem ya2{m:Int}{x y:Nat}(h:m+12*(y:Int)<=200)(hx:x<=y):m+12*(x:Int)<=200:=by omega
theorem yq7{m k:Int}{x:Nat}(h:m+12*((x+1:Nat):Int)<=200)(hk:k<=12):m+k+12*(x:Int)<=200:=by omega
theorem zi5{C:List Int}{u:Nat}{c:Int}{cs:List Int}(h:C.drop u=c::cs):C[u]? =some c/\C.drop (u+1)=cs/\u+1<=C.length:=by
 have hu:u<C.length:=by
  rcases Nat.lt_or_ge u C.length with h1|h1
  ·exact h1
  ·rw [List.drop_eq_nil_of_le h1] at h;cases h
 rw [ZO hu] at h
 cases h
 exact⟨Zn hu,rfl,hu⟩
def sU(t:Str)(cs:List Int)(c2:D)(c3:Int):D:= .lst true [.str t,.lst true (bV cs),c2,.int c3]
theorem xc7:ixN 4 1=some 1:=by decide
theorem iB{np n:Nat}{m:Nat->Bool}{f:tz1}{ds ds':List D}{d:D}{q:PSt}(hl:ds.length=np)(h:f (ds.map some++List.replicate n none)=some (.ret d,q))(ho:uZ m q 0 ds=some ds'):gE np n m f ds=some (d,ds'):=by
 unfold gE
 rw [if_pos hl,h,Z6]
 show(uZ m q 0 ds).bind _=_
 rw [ho];rfl
theorem uR{f:tz8}{p p':PSt}{d:D}(h:f p=some (d,p')):bR f p=some (.ret d,p'):=by unfold bR;rw [h];rfl
theorem zt1{i:Nat}{f:tz8}{p p':PSt}{d:D}(h:f p=some (d,p')):aS i f p=some (.nx,p'.set i (some d)):=by unfold aS;rw [h];rfl
theorem xq9{i:Nat}{fe:tz2}{y a:D}{l:List D}{p:PSt}(h:fe p=some y)(hp:p[i]? =some (some (.lst true (a::l)))):gG i cA (fC (.int 0)) fe p=some (.nx,p.set i (some (.lst true (y::l)))):=by
 have e:ixN (l.length+1) 0=some 0:=xp6 _
 simp [gG,h,hp,cA,fC,fS,rF,e]
theorem yO:∀{rs:List (List Pc)} {i:Nat} {r:List Pc},rs[i]? =some r->(rowsD rs)[i]? =some (.tup (pcsD r))
 |[],i,_,h=>by simp at h
 |q::rs,0,_,h=>by simp at h;subst h;rfl
 |q::rs,i+1,_,h=>by show(rowsD rs)[i]? =_;exact yO (by simpa using h)
section
variable{GH:tz7}{S:D}
abbrev dW(GH:tz7)(GS:tz7):tz7:=gE 5 1 (cI [false,false,false,false,true]) (za6 GS GH)
def jZ(GH:tz7):Nat->tz7
 |0=>fun _=>none
 |n+1=>gE 5 2 (cI [false,false,false,false,true]) (zv2 (dW GH (jZ GH n)))
abbrev xb4:tz2:=f2 kS (f2 kS (aJ cN (aA (f2 dIx (aB 4) (fC (.int 0))) aE)) (fC (.int 1))) (fMt wN (f2 dIx (aB 4) (fC (.int 0))) (aA (fC (.str "\n")) aE))
def hJ(GI:tz7):tz1:=aR (aS 6 (aH xb4))
 (fIf (aY (kR (kdT 5 "word") (cG (kdT 5 "gap") (fT (aB 2)))))
  (gG 4 cA (fC (.int 0)) (f2 bJ (f2 dIx (aB 4) (fC (.int 0))) (f2 dIx (aB 5) (fC (.int 1)))))
  (fIf (aY (cG (kdT 5 "stop") (fB (f2 dLe (aB 6) (f2 dIx (aB 5) (fC (.int 1)))))))
  (gG 4 cA (fC (.int 0)) (f2 bJ (f2 dIx (aB 4) (fC (.int 0))) (f2 iK (fC (.str " ")) (f2 kS (f2 dIx (aB 5) (fC (.int 1))) (aB 6)))))
  (fIf (aY (cG (kdT 5 "stop") (gR (fT (aB 2)))))
  (gG 4 cA (fC (.int 0)) (f2 bJ (f2 bJ (f2 dIx (aB 4) (fC (.int 0))) (fC (.str "\n"))) (f2 iK (fC (.str " ")) (f2 dIx (aB 5) (fC (.int 1))))))
  (fIf (aY (fB (f2 dIn (f2 dIx (aB 5) (fC (.int 0))) (cE (fKs [.str "gap",.str "end",.str "stop"])))))
  (aR (fIf (aY (fT (aB 2)))
  (bR (aH (fC (.bl false))))
  bP)
 (gG 4 cA (fC (.int 0)) (f2 bJ (f2 bJ (f2 dIx (aB 4) (fC (.int 0))) (fC (.str "\n"))) (f2 iK (fC (.str " ")) (aB 3)))))
  (fIf (oH (fTE (fIO [.im (aB 0),.im (aB 5),.im (aB 2),.im (aB 3),.io 4] GI)))
  (bR (aH (fC (.bl false))))
  bP)))))
theorem wI(k:String)(b:Bool)(h:dIn (.str k) (.lst true [.str "gap",.str "end",.str "stop"])=some (.bl b)){p:PSt}{ds:List D}(hp:p[5]? =some (some (.tup (.str k::ds)))):fB (f2 dIn (f2 dIx (aB 5) (fC (.int 0))) (cE (fKs [.str "gap",.str "end",.str "stop"]))) p=some b:=cU (aM (y:= .lst true [.str "gap",.str "end",.str "stop"]) (aM (lM hp) rfl (kE _ _)) rfl h)
theorem zt2{t:Str}{cs:List Int}{c2:D}{c3:Int}{x0 x1 x2 x3 x5 x6:Option D}(ht:t.length<=1000000):aS 6 (aH xb4) [x0,x1,x2,x3,some (sU t cs c2 c3),x5,x6]=some (.nx,[x0,x1,x2,x3,some (sU t cs c2 c3),x5,some (.int (col t:Int))]):=by
 have hs:sizeLine=16777216:=ZZ
 have hz:t.length<=sizeLine:=by omega
 have e:=yp2 t
 rw [<-xH] at e
 refine bF (d:= .int (col t:Int)) ?_
 simp! [xb4,sU,hz,fMt,zl3,wN,e]
theorem ya3{GI:tz7}{l:Leaf}{flat:Bool}{m:Int}{t w:Str}{cs:List Int}{c2:D}{c3:Int}{R x6:Option D}(hl:fE l)(h0:0<=m)(h1:m<=200)(ht:t.length<=900000)(e:wr (!flat) m (col t) l=some w):
  ∃y6,hJ GI [some S,R,some (.bl flat),some (.int m),some (sU t cs c2 c3),some (bU l),x6]=some (.nx,[some S,R,some (.bl flat),some (.int m),some (sU (t++w) cs c2 c3),some (bU l),y6]):=by
 have hs:sizeLine=16777216:=ZZ
 have c:=zt2 (cs:=cs) (c2:=c2) (c3:=c3) (x0:=some S) (x1:=R) (x2:=some (.bl flat)) (x3:=some (.int m)) (x5:=some (bU l)) (x6:=x6) (t:=t) (by omega)
 have add:∀x:Str,x.length<=1000->bJ (.str t) (.str x)=some (.str (t++x)):=fun x hx=>by rw [bJ,if_pos];omega
 have wrote:∀{fe:tz2} {x:Str} {y6:Option D},fe [some S,R,some (.bl flat),some (.int m),some (sU t cs c2 c3),some (bU l),y6]=some (.str (t++x))->gG 4 cA (fC (.int 0)) fe [some S,R,some (.bl flat),some (.int m),some (sU t cs c2 c3),some (bU l),y6]=some (.nx,[some S,R,some (.bl flat),some (.int m),some (sU (t++x) cs c2 c3),some (bU l),y6]):=fun h=>xq9 h rfl
 have i0:∀y6:Option D,f2 dIx (aB 4) (fC (.int 0)) [some S,R,some (.bl flat),some (.int m),some (sU t cs c2 c3),some (bU l),y6]=some (.str t):=fun y6=>aM (x:=sU t cs c2 c3) rfl rfl (kE _ _)
 have nl:∀{fe:tz2} {k:Int} {y6:Option D},0<=k->k<=200->fe [some S,R,some (.bl flat),some (.int m),some (sU t cs c2 c3),some (bU l),y6]=some (.int k)->f2 bJ (f2 bJ (f2 dIx (aB 4) (fC (.int 0))) (fC (.str "\n"))) (f2 iK (fC (.str " ")) fe) [some S,R,some (.bl flat),some (.int m),some (sU t cs c2 c3),some (bU l),y6]=some (.str (t++nlw k)):=fun {fe k y6} k0 k1 hf=>by
  have q:=zl0 k (by omega) (by omega)
  have e1:bJ (.str t) (.str "\n")=some (.str (t++(⟨#[10]⟩:Str))):=by
   rw [xH,bJ,if_pos]
   show t.length+1<=_;omega
  have e2:bJ (.str (t++(⟨#[10]⟩:Str))) (.str (Txt.mul " " k))=some (.str (t++nlw k)):=by
   rw [bJ,if_pos,xj6];rfl
   rw [eI,tF];show t.length+1+_<=_;omega
  exact aM (aM (i0 y6) rfl e1) (aM rfl hf q) e2
 cases l with
 |word x=>
  have e':x=w:=by simpa [wr] using e
  subst e'
  exact⟨_,(aK c).trans ((bD (xc4 (fN (i:=5) (k:="word") rfl (by decide)))).trans (wrote (aM (i0 _) (aM rfl rfl (eO _ _ _)) (add x (by have:=hl.2.1;omega)))))⟩
 | gap x=>
  have hx:x.length<=1:=by
   rcases(hl:x=""\/x=" ") with rfl|rfl<;>decide+kernel
  have w0:=fN (i:=5) (p:=[some S,R,some (.bl flat),some (.int m),some (sU t cs c2 c3),some (bU (.gap x)),some (.int (col t:Int))]) (k:="gap") (w:="word") rfl (b:=false) (by decide)
  have g0:=fN (i:=5) (p:=[some S,R,some (.bl flat),some (.int m),some (sU t cs c2 c3),some (bU (.gap x)),some (.int (col t:Int))]) (k:="gap") (w:="gap") rfl (b:=true) (by decide)
  have s0:=fN (i:=5) (p:=[some S,R,some (.bl flat),some (.int m),some (sU t cs c2 c3),some (bU (.gap x)),some (.int (col t:Int))]) (k:="gap") (w:="stop") rfl (b:=false) (by decide)
  cases flat with
  |true=>
   have e':x=w:=by simpa [wr] using e
   subst e'
   exact⟨_,(aK c).trans ((bD (lN w0 (eN g0 (iH rfl)))).trans (wrote (aM (i0 _) (aM rfl rfl (eO _ _ _)) (add x (by omega)))))⟩
  |false=>
   have e':nlw m=w:=by simpa [wr] using e
   subst e'
   exact⟨_,(aK c).trans ((dL (cD (lN w0 (eN g0 (iH rfl))))).trans ((dL (cD (eD s0))).trans ((dL (cD (eD s0))).trans ((bD (wI "gap" true (by kernel_rfl) rfl)).trans ((aK (aU (iH rfl))).trans (wrote (nl h0 h1 rfl)))))))⟩
 | fin=>
  have w0:=fN (i:=5) (p:=[some S,R,some (.bl flat),some (.int m),some (sU t cs c2 c3),some (bU .fin),some (.int (col t:Int))]) (k:="end") (w:="word") rfl (b:=false) (by decide)
  have g0:=fN (i:=5) (p:=[some S,R,some (.bl flat),some (.int m),some (sU t cs c2 c3),some (bU .fin),some (.int (col t:Int))]) (k:="end") (w:="gap") rfl (b:=false) (by decide)
  have s0:=fN (i:=5) (p:=[some S,R,some (.bl flat),some (.int m),some (sU t cs c2 c3),some (bU .fin),some (.int (col t:Int))]) (k:="end") (w:="stop") rfl (b:=false) (by decide)
  cases flat with
  |true=>simp [wr] at e
  |false=>
   have e':nlw m=w:=by simpa [wr] using e
   subst e'
   exact⟨_,(aK c).trans ((dL (cD (lN w0 (eD g0)))).trans ((dL (cD (eD s0))).trans ((dL (cD (eD s0))).trans ((bD (wI "end" true (by kernel_rfl) rfl)).trans ((aK (aU (iH rfl))).trans (wrote (nl h0 h1 rfl)))))))⟩
 | stop k=>
  have hk:0<=k/\k<=40:=hl
  have w0:=fN (i:=5) (p:=[some S,R,some (.bl flat),some (.int m),some (sU t cs c2 c3),some (bU (.stop k)),some (.int (col t:Int))]) (k:="stop") (w:="word") rfl (b:=false) (by decide)
  have g0:=fN (i:=5) (p:=[some S,R,some (.bl flat),some (.int m),some (sU t cs c2 c3),some (bU (.stop k)),some (.int (col t:Int))]) (k:="stop") (w:="gap") rfl (b:=false) (by decide)
  have s0:=fN (i:=5) (p:=[some S,R,some (.bl flat),some (.int m),some (sU t cs c2 c3),some (bU (.stop k)),some (.int (col t:Int))]) (k:="stop") (w:="stop") rfl (b:=true) (by decide)
  have le:fB (f2 dLe (aB 6) (f2 dIx (aB 5) (fC (.int 1)))) [some S,R,some (.bl flat),some (.int m),some (sU t cs c2 c3),some (bU (.stop k)),some (.int (col t:Int))]=some (decide ((col t:Int)<=k)):=cU (aM rfl (aM rfl rfl (eO _ _ _)) rfl)
  change (if ((col t:Nat):Int)<=k then some (Txt.mul " " (k-col t)) else if (!flat)=true then some (nlw k) else none)=some w at e
  by_cases z:(col t:Int)<=k
  ·rw [if_pos z] at e
   cases e
   rw [Ze z] at le
   have q:=zl0 (k-col t) (by omega) (by omega)
   exact⟨_,(aK c).trans ((dL (cD (lN w0 (eD g0)))).trans ((bD (eN s0 le)).trans (wrote (aM (i0 _) (aM rfl (aM (aM rfl rfl (eO _ _ _)) rfl rfl) q) (add _ (by rw [tF];omega))))))⟩
  ·rw [if_neg z] at e
   rw [Z5 z] at le
   cases flat with
   |true=>simp at e
   |false=>
    have e':nlw k=w:=by simpa using e
    subst e'
    exact⟨_,(aK c).trans ((dL (cD (lN w0 (eD g0)))).trans ((dL (cD (eN s0 le))).trans ((bD (eN s0 rfl)).trans (wrote (nl hk.1 (by omega) (aM rfl rfl (eO _ _ _)))))))⟩
theorem yy5{i:Nat}{fi:tz3}{f:tz1}{p p':PSt}{ds:List D}(h:fi p=some ds)(e:dM i f ds p=some (.nx,p')):gF i fi f p=some (.nx,p'):=by
 unfold gF
 rw [h];exact e
theorem yy6{f:tz8}{p p':PSt}(h:f p=some (.bl true,p')):oH (fTE f) p=some (false,p'):=by unfold oH fTE;rw [h];rfl
def okF(ok:Bool):Fl:=if ok=true then .nx else .ret (.bl false)
theorem uS{f:tz8}{p p':PSt}{ok:Bool}(h:f p=some (.bl ok,p')):oH (fTE f) p=some (!ok,p'):=by unfold oH fTE;rw [h];rfl
theorem ya4{p:Pc}{GI:tz7}(hS:S.imm=true)(hp:∀l,p≠ .leaf l){flat ok:Bool}{m:Int}{t t':Str}{cs cs':List Int}{c2:D}{c3:Int}{R x6:Option D}(ht:t.length<=1000000)
  (q:GI [S,pcD p,.bl flat,.int m,sU t cs c2 c3]=some (.bl ok,[S,pcD p,.bl flat,.int m,sU t' cs' c2 c3])):
  hJ GI [some S,R,some (.bl flat),some (.int m),some (sU t cs c2 c3),some (pcD p),x6]=some (okF ok,[some S,R,some (.bl flat),some (.int m),some (sU t' cs' c2 c3),some (pcD p),some (.int (col t:Int))]):=by
 have c:=zt2 (cs:=cs) (c2:=c2) (c3:=c3) (x0:=some S) (x1:=R) (x2:=some (.bl flat)) (x3:=some (.int m)) (x5:=some (pcD p)) (x6:=x6) (t:=t) ht
 have io:fIO [.im (aB 0),.im (aB 5),.im (aB 2),.im (aB 3),.io 4] GI [some S,R,some (.bl flat),some (.int m),some (sU t cs c2 c3),some (pcD p),some (.int (col t:Int))]=some (.bl ok,[some S,R,some (.bl flat),some (.int m),some (sU t' cs' c2 c3),some (pcD p),some (.int (col t:Int))]):=oT (cR (f:=aB 0) rfl hS (cR (f:=aB 5) rfl (jF p) (cR (f:=aB 2) rfl rfl (cR (f:=aB 3) rfl rfl (mR (j:=4) rfl fX))))) q rfl
 have go:∀(kn:String) (ds:List D),pcD p= .tup (.str kn::ds)->decide (kn="word")=false->decide (kn="gap")=false->decide (kn="stop")=false->dIn (.str kn) (.lst true [.str "gap",.str "end",.str "stop"])=some (.bl false)->hJ GI [some S,R,some (.bl flat),some (.int m),some (sU t cs c2 c3),some (pcD p),x6]=some (okF ok,[some S,R,some (.bl flat),some (.int m),some (sU t' cs' c2 c3),some (pcD p),some (.int (col t:Int))]):=fun kn ds hk a b d e=>by
  have kk:∀(w:String),decide (kn=w)=false->kdT 5 w [some S,R,some (.bl flat),some (.int m),some (sU t cs c2 c3),some (pcD p),some (.int (col t:Int))]=some false:=fun w hw=>fN (i:=5) (k:=kn) (ds:=ds) (by rw [hk];rfl) hw
  refine(aK c).trans ((dL (cD (lN (kk _ a) (eD (kk _ b))))).trans ((dL (cD (eD (kk _ d)))).trans ((dL (cD (eD (kk _ d)))).trans ((dL (cD (wI kn false e (ds:=ds) (by rw [hk];rfl)))).trans ?_))))
  cases ok with
  |true=>exact(dL (uS io)).trans rfl
  |false=>exact(yf5 (uS io)).trans rfl
 cases p with
 |leaf l=>exact absurd rfl (hp l)
 |group r=>exact go "group" _ rfl (by decide) (by decide) (by decide) (by kernel_rfl)
 |hang n r=>exact go "hang" _ rfl (by decide) (by decide) (by decide) (by kernel_rfl)
 |either rs=>exact go "either" _ rfl (by decide) (by decide) (by decide) (by kernel_rfl)
end
def uD(C:List Int)(t:Str)(u:Nat):D:=sU t (C.take u) (.tup (bV C)) 0
section
variable{GH:tz7}{S:D}
def zf1(S:D)(GH:tz7):Prop:=∀(C:List Int) (t:Str) (u many:Nat) (c:Int),C[u]? =some c->0<=c->c<many->C.length<=900->GH [S,uD C t u,.int (many:Int)]=some (.int c,[S,uD C t (u+1),.int (many:Int)])
def ByR(S:D)(GS:tz7)(r:List Pc):Prop:=∀(flat:Bool) (m:Int) (C:List Int) (u:Nat) (t:Str) (cs':List Int) (t':Str),0<=m->m+12*depR r<=200->C.length<=900->setR (!flat) m r (C.drop u) t=some (cs',t')->u<=C.length->t.length+201*(toksR r).length<=900000->
 ∃u',GS [S,.tup (pcsD r),.bl flat,.int m,uD C t u]=some (.bl true,[S,.tup (pcsD r),.bl flat,.int m,uD C t' u'])/\C.drop u'=cs'/\u'<=C.length/\t'.length<=t.length+201*(toksR r).length
theorem yy7{GS:tz7}{p:Pc}{k:Nat}(hS:S.imm=true)(hH:zf1 S GH)(hG:∀r,depR r<k->okR r->ByR S GS r)(hd:cX p<=k)(ho:okP p)(hp:∀l,p≠ .leaf l){flat:Bool}{m:Int}{C:List Int}{u:Nat}{t:Str}{cs':List Int}{t':Str}(h0:0<=m)(h1:m+12*cX p<=200)(hC:C.length<=900)
  (h:cH (!flat) m p (C.drop u) t=some (cs',t')) (hu:u<=C.length) (hf:t.length+201*(bN p).length<=900000):∃u',dW GH GS [S,pcD p,.bl flat,.int m,uD C t u]=some (.bl true,[S,pcD p,.bl flat,.int m,uD C t' u'])/\C.drop u'=cs'/\u'<=C.length/\t'.length<=t.length+201*(bN p).length:=by
 have kd:∀(k w:String) (ds:List D) (b:Bool) (x5:Option D) (st:D),pcD p= .tup (.str k::ds)->decide (k=w)=b->kdT 1 w [some S,some (pcD p),some (.bl flat),some (.int m),some st,x5]=some b:=fun k w ds b x5 st hk hb=>fN (i:=1) (k:=k) (ds:=ds) (by rw [hk];rfl) hb
 have call:∀{a1 a2 a3:tz2} {r:List Pc} {b:Bool} {m':Int} {s0 s1:D} {x5:Option D},a1 [some S,some (pcD p),some (.bl flat),some (.int m),some s0,x5]=some (.tup (pcsD r))->a2 [some S,some (pcD p),some (.bl flat),some (.int m),some s0,x5]=some (.bl b)->a3 [some S,some (pcD p),some (.bl flat),some (.int m),some s0,x5]=some (.int m')->GS [S,.tup (pcsD r),.bl b,.int m',s0]=some (.bl true,[S,.tup (pcsD r),.bl b,.int m',s1])->
   fIO [.im (aB 0),.im a1,.im a2,.im a3,.io 4] GS [some S,some (pcD p),some (.bl flat),some (.int m),some s0,x5]=some (.bl true,[some S,some (pcD p),some (.bl flat),some (.int m),some s1,x5]):=fun e1 e2 e3 q=>oT (cR (f:=aB 0) rfl hS (cR e1 (pcs_imm _) (cR e2 rfl (cR e3 rfl (mR (j:=4) rfl fX))))) q rfl
 have draw:∀{f:tz2} {many:Nat} {c:Int} {x5:Option D},f [some S,some (pcD p),some (.bl flat),some (.int m),some (uD C t u),x5]=some (.int (many:Int))->C[u]? =some c->0<=c->c<many->aS 5 (fIO [.im (aB 0),.io 4,.im f] GH) [some S,some (pcD p),some (.bl flat),some (.int m),some (uD C t u),x5]=some (.nx,[some S,some (pcD p),some (.bl flat),some (.int m),some (uD C t (u+1)),some (.int c)]):=fun hf hu h0 h1=>zt1 (oT (cR (f:=aB 0) rfl hS (mR (j:=4) rfl (cR hf rfl fX))) (hH _ _ _ _ _ hu h0 h1 hC) rfl)
 have fin:∀{a1 a2 a3:tz2} {r:List Pc} {b:Bool} {m':Int} {s0 s1:D} {c:Int},0<=c->a1 [some S,some (pcD p),some (.bl flat),some (.int m),some s0,some (.int c)]=some (.tup (pcsD r))->a2 [some S,some (pcD p),some (.bl flat),some (.int m),some s0,some (.int c)]=some (.bl b)->a3 [some S,some (pcD p),some (.bl flat),some (.int m),some s0,some (.int c)]=some (.int m')->GS [S,.tup (pcsD r),.bl b,.int m',s0]=some (.bl true,[S,.tup (pcsD r),.bl b,.int m',s1])->
   bR (sB (f2 dGe (aB 5) (fC (.int 0))) (fIO [.im (aB 0),.im a1,.im a2,.im a3,.io 4] GS)) [some S,some (pcD p),some (.bl flat),some (.int m),some s0,some (.int c)]=some (.ret (.bl true),[some S,some (pcD p),some (.bl flat),some (.int m),some s1,some (.int c)]):=fun {a1 a2 a3 r b m' s0 s1 c} h0 e1 e2 e3 q=>by
  have g:f2 dGe (aB 5) (fC (.int 0)) [some S,some (pcD p),some (.bl flat),some (.int m),some s0,some (.int c)]=some (.bl true):=aM rfl rfl (by
   show some (D.bl (decide _))=_
   rw [Ze h0])
  refine uR ?_
  unfold sB
  rw [g]
  exact call e1 e2 e3 q
 cases p with
 |leaf l=>exact absurd rfl (hp l)
 |hang n r=>
  have ho':(0<=n/\n<=12)/\okR r:=ho
  rw [cX] at hd h1
  have ht:(bN (.hang n r)).length=(toksR r).length+2:=by simp [bN]
  rw [ht] at hf|-
  rw [cH] at h
  obtain⟨u',q,e1,e2,e3⟩:=hG r hd ho'.2 flat (m+n) C u t cs' t' (Int.add_nonneg h0 ho'.1.1) (yq7 h1 ho'.1.2) hC h hu (by omega)
  refine⟨u',iB rfl (dO ((bD (kd "hang" "hang" _ true none _ rfl (by decide))).trans (uR (call (aM rfl rfl (zr3 _ _ _ _)) rfl (aM rfl (aM rfl rfl (eO _ _ _)) rfl) q)))) rfl,e1,e2,by omega⟩
 | group r=>
  have ho':okR r:=ho
  rw [cX] at hd h1
  have ht:(bN (.group r)).length=(toksR r).length+2:=by simp [bN]
  rw [ht] at hf|-
  rw [cH.eq_def] at h
  simp only at h
  have k1:=kd "group" "hang" _ false none (uD C t u) rfl (by decide)
  have k2:=kd "group" "group" _ true none (uD C t u) rfl (by decide)
  cases flat with
  |true=>
   simp only [Bool.not_true,ZV,Yz] at h
   obtain⟨u',q,e1,e2,e3⟩:=hG r hd ho' true m C u t cs' t' h0 (tH h1) hC h hu (by omega)
   refine⟨u',iB rfl ((aK (aU k1)).trans (dO ((bD k2).trans ((aK (bF rfl)).trans ((aK (aU rfl)).trans (fin (Y9 _) (aM rfl rfl (eO _ _ _)) rfl rfl q)))))) rfl,e1,e2,by omega⟩
  | false=>
   cases hCu:C.drop u with
   |nil=>rw [hCu] at h;simp at h
   | cons c cs=>
    obtain⟨g1,g2,g3⟩:=zi5 hCu
    rw [hCu] at h
    simp only [Bool.not_false,ZW] at h
    have go:∀bb:Bool,decide (c=0)=bb->0<=c->c<((2:Nat):Int)->setR (!bb) m r cs t=some (cs',t')->∃u',dW GH GS [S,pcD (.group r),.bl false,.int m,uD C t u]=some (.bl true,[S,pcD (.group r),.bl false,.int m,uD C t' u'])/\C.drop u'=cs'/\u'<=C.length/\t'.length<=t.length+201*((toksR r).length+2):=fun bb hbb c0 c1 hs=>by
     rw [<-g2] at hs
     obtain⟨u',q,e1,e2,e3⟩:=hG r hd ho' bb m C (u+1) t cs' t' h0 (tH h1) hC hs g3 (by omega)
     refine⟨u',iB rfl ((aK (aU k1)).trans (dO ((bD k2).trans ((aK (bF rfl)).trans ((aK ((bD rfl).trans (draw (many:=2) rfl g1 c0 c1))).trans (fin c0 (aM rfl rfl (eO _ _ _)) (aM rfl rfl (by rw [<-hbb];rfl)) rfl q)))))) rfl,e1,e2,by omega⟩
    by_cases c0:c=0
    ·subst c0
     rw [if_pos rfl] at h
     exact go true rfl (Y9 _) (by decide) h
    ·rw [if_neg c0] at h
     by_cases c1:c=1
     ·subst c1
      rw [if_pos rfl] at h
      exact go false rfl (by decide) (by decide) h
     ·rw [if_neg c1] at h;cases h
 | either rs=>
  have ho':(2<=rs.length/\rs.length<=4)/\okRs rs:=ho
  rw [cH.eq_def] at h
  simp only at h
  have k1:=kd "either" "hang" _ false none (uD C t u) rfl (by decide)
  have k2:=kd "either" "group" _ false none (uD C t u) rfl (by decide)
  cases hCu:C.drop u with
  |nil=>rw [hCu] at h;cases h
  | cons c cs=>
   obtain⟨g1,g2,g3⟩:=zi5 hCu
   rw [hCu] at h
   simp only at h
   by_cases c0:0<=c
   ·rw [if_pos c0] at h
    cases hr:rs[c.toNat]? with
    |none=>rw [uH hr] at h;cases h
    | some r=>
     rw [oU hr,<-g2] at h
     have hdr:=rV hr
     have hor:=uJ ho'.2 hr
     have htr:=sJ (ZT hr)
     have ht:(bN (.either rs)).length=(toksRows rs).length+2:=by simp [bN]
     have hlt:c.toNat<rs.length:=(Z7.mp hr).1
     rw [cX] at hd h1
     rw [ht] at hf|-
     obtain⟨u',q,e1,e2,e3⟩:=hG r (Ym hdr hd) hor flat m C (u+1) t cs' t' h0 (ya2 (tH h1) hdr) hC h g3 (by omega)
     have ix:atI (rowsD rs) c=some (.tup (pcsD r)):=by
      have:=mO (yO hr)
      rwa [Int.toNat_of_nonneg c0] at this
     refine⟨u',iB rfl ((aK (aU k1)).trans ((aK (aU k2)).trans ((aK (draw (many:=rs.length) (aT (aD (aM rfl rfl (eO _ _ _)) rfl) (by show some (D.int ((rowsD rs).length:Int))=_;rw [iQ])) g1 c0 (by omega))).trans (fin c0 (aM (aM rfl rfl (eO _ _ _)) rfl ix) rfl rfl q)))) rfl,e1,e2,by omega⟩
   ·rw [if_neg c0] at h;cases h
theorem ze1{p:Pc}{k:Nat}{GS:tz7}(hS:S.imm=true)(hH:zf1 S GH)(hG:∀r,depR r<k->okR r->ByR S GS r)(hd:cX p<=k)(ho:okP p)(hp:∀l,p≠ .leaf l){flat:Bool}{m:Int}{C:List Int}{u:Nat}{t:Str}{cs':List Int}{t':Str}{R x6:Option D}(h0:0<=m)(h1:m+12*cX p<=200)(hC:C.length<=900)
  (h:cH (!flat) m p (C.drop u) t=some (cs',t')) (hu:u<=C.length) (hf:t.length+201*(bN p).length<=900000):∃u' y6,hJ (dW GH GS) [some S,R,some (.bl flat),some (.int m),some (uD C t u),some (pcD p),x6]=some (.nx,[some S,R,some (.bl flat),some (.int m),some (uD C t' u'),some (pcD p),y6])/\C.drop u'=cs'/\u'<=C.length/\t'.length<=t.length+201*(bN p).length:=by
 obtain⟨u',q,e1,e2,e3⟩:=yy7 (GH:=GH) hS hH hG hd ho hp h0 h1 hC h hu hf
 exact⟨u',some (.int (col t:Int)),ya4 (GI:=dW GH GS) (ok:=true) hS hp (by omega) q,e1,e2,e3⟩
theorem ya5{GS:tz7}{k:Nat}{R:Option D}{flat:Bool}{m:Int}{C:List Int}(hS:S.imm=true)(hH:zf1 S GH)(hG:∀r,depR r<k->okR r->ByR S GS r)(h0:0<=m)(hC:C.length<=900):∀(r:List Pc) (u:Nat) (t:Str) (cs':List Int) (t':Str) (x5 x6:Option D),depR r<=k->okR r->m+12*depR r<=200->setR (!flat) m r (C.drop u) t=some (cs',t')->u<=C.length->t.length+201*(toksR r).length<=900000->
  ∃u' y5 y6,dM 5 (hJ (dW GH GS)) (pcsD r) [some S,R,some (.bl flat),some (.int m),some (uD C t u),x5,x6]=some (.nx,[some S,R,some (.bl flat),some (.int m),some (uD C t' u'),y5,y6])/\C.drop u'=cs'/\u'<=C.length/\t'.length<=t.length+201*(toksR r).length
 |[],u,t,cs',t',x5,x6,_,_,_,h,hu,_=>by
  rw [setR] at h
  cases h
  exact⟨u,x5,x6,rfl,rfl,hu,Xi _ _⟩
 | p ::r,u,t,cs',t',x5,x6,hd,ho,h1,h,hu,hf=>by
  have htk:(toksR (p::r)).length=(bN p).length+(toksR r).length:=by rw [toksR,Z3]
  rw [htk] at hf|-
  rw [depR] at hd h1
  rw [setR] at h
  cases e:cH (!flat) m p (C.drop u) t with
  |none=>rw [e] at h;cases h
  | some s=>
   obtain⟨c1,t1⟩:=s
   rw [e] at h
   have one:∃u1 y6,hJ (dW GH GS) [some S,R,some (.bl flat),some (.int m),some (uD C t u),some (pcD p),x6]=some (.nx,[some S,R,some (.bl flat),some (.int m),some (uD C t1 u1),some (pcD p),y6])/\C.drop u1=c1/\u1<=C.length/\t1.length<=t.length+201*(bN p).length:=by
    cases hp:p with
    | leaf l=>
     subst hp
     rw [cH] at e
     cases ew:wr (!flat) m (col t) l with
     |none=>rw [ew] at e;cases e
     |some w=>
      rw [ew] at e
      cases e
      have h1':m<=200:=by omega
      obtain⟨_,hz⟩:=zk9 (l:=l) ho.1 h0 h1' ew
      obtain⟨y6,q⟩:=ya3 (GI:=dW GH GS) (S:=S) (cs:=C.take u) (c2:= .tup (bV C)) (c3:=0) (R:=R) (x6:=x6) (l:=l) ho.1 h0 h1' (by omega) ew
      refine⟨u,y6,q,rfl,hu,?_⟩
      rw [eI,show(bN (.leaf l)).length=1 from rfl];omega
    |group r'=>subst hp;exact ze1 hS hH hG (by omega) ho.1 nofun h0 (by omega) hC e hu (by omega)
    |hang n r'=>subst hp;exact ze1 hS hH hG (by omega) ho.1 nofun h0 (by omega) hC e hu (by omega)
    |either rs=>subst hp;exact ze1 hS hH hG (by omega) ho.1 nofun h0 (by omega) hC e hu (by omega)
   obtain⟨u1,y6,q1,g1,g2,g3⟩:=one
   subst g1
   obtain⟨u',z5,z6,q2,k1,k2,k3⟩:=ya5 hS hH hG h0 hC r u1 t1 cs' t' (some (pcD p)) y6 (by omega) ho.2 (by omega) h g2 (by omega)
   refine⟨u',z5,z6,?_,k1,k2,by omega⟩
   show dM 5 (hJ (dW GH GS)) (pcD p::pcsD r) _=_
   rw [dM]
   show((hJ (dW GH GS) [some S,R,some (.bl flat),some (.int m),some (uD C t u),some (pcD p),x6]).bind _)=_
   rw [q1]
   exact q2
theorem ya6(hS:S.imm=true)(hH:zf1 S GH):∀(n:Nat) (r:List Pc),depR r<n->okR r->ByR S (jZ GH n) r
 |0,_,h,_=>absurd h (Yl _)
 |n+1,r,h,ho=>fun flat m C u t cs' t' h0 h1 hC hs hu hf=>by
  obtain⟨u',y5,y6,q,e1,e2,e3⟩:=ya5 (GH:=GH) (GS:=jZ GH n) (R:=some (.tup (pcsD r))) hS hH (fun r' a b=>ya6 hS hH n r' a b) h0 hC r u t cs' t' none none (by omega) ho h1 hs hu hf
  refine⟨u',iB rfl ((aK (yy5 rfl q)).trans (bS rfl)) rfl,e1,e2,e3⟩
abbrev gBy(GH:tz7)(n:Nat):tz6:=gP 2 1 (yb9 (jZ GH n))
theorem xc8{n:Nat}{r:List Pc}{C:List Int}{t:Str}(hH:zf1 (.lst false []) GH)(hd:depR r<n)(h8:depR r<=16)(ho:okR r)(hl:(toksR r).length<=800)(hC:C.length<=900)(h:setR true 0 r C ⟨#[]⟩=some ([],t)):gBy GH n [.tup (pcsD r),.tup (bV C)]=some (.str t):=by
 obtain⟨u',q,e1,e2,e3⟩:=ya6 (GH:=GH) (S:= .lst false []) rfl hH n r hd ho false 0 C 0 ⟨#[]⟩ [] t (Y9 _) (by omega) hC h (ZH _) (by show 0+_<=_;omega)
 have hu:u'=C.length:=by
  have:=ZS List.length e1
  rw [Xe,ZL] at this
  omega
 subst hu
 have im:=jL C
 have em:uD C ⟨#[]⟩ 0= .lst true [.str "",.lst true [],.tup (bV C),.int 0]:=by
  unfold uD sU
  rw [show("":Str)=⟨#[]⟩ from by decide+kernel];rfl
 have s1:aS 2 (aH (cE (aA (fC (.str "")) (aA (cE aE) (aA (aZ (aB 1)) (aA (fC (.int 0)) aE)))))) [some (.tup (pcsD r)),some (.tup (bV C)),none]=some (.nx,[some (.tup (pcsD r)),some (.tup (bV C)),some (uD C ⟨#[]⟩ 0)]):=by
  rw [em]
  exact bF (fA (aD rfl (aD (d:= .lst true []) rfl (aD (cF (d:= .tup (bV C)) rfl im) (aD rfl rfl)))) (Z2 rfl))
 have io:fIO [.im (zl8 (cE aE)),.im (aB 0),.im (fC (.bl false)),.im (fC (.int 0)),.io 2] (jZ GH n) [some (.tup (pcsD r)),some (.tup (bV C)),some (uD C ⟨#[]⟩ 0)]=some (.bl true,[some (.tup (pcsD r)),some (.tup (bV C)),some (uD C t C.length)]):=oT (cR (d:= .lst false []) rfl rfl (cR (f:=aB 0) (d:= .tup (pcsD r)) rfl (pcs_imm r) (cR (f:=fC (.bl false)) rfl rfl (cR (f:=fC (.int 0)) rfl rfl (mR (j:=2) rfl fX))))) q rfl
 have ne:fB (f2 dNe (aJ cN (aA (f2 dIx (aB 2) (fC (.int 1))) aE)) (aJ cN (aA (aB 1) aE))) [some (.tup (pcsD r)),some (.tup (bV C)),some (uD C t C.length)]=some false:=cU (aM (x:= .int (C.length:Int)) (y:= .int (C.length:Int)) (aT (aD (aM (x:=uD C t C.length) rfl rfl (eO _ _ _)) rfl) (by show some (D.int ((bV (C.take C.length)).length:Int))=_;rw [jK,List.take_length])) (aT (aD rfl rfl) (by show some (D.int ((bV C).length:Int))=_;rw [jK])) (by show some (D.bl (!decide ((C.length:Int)=C.length)))=_;rw [Ze rfl];rfl))
 have s2:fIf (zm1 (oH (fTE (fIO [.im (zl8 (cE aE)),.im (aB 0),.im (fC (.bl false)),.im (fC (.int 0)),.io 2] (jZ GH n)))) (fB (f2 dNe (aJ cN (aA (f2 dIx (aB 2) (fC (.int 1))) aE)) (aJ cN (aA (aB 1) aE))))) (bR (aH (fC .non))) bP [some (.tup (pcsD r)),some (.tup (bV C)),some (uD C ⟨#[]⟩ 0)]=some (.nx,[some (.tup (pcsD r)),some (.tup (bV C)),some (uD C t C.length)]):=by
  refine(dL (p':=[some (.tup (pcsD r)),some (.tup (bV C)),some (uD C t C.length)]) ?_).trans rfl
  unfold zm1
  rw [yy6 io,Z6]
  simp only [ZV,Yz]
  rw [ne];rfl
 exact kA rfl ((aK s1).trans ((aK s2).trans (bS (cF (aM (x:=uD C t C.length) rfl rfl (kE _ _)) rfl))))
end
theorem xk2{GI:tz7}{S:D}{l:Leaf}{flat:Bool}{m:Int}{t:Str}{cs:List Int}{c2:D}{c3:Int}{R x6:Option D}(hl:fE l)(ht:t.length<=900000)(e:wr (!flat) m (col t) l=none):
  flat=true/\∃y6,hJ GI [some S,R,some (.bl flat),some (.int m),some (sU t cs c2 c3),some (bU l),x6]=some (.ret (.bl false),[some S,R,some (.bl flat),some (.int m),some (sU t cs c2 c3),some (bU l),y6]):=by
 have hs:sizeLine=16777216:=ZZ
 have c:=zt2 (cs:=cs) (c2:=c2) (c3:=c3) (x0:=some S) (x1:=R) (x2:=some (.bl flat)) (x3:=some (.int m)) (x5:=some (bU l)) (x6:=x6) (t:=t) (by omega)
 cases l with
 |word x=>simp [wr] at e
 |gap x=>cases flat<;>simp [wr] at e
 | fin=>
  cases flat with
  |false=>simp [wr] at e
  |true=>
   have w0:=fN (i:=5) (p:=[some S,R,some (.bl true),some (.int m),some (sU t cs c2 c3),some (bU .fin),some (.int (col t:Int))]) (k:="end") (w:="word") rfl (b:=false) (by decide)
   have g0:=fN (i:=5) (p:=[some S,R,some (.bl true),some (.int m),some (sU t cs c2 c3),some (bU .fin),some (.int (col t:Int))]) (k:="end") (w:="gap") rfl (b:=false) (by decide)
   have s0:=fN (i:=5) (p:=[some S,R,some (.bl true),some (.int m),some (sU t cs c2 c3),some (bU .fin),some (.int (col t:Int))]) (k:="end") (w:="stop") rfl (b:=false) (by decide)
   exact⟨rfl,_,(aK c).trans ((dL (cD (lN w0 (eD g0)))).trans ((dL (cD (eD s0))).trans ((dL (cD (eD s0))).trans ((bD (wI "end" true (by kernel_rfl) rfl)).trans (dO ((bD (iH rfl)).trans (bS rfl)))))))⟩
 | stop k=>
  have hk:0<=k/\k<=40:=hl
  change (if ((col t:Nat):Int)<=k then some (Txt.mul " " (k-col t)) else if (!flat)=true then some (nlw k) else none)=none at e
  by_cases z:(col t:Int)<=k
  ·rw [if_pos z] at e;cases e
  ·rw [if_neg z] at e
   cases flat with
   |false=>simp at e
   |true=>
    have w0:=fN (i:=5) (p:=[some S,R,some (.bl true),some (.int m),some (sU t cs c2 c3),some (bU (.stop k)),some (.int (col t:Int))]) (k:="stop") (w:="word") rfl (b:=false) (by decide)
    have g0:=fN (i:=5) (p:=[some S,R,some (.bl true),some (.int m),some (sU t cs c2 c3),some (bU (.stop k)),some (.int (col t:Int))]) (k:="stop") (w:="gap") rfl (b:=false) (by decide)
    have s0:=fN (i:=5) (p:=[some S,R,some (.bl true),some (.int m),some (sU t cs c2 c3),some (bU (.stop k)),some (.int (col t:Int))]) (k:="stop") (w:="stop") rfl (b:=true) (by decide)
    have le:fB (f2 dLe (aB 6) (f2 dIx (aB 5) (fC (.int 1)))) [some S,R,some (.bl true),some (.int m),some (sU t cs c2 c3),some (bU (.stop k)),some (.int (col t:Int))]=some (decide ((col t:Int)<=k)):=cU (aM rfl (aM rfl rfl (eO _ _ _)) rfl)
    rw [Z5 z] at le
    exact⟨rfl,_,(aK c).trans ((dL (cD (lN w0 (eD g0)))).trans ((dL (cD (eN s0 le))).trans ((dL (cD (eN s0 (gQ (b:=true) (iH rfl))))).trans ((bD (wI "stop" true (by kernel_rfl) rfl)).trans (dO ((bD (iH rfl)).trans (bS rfl)))))))⟩
def yQ(c l w:Nat):Prop:=c+w<=900/\l+201*w<=900000
section
variable{GH:tz7}{S:D}
def zv7(S:D)(GH:tz7):Prop:=∀(t:Str) (cs:List Int) (many:Nat) (salt:Int),0<many->many<=4->0<=salt->salt<=900->cs.length<=900->
 ∃c:Nat,c<many/\(salt=0->c+1=many)/\GH [S,sU t cs .non salt,.int (many:Int)]=some (.int (c:Int),[S,sU t (cs++[(c:Int)]) .non salt,.int (many:Int)])
def DrR(S:D)(GS:tz7)(r:List Pc):Prop:=∀(flat:Bool) (m:Int) (t:Str) (cs:List Int) (salt:Int),0<=m->m+12*depR r<=200->0<=salt->salt<=900->yQ cs.length t.length (toksR r).length->
 ∃ok t' ds,GS [S,.tup (pcsD r),.bl flat,.int m,sU t cs .non salt]=some (.bl ok,[S,.tup (pcsD r),.bl flat,.int m,sU t' (cs++ds) .non salt])/\(ok=true->∀x,setR (!flat) m r (ds++x) t=some (x,t'))/\(salt=0->flat=false->ok=true)/\ds.length<=(toksR r).length/\t'.length<=t.length+201*(toksR r).length
def DrP(S:D)(GI:tz7)(p:Pc):Prop:=∀(flat:Bool) (m:Int) (t:Str) (cs:List Int) (salt:Int),0<=m->m+12*cX p<=200->0<=salt->salt<=900->yQ cs.length t.length (bN p).length->
 ∃ok t' ds,GI [S,pcD p,.bl flat,.int m,sU t cs .non salt]=some (.bl ok,[S,pcD p,.bl flat,.int m,sU t' (cs++ds) .non salt])/\(ok=true->∀x,cH (!flat) m p (ds++x) t=some (x,t'))/\(salt=0->flat=false->ok=true)/\ds.length<=(bN p).length/\t'.length<=t.length+201*(bN p).length
theorem yy8{GS:tz7}{p:Pc}{k:Nat}(hS:S.imm=true)(hH:zv7 S GH)(hG:∀r,depR r<k->okR r->DrR S GS r)(hd:cX p<=k)(ho:okP p)(hp:∀l,p≠ .leaf l):DrP S (dW GH GS) p:=fun flat m t cs salt h0 h1 s0 s1 hf=>by
 have kd:∀(k w:String) (ds:List D) (b:Bool) (x5:Option D) (st:D),pcD p= .tup (.str k::ds)->decide (k=w)=b->kdT 1 w [some S,some (pcD p),some (.bl flat),some (.int m),some st,x5]=some b:=fun k w ds b x5 st hk hb=>fN (i:=1) (k:=k) (ds:=ds) (by rw [hk];rfl) hb
 have call:∀{a1 a2 a3:tz2} {r:List Pc} {b ok:Bool} {m':Int} {q0 q1:D} {x5:Option D},a1 [some S,some (pcD p),some (.bl flat),some (.int m),some q0,x5]=some (.tup (pcsD r))->a2 [some S,some (pcD p),some (.bl flat),some (.int m),some q0,x5]=some (.bl b)->a3 [some S,some (pcD p),some (.bl flat),some (.int m),some q0,x5]=some (.int m')->GS [S,.tup (pcsD r),.bl b,.int m',q0]=some (.bl ok,[S,.tup (pcsD r),.bl b,.int m',q1])->
   fIO [.im (aB 0),.im a1,.im a2,.im a3,.io 4] GS [some S,some (pcD p),some (.bl flat),some (.int m),some q0,x5]=some (.bl ok,[some S,some (pcD p),some (.bl flat),some (.int m),some q1,x5]):=fun e1 e2 e3 q=>oT (cR (f:=aB 0) rfl hS (cR e1 (pcs_imm _) (cR e2 rfl (cR e3 rfl (mR (j:=4) rfl fX))))) q rfl
 have fin:∀{a1 a2 a3:tz2} {r:List Pc} {b ok:Bool} {m':Int} {q0 q1:D} {c:Int},0<=c->a1 [some S,some (pcD p),some (.bl flat),some (.int m),some q0,some (.int c)]=some (.tup (pcsD r))->a2 [some S,some (pcD p),some (.bl flat),some (.int m),some q0,some (.int c)]=some (.bl b)->a3 [some S,some (pcD p),some (.bl flat),some (.int m),some q0,some (.int c)]=some (.int m')->GS [S,.tup (pcsD r),.bl b,.int m',q0]=some (.bl ok,[S,.tup (pcsD r),.bl b,.int m',q1])->
   bR (sB (f2 dGe (aB 5) (fC (.int 0))) (fIO [.im (aB 0),.im a1,.im a2,.im a3,.io 4] GS)) [some S,some (pcD p),some (.bl flat),some (.int m),some q0,some (.int c)]=some (.ret (.bl ok),[some S,some (pcD p),some (.bl flat),some (.int m),some q1,some (.int c)]):=fun {a1 a2 a3 r b ok m' q0 q1 c} h0 e1 e2 e3 q=>by
  have g:f2 dGe (aB 5) (fC (.int 0)) [some S,some (pcD p),some (.bl flat),some (.int m),some q0,some (.int c)]=some (.bl true):=aM rfl rfl (by
   show some (D.bl (decide _))=_
   rw [Ze h0])
  refine uR ?_
  unfold sB
  rw [g]
  exact call e1 e2 e3 q
 have draw:∀{f:tz2} {many:Nat} {x5:Option D},0<many->many<=4->f [some S,some (pcD p),some (.bl flat),some (.int m),some (sU t cs .non salt),x5]=some (.int (many:Int))->∃c:Nat,c<many/\(salt=0->c+1=many)/\aS 5 (fIO [.im (aB 0),.io 4,.im f] GH) [some S,some (pcD p),some (.bl flat),some (.int m),some (sU t cs .non salt),x5]=some (.nx,[some S,some (pcD p),some (.bl flat),some (.int m),some (sU t (cs++[(c:Int)]) .non salt),some (.int (c:Int))]):=fun {f many x5} hmn hm4 hf=>by
  have hc:cs.length<=900:=by have:=‹yQ _ _ _›;unfold yQ at this;omega
  obtain⟨c,c1,c2,q⟩:=hH t cs many salt hmn hm4 s0 s1 hc
  exact⟨c,c1,c2,zt1 (oT (cR (f:=aB 0) rfl hS (mR (j:=4) rfl (cR hf rfl fX))) q rfl)⟩
 unfold yQ at hf
 cases p with
 |leaf l=>exact absurd rfl (hp l)
 |hang n r=>
  have ho':(0<=n/\n<=12)/\okR r:=ho
  rw [cX] at hd h1
  have ht:(bN (.hang n r)).length=(toksR r).length+2:=by simp [bN]
  rw [ht] at hf|-
  obtain⟨ok,t',ds,q,e1,e2,e3,e4⟩:=hG r hd ho'.2 flat (m+n) t cs salt (Int.add_nonneg h0 ho'.1.1) (yq7 h1 ho'.1.2) s0 s1 ⟨by omega,by omega⟩
  refine⟨ok,t',ds,iB rfl (dO ((bD (kd "hang" "hang" _ true none _ rfl (by decide))).trans (uR (call (aM rfl rfl (zr3 _ _ _ _)) rfl (aM rfl (aM rfl rfl (eO _ _ _)) rfl) q)))) rfl,fun h x=> ?_,e2,by omega,by omega⟩
  rw [cH]
  exact e1 h x
 | group r=>
  have ho':okR r:=ho
  rw [cX] at hd h1
  have ht:(bN (.group r)).length=(toksR r).length+2:=by simp [bN]
  rw [ht] at hf|-
  have k1:=fun st=>kd "group" "hang" _ false none st rfl (by decide)
  have k2:=fun st=>kd "group" "group" _ true none st rfl (by decide)
  cases flat with
  |true=>
   obtain⟨ok,t',ds,q,e1,e2,e3,e4⟩:=hG r hd ho' true m t cs salt h0 (tH h1) s0 s1 ⟨by omega,by omega⟩
   refine⟨ok,t',ds,iB rfl ((aK (aU (k1 _))).trans (dO ((bD (k2 _)).trans ((aK (bF rfl)).trans ((aK (aU rfl)).trans (fin (Y9 _) (aM rfl rfl (eO _ _ _)) rfl rfl q)))))) rfl,fun h x=> ?_,fun _ z=>absurd z.symm Z8,by omega,by omega⟩
   rw [cH.eq_def]
   exact e1 h x
  | false=>
   obtain⟨c,c1,c2,qc⟩:=draw (f:=fC (.int 2)) (many:=2) (x5:=some (.int 0)) (by decide) (by decide) rfl
   obtain⟨bb,hbb⟩:∃bb:Bool,decide ((c:Int)=0)=bb:=⟨_,rfl⟩
   obtain⟨ok,t',ds,q,e1,e2,e3,e4⟩:=hG r hd ho' bb m t (cs++[(c:Int)]) salt h0 (tH h1) s0 s1 ⟨by rw [Z3];show _+1+_<=_;omega,by omega⟩
   rw [Zj] at q
   refine⟨ok,t',(c:Int)::ds,iB rfl ((aK (aU (k1 _))).trans (dO ((bD (k2 _)).trans ((aK (bF rfl)).trans ((aK ((bD rfl).trans qc)).trans (fin (by omega) (aM rfl rfl (eO _ _ _)) (aM rfl rfl (by rw [<-hbb];rfl)) rfl q)))))) rfl,fun h x=> ?_,fun z _=>e2 z ?_,by rw [Z4];omega,by omega⟩
   ·have e:=e1 h x
    rw [cH.eq_def]
    show(if ((c:Int))=0 then _ else _)=_
    by_cases cz:(c:Int)=0
    ·rw [Ze cz] at hbb
     subst hbb
     rw [if_pos cz]
     exact e
    ·rw [Z5 cz] at hbb
     subst hbb
     rw [if_neg cz,if_pos (by omega)]
     exact e
   ·have:=c2 z
    rw [<-hbb]
    exact Z5 (by omega)
 |either rs=>
  have ho':(2<=rs.length/\rs.length<=4)/\okRs rs:=ho
  have k1:=fun st=>kd "either" "hang" _ false none st rfl (by decide)
  have k2:=fun st=>kd "either" "group" _ false none st rfl (by decide)
  obtain⟨c,c1,c2,qc⟩:=draw (f:=aJ cN (aA (f2 dIx (aB 1) (fC (.int 1))) aE)) (many:=rs.length) (x5:=none) (by omega) (by omega) (aT (aD (aM rfl rfl (eO _ _ _)) rfl) (by show some (D.int ((rowsD rs).length:Int))=_;rw [iQ]))
  have hr:rs[c]? =some rs[c]:=Zn c1
  have hdr:=rV hr
  have hor:=uJ ho'.2 hr
  have htr:=sJ (ZT hr)
  have ht:(bN (.either rs)).length=(toksRows rs).length+2:=by simp [bN]
  rw [cX] at hd h1
  rw [ht] at hf|-
  obtain⟨ok,t',ds,q,e1,e2,e3,e4⟩:=hG rs[c] (Ym hdr hd) hor flat m t (cs++[(c:Int)]) salt h0 (ya2 (tH h1) hdr) s0 s1 ⟨by rw [Z3];show _+1+_<=_;omega,by omega⟩
  rw [Zj] at q
  have ix:atI (rowsD rs) (c:Int)=some (.tup (pcsD rs[c])):=mO (yO hr)
  refine⟨ok,t',(c:Int)::ds,iB rfl ((aK (aU (k1 _))).trans ((aK (aU (k2 _))).trans ((aK qc).trans (fin (by omega) (aM (aM rfl rfl (eO _ _ _)) rfl ix) rfl rfl q)))) rfl,fun h x=> ?_,e2,by rw [Z4];omega,by omega⟩
  have e:=e1 h x
  rw [cH.eq_def]
  show(if 0<=(c:Int) then _ else _)=_
  rw [if_pos (by omega),oU (r:=rs[c]) (by rw [Xc];exact hr)]
  exact e
theorem ya7{GS:tz7}{k:Nat}{R:Option D}{flat:Bool}{m salt:Int}(hS:S.imm=true)(hH:zv7 S GH)(hG:∀r,depR r<k->okR r->DrR S GS r)(h0:0<=m)(s0:0<=salt)(s1:salt<=900):∀(r:List Pc) (t:Str) (cs:List Int) (x5 x6:Option D),depR r<=k->okR r->m+12*depR r<=200->yQ cs.length t.length (toksR r).length->
  ∃ok t' ds y5 y6,dM 5 (hJ (dW GH GS)) (pcsD r) [some S,R,some (.bl flat),some (.int m),some (sU t cs .non salt),x5,x6]=some (okF ok,[some S,R,some (.bl flat),some (.int m),some (sU t' (cs++ds) .non salt),y5,y6])/\(ok=true->∀x,setR (!flat) m r (ds++x) t=some (x,t'))/\(salt=0->flat=false->ok=true)/\ds.length<=(toksR r).length/\t'.length<=t.length+201*(toksR r).length
 |[],t,cs,x5,x6,_,_,_,_=>⟨true,t,[],x5,x6,by rw [Zh];rfl,fun _ x=>by rw [setR];rfl,fun _ _=>rfl,ZH _,Xi _ _⟩
 | p ::r,t,cs,x5,x6,hd,ho,h1,hf=>by
  have htk:(toksR (p::r)).length=(bN p).length+(toksR r).length:=by rw [toksR,Z3]
  rw [htk] at hf|-
  rw [depR] at hd h1
  have hf':=hf
  unfold yQ at hf'
  have one:∃ok t1 ds y6,hJ (dW GH GS) [some S,R,some (.bl flat),some (.int m),some (sU t cs .non salt),some (pcD p),x6]=some (okF ok,[some S,R,some (.bl flat),some (.int m),some (sU t1 (cs++ds) .non salt),some (pcD p),y6])/\(ok=true->∀x,cH (!flat) m p (ds++x) t=some (x,t1))/\(salt=0->flat=false->ok=true)/\ds.length<=(bN p).length/\t1.length<=t.length+201*(bN p).length:=by
   have holder:(∀l,p≠ .leaf l)->∃ok t1 ds y6,hJ (dW GH GS) [some S,R,some (.bl flat),some (.int m),some (sU t cs .non salt),some (pcD p),x6]=some (okF ok,[some S,R,some (.bl flat),some (.int m),some (sU t1 (cs++ds) .non salt),some (pcD p),y6])/\(ok=true->∀x,cH (!flat) m p (ds++x) t=some (x,t1))/\(salt=0->flat=false->ok=true)/\ds.length<=(bN p).length/\t1.length<=t.length+201*(bN p).length:=fun hp=>by
    obtain⟨ok,t1,ds,q,e⟩:=yy8 (GH:=GH) hS hH hG (show cX p<=k by omega) ho.1 hp flat m t cs salt h0 (by omega) s0 s1 ⟨by omega,by omega⟩
    exact⟨ok,t1,ds,some (.int (col t:Int)),ya4 (GI:=dW GH GS) (S:=S) (R:=R) (x6:=x6) hS hp (by omega) q,e⟩
   cases hp:p with
   | leaf l=>
    subst hp
    have h1':m<=200:=by omega
    cases ew:wr (!flat) m (col t) l with
    |none=>
     obtain⟨fl,y6,q⟩:=xk2 (GI:=dW GH GS) (S:=S) (cs:=cs) (c2:= .non) (c3:=salt) (R:=R) (x6:=x6) (l:=l) ho.1 (by omega) ew
     refine⟨false,t,[],y6,?_,fun h=>absurd h Z8,fun _ z=> ?_,ZH _,Xi _ _⟩
     ·rw [Zh];exact q
     ·rw [fl] at z;cases z
    |some w=>
     obtain⟨_,hz⟩:=zk9 (l:=l) ho.1 h0 h1' ew
     obtain⟨y6,q⟩:=ya3 (GI:=dW GH GS) (S:=S) (cs:=cs) (c2:= .non) (c3:=salt) (R:=R) (x6:=x6) (l:=l) ho.1 h0 h1' (by omega) ew
     refine⟨true,t++w,[],y6,?_,fun _ x=> ?_,fun _ _=>rfl,ZH _,?_⟩
     ·rw [Zh];exact q
     ·rw [cH,ew];rfl
     ·rw [eI,show(bN (.leaf l)).length=1 from rfl];omega
   |group r'=>subst hp;exact holder nofun
   |hang n r'=>subst hp;exact holder nofun
   |either rs=>subst hp;exact holder nofun
  obtain⟨ok,t1,ds,y6,q1,g1,g2,g3,g4⟩:=one
  have step:∀Y,hJ (dW GH GS) [some S,R,some (.bl flat),some (.int m),some (sU t cs .non salt),some (pcD p),x6]=some Y->dM 5 (hJ (dW GH GS)) (pcsD (p::r)) [some S,R,some (.bl flat),some (.int m),some (sU t cs .non salt),x5,x6]=(match Y with
    |(.nx,p')=>dM 5 (hJ (dW GH GS)) (pcsD r) p'
    |(.ct,p')=>dM 5 (hJ (dW GH GS)) (pcsD r) p'
    |(.bk,p')=>some (.nx,p')
    |(.ret d,p')=>some (.ret d,p')):=fun Y hY=>by
   show dM 5 (hJ (dW GH GS)) (pcD p::pcsD r) _=_
   rw [dM]
   show((hJ (dW GH GS) [some S,R,some (.bl flat),some (.int m),some (sU t cs .non salt),some (pcD p),x6]).bind _)=_
   rw [hY]
   obtain⟨f,p'⟩:=Y
   cases f<;>rfl
  cases ok with
  |false=>exact⟨false,t1,ds,some (pcD p),y6,step _ q1,fun h=>absurd h Z8,g2,by omega,by omega⟩
  |true=>
   obtain⟨ok2,t',ds2,z5,z6,q2,k1,k2,k3,k4⟩:=ya7 hS hH hG h0 s0 s1 r t1 (cs++ds) (some (pcD p)) y6 (by omega) ho.2 (by omega) ⟨by rw [Z3];omega,by omega⟩
   rw [Zj] at q2
   refine⟨ok2,t',ds++ds2,z5,z6,(step _ q1).trans q2,fun h x=> ?_,k2,by rw [Z3];omega,by omega⟩
   rw [setR,Zj,g1 rfl (ds2++x)]
   exact k1 h x
theorem ya8(hS:S.imm=true)(hH:zv7 S GH):∀(n:Nat) (r:List Pc),depR r<n->okR r->DrR S (jZ GH n) r
 |0,_,h,_=>absurd h (Yl _)
 |n+1,r,h,ho=>fun flat m t cs salt h0 h1 s0 s1 hf=>by
  obtain⟨ok,t',ds,y5,y6,q,e⟩:=ya7 (GH:=GH) (GS:=jZ GH n) (R:=some (.tup (pcsD r))) (flat:=flat) hS hH (fun r' a b=>ya8 hS hH n r' a b) h0 s0 s1 r t cs none none (by omega) ho h1 hf
  refine⟨ok,t',ds,?_,e⟩
  have qf:gF 5 (gY (aB 1)) (hJ (dW GH (jZ GH n))) [some S,some (.tup (pcsD r)),some (.bl flat),some (.int m),some (sU t cs .non salt),none,none]=some (okF ok,[some S,some (.tup (pcsD r)),some (.bl flat),some (.int m),some (sU t' (cs++ds) .non salt),y5,y6]):=q
  cases ok with
  |true=>exact iB rfl ((aK qf).trans (bS rfl)) rfl
  |false=>exact iB rfl (dO qf) rfl
abbrev oF(GH:tz7)(n:Nat):tz6:=gP 3 1 (za7 (jZ GH n))
theorem zT{n:Nat}{r:List Pc}{salt:Int}(hS:S.imm=true)(hH:zv7 S GH)(hd:depR r<n)(h8:depR r<=16)(ho:okR r)(hl:(toksR r).length<=800)(h0:0<=salt)(h1:salt<=900):
  ∃C t,oF GH n [S,.tup (pcsD r),.int salt]=some (.tup [.str t,.tup (bV C)])/\setR true 0 r C ⟨#[]⟩=some ([],t)/\C.length<=(toksR r).length/\t.length<=201*(toksR r).length:=by
 have pi:=pcs_imm r
 have run:∀s:Int,0<=s->s<=900->∃ok t' ds,jZ GH n [S,.tup (pcsD r),.bl false,.int 0,sU ⟨#[]⟩ [] .non s]=some (.bl ok,[S,.tup (pcsD r),.bl false,.int 0,sU t' ds .non s])/\(ok=true->setR true 0 r ds ⟨#[]⟩=some ([],t'))/\(s=0->ok=true)/\ds.length<=(toksR r).length/\t'.length<=201*(toksR r).length:=fun s s0 s1=>by
  obtain⟨ok,t',ds,q,e1,e2,e3,e4⟩:=ya8 (GH:=GH) hS hH n r hd ho false 0 ⟨#[]⟩ [] s (Y9 _) (by omega) s0 s1 ⟨by show 0+_<=_;omega,by show 0+_<=_;omega⟩
  exact⟨ok,t',ds,q,fun h=>by have:=e1 h [];rwa [Zh] at this,fun h=>e2 h rfl,e3,by have e4':t'.length<=0+201*(toksR r).length:=e4;rwa [Yt] at e4'⟩
 have st0:∀(f:tz2) (s:Int) (p:PSt),f p=some (.int s)->cE (aA (fC (.str "")) (aA (cE aE) (aA (fC .non) (aA f aE)))) p=some (sU ⟨#[]⟩ [] .non s):=fun f s p h=>by
  refine fA (aD rfl (aD (d:= .lst true []) rfl (aD rfl (aD h rfl)))) (by simp)|>.trans ?_
  rw [show Str.ofString ""=⟨#[]⟩ from by decide+kernel];rfl
 have fin:∀(t':Str) (ds:List Int) (s:Int),bR (aH (aX (aA (aZ (f2 dIx (aB 3) (fC (.int 0)))) (aA (aJ fO (aA (f2 dIx (aB 3) (fC (.int 1))) aE)) aE)))) [some S,some (.tup (pcsD r)),some (.int salt),some (sU t' ds .non s)]=some (.ret (.tup [.str t',.tup (bV ds)]),[some S,some (.tup (pcsD r)),some (.int salt),some (sU t' ds .non s)]):=fun t' ds s=>by
  have hi:=jL ds
  refine bS ?_
  simp! [sU,hi]
 have call:∀(s:Int) (ok:Bool) (t':Str) (ds:List Int),jZ GH n [S,.tup (pcsD r),.bl false,.int 0,sU ⟨#[]⟩ [] .non s]=some (.bl ok,[S,.tup (pcsD r),.bl false,.int 0,sU t' ds .non s])->
   fIO [.im (aB 0),.im (aB 1),.im (fC (.bl false)),.im (fC (.int 0)),.io 3] (jZ GH n) [some S,some (.tup (pcsD r)),some (.int salt),some (sU ⟨#[]⟩ [] .non s)]=some (.bl ok,[some S,some (.tup (pcsD r)),some (.int salt),some (sU t' ds .non s)]):=fun s ok t' ds q=>
  oT (cR (f:=aB 0) rfl hS (cR (f:=aB 1) (d:= .tup (pcsD r)) rfl pi (cR (f:=fC (.bl false)) rfl rfl (cR (f:=fC (.int 0)) rfl rfl (mR (j:=3) rfl fX))))) q rfl
 obtain⟨ok,t',ds,q,e1,_,e6⟩:=run salt h0 h1
 have z0:aS 3 (aH (cE (aA (fC (.str "")) (aA (cE aE) (aA (fC .non) (aA (aZ (aB 2)) aE)))))) [some S,some (.tup (pcsD r)),some (.int salt),none]=some (.nx,[some S,some (.tup (pcsD r)),some (.int salt),some (sU ⟨#[]⟩ [] .non salt)]):=bF (st0 _ salt _ (cF rfl rfl))
 cases ok with
 |true=>exact⟨ds,t',kA rfl ((aK z0).trans ((aK ((dL (uS (call _ _ _ _ q))).trans rfl)).trans (fin t' ds salt))),e1 rfl,e6⟩
 | false=>
  obtain⟨ok2,t2,d2,q2,f1,f2',f6⟩:=run 0 (Y9 _) (by decide)
  have hok:=f2' rfl
  subst hok
  have z1:aS 3 (aH (cE (aA (fC (.str "")) (aA (cE aE) (aA (fC .non) (aA (fC (.int 0)) aE)))))) [some S,some (.tup (pcsD r)),some (.int salt),some (sU t' ds .non salt)]=some (.nx,[some S,some (.tup (pcsD r)),some (.int salt),some (sU ⟨#[]⟩ [] .non 0)]):=bF (st0 _ 0 _ rfl)
  have c2:dA (fIO [.im (aB 0),.im (aB 1),.im (fC (.bl false)),.im (fC (.int 0)),.io 3] (jZ GH n)) [some S,some (.tup (pcsD r)),some (.int salt),some (sU ⟨#[]⟩ [] .non 0)]=some (.nx,[some S,some (.tup (pcsD r)),some (.int salt),some (sU t2 d2 .non 0)]):=by
   unfold dA
   rw [call 0 true t2 d2 q2];rfl
  exact⟨d2,t2,kA rfl ((aK z0).trans ((aK ((yf5 (uS (call _ _ _ _ q))).trans ((aK z1).trans c2))).trans (fin t2 d2 0))),f1 rfl,f6⟩
end
section
variable{GC GM:tz6}{S:D}
abbrev fR(GC GM:tz6):tz7:=gE 3 3 (cI [false,true,false]) (xZ GC GM)
theorem xc9:zf1 S (fR GC GM):=fun C t u many c hu h0 h1 hl=>by
 have hlt:u<C.length:=(Z7.mp hu).1
 have tl:(C.take u).length=u:=by rw [Yi];omega
 have s1:aS 3 (aH (aJ cN (aA (f2 dIx (aB 1) (fC (.int 1))) aE))) [some S,some (uD C t u),some (.int (many:Int)),none,none,none]=some (.nx,[some S,some (uD C t u),some (.int (many:Int)),some (.int (u:Int)),none,none]):=by
  refine bF (aT (aD (aM (x:=uD C t u) rfl rfl (eO _ _ _)) rfl) ?_)
  show some (D.int ((bV (C.take u)).length:Int))=_
  rw [jK,tl]
 generalize hp:[some S,some (uD C t u),some (D.int (many:Int)),some (D.int (u:Int)),none,none]=p at s1
 have v1:aB 1 p=some (uD C t u):=by rw [<-hp];rfl
 have v2:aB 2 p=some (.int (many:Int)):=by rw [<-hp];rfl
 have v3:aB 3 p=some (.int (u:Int)):=by rw [<-hp];rfl
 have i2:f2 dIx (aB 1) (fC (.int 2)) p=some (.tup (bV C)):=aM v1 rfl rfl
 have n1:fB (f2 dIs (f2 dIx (aB 1) (fC (.int 2))) (fC .non)) p=some false:=cU (aM i2 rfl rfl)
 have ic:f2 dIx (f2 dIx (aB 1) (fC (.int 2))) (aB 3) p=some (.int c):=aM i2 v3 (mO (by unfold bV;rw [Zi,hu];rfl))
 have t1:fB (f2 dLt (aB 3) (aJ cN (aA (f2 dIx (aB 1) (fC (.int 2))) aE))) p=some true:=cU (aM v3 (aT (aD i2 rfl) rfl) (by
  show some (D.bl (decide ((u:Int)<((bV C).length:Int))))=_
  rw [jK,Ze (by omega)]))
 have t2:fB (f3 dLe dLt (fC (.int 0)) (f2 dIx (f2 dIx (aB 1) (fC (.int 2))) (aB 3)) (aB 2)) p=some true:=by
  refine cU ?_
  unfold f3
  rw [ic,v2]
  simp [fC,dLe,dLt,h0,h1]
 have s2:=bF (i:=4) (cF ic rfl)
 have hl2:(bV (C.take u)).length<sizeLine:=by rw [jK,tl];exact sz1 (by omega)
 have ei:bV (C.take (u+1))=bV (C.take u)++[.int c]:=by
  rw [List.take_add_one,hu,wB];rfl
 have s4:dA (dY 1 (fY 1 cA (fC (.int 1))) (aA (aZ (aB 4)) aE) dS) (p.set 4 (some (.int c)))=some (.nx,[some S,some (uD C t (u+1)),some (.int (many:Int)),some (.int (u:Int)),some (.int c),none]):=by
  rw [<-hp]
  unfold uD sU
  rw [ei]
  simp! [xc7,hl2]
 exact iB rfl ((aK s1).trans ((aK ((dL (cD (eD n1))).trans ((dL (cD (eD n1))).trans ((dL (cD n1)).trans ((bD (eN t1 t2)).trans s2))))).trans ((aK s4).trans rfl))) rfl
theorem yy9(k:Nat):∃v:Int,(0<v/\v<1073741824)/\atI [D.int 1,.int 12,.int 144,.int 1728,.int 20736,.int 248832,.int 2985984,.int 35831808] ((k:Int) % 8)=some (.int v):=by
 have h0:=Zt (k:Int) (show(8:Int)≠0 by decide)
 have h1:=Zr (k:Int) (show(0:Int)<8 by decide)
 obtain⟨d,hd,e⟩:=nW [D.int 1,.int 12,.int 144,.int 1728,.int 20736,.int 248832,.int 2985984,.int 35831808] ((k:Int) % 8) h0 (by simpa using h1)
 simp only [Za,ZM,YJ] at hd
 rcases hd with rfl|rfl|rfl|rfl|rfl|rfl|rfl|rfl<;>exact⟨_,by decide,e⟩
theorem xd0(hM:MxH GM S)(hC:∀j:Int,0<=j->j<1000->∃a,GC [S,.int j]=some (.int a)):zv7 S (fR GC GM):=fun t cs many salt h0 _ s0 s1 hc=>by
 have s1':aS 3 (aH (aJ cN (aA (f2 dIx (aB 1) (fC (.int 1))) aE))) [some S,some (sU t cs .non salt),some (.int (many:Int)),none,none,none]=some (.nx,[some S,some (sU t cs .non salt),some (.int (many:Int)),some (.int (cs.length:Int)),none,none]):=by
  refine bF (aT (aD (aM (x:=sU t cs .non salt) rfl rfl (eO _ _ _)) rfl) ?_)
  show some (D.int ((bV cs).length:Int))=_
  rw [jK]
 generalize hp:[some S,some (sU t cs .non salt),some (D.int (many:Int)),some (D.int (cs.length:Int)),none,none]=p at s1'
 have vv:∀x5:Option D,aB 0 (p.set 5 x5)=some S/\aB 1 (p.set 5 x5)=some (sU t cs .non salt)/\aB 2 (p.set 5 x5)=some (.int (many:Int))/\aB 3 (p.set 5 x5)=some (.int (cs.length:Int)):=fun x5=>by rw [<-hp];exact⟨rfl,rfl,rfl,rfl⟩
 have pp:p.set 5 none=p:=by rw [<-hp];rfl
 obtain⟨v0,v1,v2,v3⟩:=vv none
 rw [pp] at v0 v1 v2 v3
 have i2:f2 dIx (aB 1) (fC (.int 2)) p=some .non:=aM v1 rfl rfl
 have i3:f2 dIx (aB 1) (fC (.int 3)) p=some (.int salt):=aM v1 rfl (xp8 _ _ _ _)
 have n1:fB (f2 dIs (f2 dIx (aB 1) (fC (.int 2))) (fC .non)) p=some true:=cU (aM i2 rfl rfl)
 have n2:∀k:Int,fB (f2 dEq (f2 dIx (aB 1) (fC (.int 3))) (fC (.int k))) p=some (decide (salt=k)):=fun k=>cU (aM i3 rfl rfl)
 have hl2:(bV cs).length<sizeLine:=by rw [jK];exact sz1 (by omega)
 have fin:∀(c:Nat) (x5:Option D),∃y5,dA (dY 1 (fY 1 cA (fC (.int 1))) (aA (aZ (aB 4)) aE) dS) ((p.set 5 x5).set 4 (some (.int (c:Int))))=some (.nx,[some S,some (sU t (cs++[(c:Int)]) .non salt),some (.int (many:Int)),some (.int (cs.length:Int)),some (.int (c:Int)),y5]):=fun c x5=>by
  have ei:bV (cs++[(c:Int)])=bV cs++[.int (c:Int)]:=by rw [wB];rfl
  refine⟨x5,?_⟩
  rw [<-hp]
  unfold sU
  rw [ei]
  simp! [xc7,hl2]
 have cn:∀a:Int,∃c:Nat,c<many/\a % (many:Int)=(c:Int):=fun a=>by
  have m0:=Zt a (show(many:Int)≠0 by omega)
  have m1:=Zr a (show(0:Int)<many by omega)
  exact⟨(a % (many:Int)).toNat,by omega,by omega⟩
 by_cases z:salt=0
 ·have n20:=n2 0
  rw [Ze z] at n20
  have e:f2 kS (aB 2) (fC (.int 1)) p=some (.int ((many-1:Nat):Int)):=aM v2 rfl (by show some (D.int ((many:Int)-1))=_;rw [show((many:Int)-1)=((many-1:Nat):Int) by omega])
  obtain⟨y5,f⟩:=fin (many-1) none
  rw [pp] at f
  exact⟨many-1,by omega,fun _=>by omega,iB rfl ((aK s1').trans ((aK ((bD (eN n1 n20)).trans (bF e))).trans ((aK f).trans rfl))) rfl⟩
 ·have n20:=n2 0
  rw [Z5 z] at n20
  have n21:=n2 1
  by_cases z1:salt=1
  ·rw [Ze z1] at n21
   obtain⟨v,v0',ev⟩:=yy9 cs.length
   obtain⟨a,qa⟩:=hC (40+(cs.length:Int)/8) (by omega) (by omega)
   obtain⟨c,c1,ec⟩:=cn (a/v)
   have e5:aS 5 (aH (f2 dIx (cE (fKs [.int 1,.int 12,.int 144,.int 1728,.int 20736,.int 248832,.int 2985984,.int 35831808])) (f2 cK (aB 3) (fC (.int 8))))) p=some (.nx,p.set 5 (some (.int v))):=bF (aM (x:= .lst true [.int 1,.int 12,.int 144,.int 1728,.int 20736,.int 248832,.int 2985984,.int 35831808]) rfl (aM v3 rfl ((dZ _ _).trans (if_pos (by decide)))) ev)
   obtain⟨w0,w1,w2,w3⟩:=vv (some (.int v))
   have w5:aB 5 (p.set 5 (some (.int v)))=some (.int v):=by rw [<-hp];rfl
   have e:f2 cK (f2 dX (aJ GC (aA (aB 0) (aA (f2 bJ (fC (.int 40)) (f2 dX (aB 3) (fC (.int 8)))) aE))) (aB 5)) (aB 2) (p.set 5 (some (.int v)))=some (.int (c:Int)):=aM (aM (aT (aD w0 (aD (aM rfl (aM w3 rfl ((gO _ _).trans (if_pos (by decide)))) rfl) rfl)) qa) w5 ((gO _ _).trans (if_pos v0'))) w2 ((dZ _ _).trans ((if_pos (by omega)).trans (by rw [ec])))
   obtain⟨y5,f⟩:=fin c (some (.int v))
   exact⟨c,c1,fun z'=>absurd z' z,iB rfl ((aK s1').trans ((aK ((dL (cD (eN n1 n20))).trans ((bD (eN n1 n21)).trans ((aK e5).trans (bF e))))).trans ((aK f).trans rfl))) rfl⟩
  ·rw [Z5 z1] at n21
   obtain⟨a,qa,ha⟩:=hM ((cs.length:Int)+7) salt (by omega) (by omega) s0 (by omega)
   obtain⟨c,c1,ec⟩:=cn a
   have e:f2 cK (aJ GM (aA (aB 0) (aA (f2 bJ (aB 3) (fC (.int 7))) (aA (f2 dIx (aB 1) (fC (.int 3))) aE)))) (aB 2) p=some (.int (c:Int)):=aM (aT (aD v0 (aD (aM v3 rfl rfl) (aD i3 rfl))) qa) v2 ((dZ _ _).trans ((if_pos (by omega)).trans (by rw [ec])))
   obtain⟨y5,f⟩:=fin c none
   rw [pp] at f
   exact⟨c,c1,fun z'=>absurd z' z,iB rfl ((aK s1').trans ((aK ((dL (cD (eN n1 n20))).trans ((dL (cD (eN n1 n21))).trans ((bD n1).trans (bF e))))).trans ((aK f).trans rfl))) rfl⟩
end
theorem nF:ixN 4 3=some 3:=by decide
theorem nG:ixN 4 2=some 2:=by decide
theorem iJ{α:Type}(a b c d:α):atI [a,b,c,d] 3=some d:=rfl
abbrev zb1:tz7:=gE 1 5 (cI [true]) pF
theorem xx4{N:List D}{a b c d:D}:wM [1,2,3,4] (dY 0 cA aE sN) [some (.lst true (N++[.lst true [a,b,c,d]])),none,none,none,none,none]=some (.nx,[some (.lst true N),some a,some b,some c,some d,none]):=by
 simp! [sN,gY,eC,dN,fSl,wM,zu4,sO,nF,nG,iJ]
theorem kd1{p:PSt}{k w:String}{b:Bool}(hp:p[1]? =some (some (.str k)))(h:decide (k=w)=b):fB (f2 dEq (aB 1) (fC (.str w))) p=some b:=by
 refine cU (aM (lM hp) rfl ?_)
 show some (D.bl (decide ((k:Str)=(w:Str))))=_
 rw [<-h]
 congr 2
 exact Yy.mpr (by rw [gN])
theorem yz0{f g:Gm}{fs:List Gm}(hk:1<=f.kd/\f.kd<=3)(hf:f.kd≠3->f.full=[])(hfl:f.full.length<=3)(hg:g.parts.length<=900):zb1 [.lst true (cB (f::g::fs))]=some (.non,[.lst true (cB (kG g (gB f)::fs))]):=by
 obtain⟨kd,n,full,parts⟩:=f
 have hfl':full.length<=3:=hfl
 have hz:(pcsD g.parts).length<sizeLine:=by rw [mN];exact sz1 (by omega)
 have s2:∀K x0,aS 3 (aH (f2 bJ (aB 3) (cE (aA (aJ fO (aA (aB 4) aE)) aE)))) [x0,some K,some (.int n),some (.lst true (rowsD full)),some (.lst true (pcsD parts)),none]=some (.nx,[x0,some K,some (.int n),some (.lst true (rowsD (full++[parts]))),some (.lst true (pcsD parts)),none]):=fun K x0=>by
  refine bF (aM rfl (fA (aD (aT (aD rfl rfl) (if_pos (pcs_imm parts))) rfl) (Z2 rfl)) ?_)
  rw [wA]
  refine yo7 (rows_imm full) (rows_imm [parts]) ?_
  rw [iQ];show full.length+1<=1000;omega
 have s4:∀K x0 x4 (r0:List Pc) rs,aS 5 (aH (aX (aA (fC (.str "group")) (aA (aZ (f2 dIx (aB 3) (fC (.int 0)))) aE)))) [x0,some K,some (.int n),some (.lst true (rowsD (r0::rs))),x4,none]=some (.nx,[x0,some K,some (.int n),some (.lst true (rowsD (r0::rs))),x4,some (pcD (.group r0))]):=fun K x0 x4 r0 rs=>
  bF (cW (aD rfl (aD (cF (aM rfl rfl (kE _ _)) (pcs_imm r0)) rfl)) (jF (.group r0)) (Z2 rfl))
 have s7:∀(pc:Pc) K x3 x4,dA (dY 0 (fY 0 (fY 0 cA (eY (fC (.int 1)))) (fC (.int 3))) (aA (aZ (aB 5)) aE) dS) [some (.lst true (cB fs++[gmD g])),K,some (.int n),x3,x4,some (pcD pc)]=some (.nx,[some (.lst true (cB fs++[gmD (kG g pc)])),K,some (.int n),x3,x4,some (pcD pc)]):=fun pc K x3 x4=>by
  have hi:=jF pc
  have e:gmD (kG g pc)= .lst true [.str (kdS g.kd),.int g.n,.lst true (rowsD g.full),.lst true (pcsD g.parts++[pcD pc])]:=by unfold gmD kG;rw [qY];rfl
  rw [e]
  unfold gmD
  generalize pcD pc=d at hi|-
  simp! [sN,gY,eC,dN,fSl,wM,zu4,sO,nF,nG,iJ,hi,hz]
 suffices h:∃q1 q2 q3 q4 q5,pF [some (.lst true (cB (⟨kd,n,full,parts⟩::g::fs))),none,none,none,none,none]=some (.nx,[some (.lst true (cB fs++[gmD (kG g (gB ⟨kd,n,full,parts⟩))])),q1,q2,q3,q4,q5]) from by
  obtain⟨q1,q2,q3,q4,q5,hq⟩:=h
  unfold zb1 gE
  refine(if_pos rfl).trans ?_
  show(pF [some (.lst true (cB (⟨kd,n,full,parts⟩::g::fs))),none,none,none,none,none]).bind _=_
  rw [hq];rfl
 have s1:wM [1,2,3,4] (dY 0 cA aE sN) [some (.lst true (cB (⟨kd,n,full,parts⟩::g::fs))),none,none,none,none,none]=_:=xx4
 have e:kd=1\/kd=2\/kd=3:=by have:1<=kd/\kd<=3:=hk;omega
 unfold pF
 rw [aK s1,aK (s2 _ _)]
 rcases e with rfl|rfl|rfl
 ·have e1:full=[]:=hf (by simp! [sN,gY,eC,dN,fSl,wM,zu4,sO,nF,nG,iJ])
  subst e1
  exact⟨_,_,_,_,_,(aK (aU (eD (kd1 (k:="group") rfl (by decide))))).trans ((aK (s4 _ _ _ parts [])).trans ((aK (aU (kd1 (k:="group") rfl (by decide)))).trans ((aK (aU (kd1 (k:="group") rfl (by decide)))).trans (s7 _ _ _ _))))⟩
 ·have e1:full=[]:=hf (by simp! [sN,gY,eC,dN,fSl,wM,zu4,sO,nF,nG,iJ])
  subst e1
  exact⟨_,_,_,_,_,(aK (aU (eD (kd1 (k:="hang") rfl (by decide))))).trans ((aK (s4 _ _ _ parts [])).trans ((aK ((bD (kd1 (k:="hang") rfl (by decide))).trans (bF (cW (aD rfl (aD (cF rfl rfl) (aD (cF (d:= .tup (pcsD parts)) (aM rfl rfl (kE _ _)) (pcs_imm parts)) rfl))) (jF (.hang n parts)) (Z2 rfl))))).trans ((aK (aU (kd1 (k:="hang") rfl (by decide)))).trans (s7 (.hang n parts) _ _ _))))⟩
 ·have fin:∀(r0:List Pc) (rs:List (List Pc)),oM ⟨3,n,full,parts⟩=r0::rs->∃q1 q2 q3 q4 q5,aR (aS 5 (aH (aX (aA (fC (.str "group")) (aA (aZ (f2 dIx (aB 3) (fC (.int 0)))) aE))))) (aR (fIf (aY (fB (f2 dEq (aB 1) (fC (.str "hang"))))) (aS 5 (aH (aX (aA (fC (.str "hang")) (aA (aZ (aB 2)) (aA (aZ (f2 dIx (aB 3) (fC (.int 0)))) aE)))))) bP)
    (aR (fIf (aY (fB (f2 dEq (aB 1) (fC (.str "either"))))) (aS 5 (aH (aX (aA (fC (.str "either")) (aA (aJ fO (aA (aB 3) aE)) aE))))) bP) (dA (dY 0 (fY 0 (fY 0 cA (eY (fC (.int 1)))) (fC (.int 3))) (aA (aZ (aB 5)) aE) dS)))) [some (.lst true (cB fs++[gmD g])),some (.str "either"),some (.int n),some (.lst true (rowsD (r0::rs))),some (.lst true (pcsD parts)),none]=some (.nx,[some (.lst true (cB fs++[gmD (kG g (gB ⟨3,n,full,parts⟩))])),q1,q2,q3,q4,q5]):=fun r0 rs he=>by
   have hs:gB ⟨3,n,full,parts⟩= .either (r0::rs):=by rw [<-he];rfl
   rw [hs]
   exact⟨_,_,_,_,_,(aK (s4 _ _ _ r0 rs)).trans ((aK (aU (kd1 rfl (by decide)))).trans ((aK ((bD (kd1 rfl (by decide))).trans (bF (cW (aD rfl (aD (aT (aD rfl rfl) (if_pos (rows_imm (r0::rs)))) rfl)) (jF (.either (r0::rs))) (Z2 rfl))))).trans (s7 (.either (r0::rs)) _ _ _)))⟩
  have lt:∀x0 x4,fB (f2 dLt (aJ cN (aA (aB 3) aE)) (fC (.int 2))) [x0,some (.str "either"),some (.int n),some (.lst true (rowsD (full++[parts]))),x4,none]=some (decide ((((full++[parts]).length:Nat):Int)<2)):=fun x0 x4=>by
   refine cU (aM (aT (aD rfl rfl) rfl) rfl ?_)
   show some (D.bl (decide ((((rowsD (full++[parts])).length:Nat):Int)<2)))=_
   rw [iQ]
  cases full with
  | nil=>
   have s3:∀x0 x4,fIf (aY (cG (fB (f2 dEq (aB 1) (fC (.str "either")))) (fB (f2 dLt (aJ cN (aA (aB 3) aE)) (fC (.int 2)))))) (aS 3 (aH (f2 bJ (aB 3) (cE (aA (aX (aA (aX (aA (fC (.str "word")) (aA (fC (.str "or")) aE))) aE)) aE))))) bP [x0,some (.str "either"),some (.int n),some (.lst true (rowsD ([]++[parts]))),x4,none]=some (.nx,[x0,some (.str "either"),some (.int n),some (.lst true (rowsD [parts,eT])),x4,none]):=fun x0 x4=>
    (bD (eN (kd1 rfl (by decide)) (lt _ _))).trans (bF (aM rfl (fA (aD (cW (aD (cW (aD rfl (aD rfl rfl)) rfl (Z2 rfl)) rfl) rfl (Z2 rfl)) rfl) (Z2 rfl)) (yo7 (rows_imm [parts]) (rows_imm [eT]) (Z2 rfl))))
   show ∃q1 q2 q3 q4 q5,aR _ _ [some (.lst true (cB fs++[gmD g])),some (.str "either"),some (.int n),some (.lst true (rowsD ([]++[parts]))),some (.lst true (pcsD parts)),none]=_
   rw [aK (s3 _ _)]
   exact fin parts [eT] rfl
  |cons r rs=>
   have lt':=lt (some (.lst true (cB fs++[gmD g]))) (some (.lst true (pcsD parts)))
   rw [Z5 (by simp;omega)] at lt'
   show ∃q1 q2 q3 q4 q5,aR _ _ [some (.lst true (cB fs++[gmD g])),some (.str "either"),some (.int n),some (.lst true (rowsD (r::rs++[parts]))),some (.lst true (pcsD parts)),none]=_
   rw [aK (aU (eN (kd1 rfl (by decide)) lt'))]
   exact fin r (rs++[parts]) rfl
def ifR(GM:tz6)(GS:tz7)(GL:tz6):tz1:=
 (fIf (aY (cG (fB (f2 dLt (aB 7) (fC (.int 4)))) (fB (f2 dLe (aJ cN (aA (aB 4) aE)) (aB 3)))))
  (aR (aS 9 (aH (f2 dIx (cE (fKs [.str "group",.str "group",.str "hang",.str "either"])) (aB 7))))
 (dA (dY 4 cA (aA (cE (aA (aZ (aB 9)) (aA (f2 dIx (cE (aA (fC (.int 1)) (aA (fC (.int 2)) (aA (fC (.int 4)) (aA (f2 cK (f2 dX (aB 6) (fC (.int 13))) (fC (.int 13))) aE))))) (f2 cK (f2 dX (aB 6) (fC (.int 169))) (fC (.int 4)))) (aA (cE aE) (aA (cE aE) aE))))) aE) dS)))
  (fIf (aY (cG (fB (f2 dEq (aB 7) (fC (.int 4)))) (fB (f2 dGt (aJ cN (aA (aB 4) aE)) (fC (.int 1))))))
  (dA (fIO [.io 4] GS))
  (fIf (aY (cG (fB (f2 dLt (aB 7) (fC (.int 7)))) (cG (fB (f2 dEq (aB 8) (fC (.str "either")))) (fB (f2 dLt (aJ cN (aA (f2 dIx (f2 dIx (aB 4) (eY (fC (.int 1)))) (fC (.int 2))) aE)) (fC (.int 3)))))))
  (aR (dA (dY 4 (fY 4 (fY 4 cA (eY (fC (.int 1)))) (fC (.int 2))) (aA (aJ fO (aA (f2 dIx (f2 dIx (aB 4) (eY (fC (.int 1)))) (fC (.int 3))) aE)) aE) dS))
 (gG 4 (fY 4 cA (eY (fC (.int 1)))) (fC (.int 3)) (cE aE)))
  (dA (dY 4 (fY 4 (fY 4 cA (eY (fC (.int 1)))) (fC (.int 3))) (aA (aJ GL (aA (aJ GM (aA (aB 0) (aA (aB 5) (aA (fC (.int 32)) aE)))) aE)) aE) dS)))))
def vD(GM:tz6)(GS:tz7)(GL:tz6):tz1:=
   (aR (aS 6 (aH (aJ GM (aA (aB 0) (aA (aB 5) (aA (fC (.int 31)) aE))))))
 (aR (aS 7 (aH (f2 cK (aB 6) (fC (.int 13)))))
 (aR (aS 8 (aH (aZ (f2 dIx (f2 dIx (aB 4) (eY (fC (.int 1)))) (fC (.int 0))))))
 (ifR GM GS GL))))
section
variable{GM:tz6}{GS:tz7}{GL:tz6}{S:D}{x1 x2 x6 x7 x8 x9:Option D}{nest:Nat}{f:Gm}{fs:List Gm}{i m:Int}
theorem yq8(hm:GM [S,.int i,.int 31]=some (.int m)):vD GM GS GL [some S,x1,x2,some (.int nest),some (.lst true (cB (f::fs))),some (.int i),x6,x7,x8,x9]
  =ifR GM GS GL [some S,x1,x2,some (.int nest),some (.lst true (cB (f::fs))),some (.int i),some (.int m),some (.int (m % 13)),some (.str (kdS f.kd)),x9]:=by
 unfold vD
 refine(aK (bF (aT rfl hm))).trans ?_
 refine(aK (bF (d:= .int (m % 13)) (by simp! [nF,nG,iJ]))).trans ?_
 exact aK (bF (d:= .str (kdS f.kd)) (by simp! [nF,nG,iJ,cB,gmD]))
theorem xr0(a k:Int)(ha:0<=a/\a<=12):∃n:Int,atI [D.int 1,.int 2,.int 4,.int a] (k % 4)=some (.int n)/\0<=n/\n<=12:=by
 have h0:=Zt k (show(4:Int)≠0 by decide)
 have h1:=Zr k (show(0:Int)<4 by decide)
 obtain⟨d,hd,e⟩:=nW [D.int 1,.int 2,.int 4,.int a] (k % 4) h0 (by simpa using h1)
 simp only [Za,ZM,YJ] at hd
 rcases hd with rfl|rfl|rfl|rfl
 ·exact⟨_,e,by decide,by decide⟩
 ·exact⟨_,e,by decide,by decide⟩
 ·exact⟨_,e,by decide,by decide⟩
 ·exact⟨_,e,ha⟩
theorem xk3(m:Int)(h0:0<=m % 13)(h:m % 13<4):∃kd:Nat,atI [D.str (Str.ofString "group"),.str (Str.ofString "group"),.str (Str.ofString "hang"),.str (Str.ofString "either")] (m % 13)=some (.str (kdS kd))/\1<=kd/\kd<=3:=by
 have hn:m % 13=0\/m % 13=1\/m % 13=2\/m % 13=3:=by omega
 rcases hn with e|e|e|e<;>rw [e]
 ·exact⟨1,rfl,by decide,by decide⟩
 ·exact⟨1,rfl,by decide,by decide⟩
 ·exact⟨2,rfl,by decide,by decide⟩
 ·exact⟨3,rfl,by decide,by decide⟩
theorem zU{a b:Prop}[Decidable a][Decidable b](h:¬(a/\b)):(decide a&&decide b)=false:=by
 by_cases ha:a
 ·rw [Z5 (fun hb=>h ⟨ha,hb⟩),XA]
 ·rw [Z5 ha,Xt]
theorem ya9{a b:Prop}[Decidable a][Decidable b](ha:a)(hb:b):(decide a&&decide b)=true:=by rw [Ze ha,Ze hb];rfl
theorem oV{f g:tz4}{p:PSt}{a b:Bool}(h1:f p=some a)(h2:g p=some b):cG f g p=some (a&&b):=by
 cases a with
 |true=>exact eN h1 h2
 |false=>exact eD h1
theorem yg7{N:List D}{w:Int}{x0 x5 x6:Option D}:cG (fB (f2 dLt (aB 7) (fC (.int 4)))) (fB (f2 dLe (aJ cN (aA (aB 4) aE)) (aB 3))) [x0,x1,x2,some (.int nest),some (.lst true N),x5,x6,some (.int w),x8,x9]=some (decide (w<4)&&decide ((N.length:Int)<=(nest:Int))):=
 oV (cU (aM rfl rfl rfl)) (cU (aM (aT (aD rfl rfl) rfl) rfl rfl))
theorem xd1{N:List D}{w:Int}{x0 x3 x5 x6:Option D}:cG (fB (f2 dEq (aB 7) (fC (.int 4)))) (fB (f2 dGt (aJ cN (aA (aB 4) aE)) (fC (.int 1)))) [x0,x1,x2,x3,some (.lst true N),x5,x6,some (.int w),x8,x9]=some (decide (w=4)&&decide ((1:Int)<(N.length:Int))):=
 oV (cU (aM rfl rfl rfl)) (cU (aM (aT (aD rfl rfl) rfl) rfl rfl))
theorem yb0{p:PSt}{j:Nat}{M:List D}{d:D}(hp:p[j]? =some (some (.lst true (M++[d])))):f2 dIx (aB j) (eY (fC (.int 1))) p=some d:=aM (lM hp) rfl (show atI (M++[d]) (-1)=_ from L2.zo0 _ _)
theorem xd2{M R:List D}{w:Int}{k:String}{a b c:D}{x0 x3 x5 x6:Option D}:cG (fB (f2 dLt (aB 7) (fC (.int 7)))) (cG (fB (f2 dEq (aB 8) (fC (.str "either")))) (fB (f2 dLt (aJ cN (aA (f2 dIx (f2 dIx (aB 4) (eY (fC (.int 1)))) (fC (.int 2))) aE)) (fC (.int 3))))) [x0,x1,x2,x3,some (.lst true (M++[.lst true [a,b,.lst true R,c]])),x5,x6,some (.int w),some (.str k),x9]=some (decide (w<7)&&(decide (k="either")&&decide ((R.length:Int)<3))):=by
 refine oV (cU (aM rfl rfl rfl)) (oV (cU (aM rfl rfl ?_)) (cU (aM (aT (aD (aM (yb0 (j:=4) rfl) rfl (zr3 _ _ _ _)) rfl) rfl) rfl rfl)))
 show some (D.bl (decide ((k:Str)=(("either":String):Str))))=_
 congr 2
 exact Yy.mpr (by rw [gN])
theorem yq9{p:PSt}{j:Nat}{M:List D}{k n:Nat}{l:List D}(hp:p[j]? =some (some (.lst true (M++[.lst true l]))))(hk:ixN l.length (k:Int)=some n):fY j (fY j cA (eY (fC (.int 1)))) (fC (.int (k:Int))) p=some [.ix M.length,.ix n]:=by
 have e1:ixN (M++[D.lst true l]).length (-1)=some M.length:=by rw [Z3];exact uF _
 have e2:(M++[D.lst true l])[M.length]? =some (.lst true l):=by simp! [nF,nG,iJ]
 simp! [nF,nG,iJ,hp,e1,e2,hk]
theorem yz1{α:Type}{h:D->Option (α×D)}{M l:List D}{n:Nat}{d d':D}{r:α}(hl:l[n]? =some d)(e:h d=some (r,d')):fS h (.lst true (M++[.lst true l])) [.ix M.length,.ix n]=some (r,.lst true (M++[.lst true (l.set n d')])):=by
 have e2:(M++[D.lst true l])[M.length]? =some (.lst true l):=by simp! [nF,nG,iJ]
 show(((M++[D.lst true l])[M.length]?).bind _)=_
 rw [e2,Z6]
 show(((l[n]?).bind _).bind _)=_
 rw [hl,Z6]
 show(((h d).bind _).bind _)=_
 rw [e]
 show some (r,D.lst true ((M++[D.lst true l]).set M.length _))=_
 rw [yJ]
theorem zt3{p:PSt}{j k n:Nat}{M l xs:List D}{fe:tz2}{y:D}(hp:p[j]? =some (some (.lst true (M++[.lst true l]))))(hk:ixN l.length (k:Int)=some n)(hl:l[n]? =some (.lst true xs))(h:fe p=some y)(hz:xs.length<sizeLine):dA (dY j (fY j (fY j cA (eY (fC (.int 1)))) (fC (.int (k:Int)))) (aA fe aE) dS) p=some (.nx,p.set j (some (.lst true (M++[.lst true (l.set n (.lst true (xs++[y])))])))):=by
 refine qZ (d:= .non) ?_
 unfold dY
 rw [hp,YL,Z6,yq9 hp hk,Z6,aD h rfl,Z6,yz1 hl (show dS [y] (.lst true xs)=_ from if_pos hz)]
 rfl
theorem yg8{p:PSt}{j k n:Nat}{M l:List D}{fe:tz2}{y:D}(hp:p[j]? =some (some (.lst true (M++[.lst true l]))))(hk:ixN l.length (k:Int)=some n)(h:fe p=some y):gG j (fY j cA (eY (fC (.int 1)))) (fC (.int (k:Int))) fe p=some (.nx,p.set j (some (.lst true (M++[.lst true (l.set n y)])))):=by
 have e1:ixN (M++[D.lst true l]).length (-1)=some M.length:=by rw [Z3];exact uF _
 have e2:(M++[D.lst true l])[M.length]? =some (.lst true l):=by simp! [nF,nG,iJ]
 have ep:fY j cA (eY (fC (.int 1))) p=some [.ix M.length]:=by simp! [nF,nG,iJ,hp,e1]
 unfold gG
 rw [h,Z6,hp,YL,Z6,ep,Z6]
 show((fS (rF (.int (k:Int)) y) (.lst true (M++[.lst true l])) [.ix M.length]).bind _)=_
 have em:fS (rF (.int (k:Int)) y) (.lst true (M++[.lst true l])) [.ix M.length]=some ((),.lst true (M++[.lst true (l.set n y)])):=by
  show(((M++[D.lst true l])[M.length]?).bind _)=_
  rw [e2,Z6]
  show(((ixN l.length (k:Int)).bind _).bind _)=_
  rw [hk]
  show some ((),D.lst true ((M++[D.lst true l]).set M.length _))=_
  rw [yJ]
 rw [em];rfl
theorem yr0(hw:m % 13<4)(hl:(f::fs).length<=nest)(hz:(f::fs).length<=900):∃kd n y9,ifR GM GS GL [some S,x1,x2,some (.int nest),some (.lst true (cB (f::fs))),some (.int i),some (.int m),some (.int (m % 13)),x8,x9]
  =some (.nx,[some S,x1,x2,some (.int nest),some (.lst true (cB (⟨kd,n,[],[]⟩::f::fs))),some (.int i),some (.int m),some (.int (m % 13)),x8,y9])/\(1<=kd/\kd<=3)/\0<=n/\n<=12:=by
 have h0:=Zt m (show(13:Int)≠0 by decide)
 have d0:=Zt (m/13) (show(13:Int)≠0 by decide)
 have d1:=Zr (m/13) (show(0:Int)<13 by decide)
 obtain⟨kd,q1,hk1,hk2⟩:=xk3 m h0 hw
 obtain⟨n,q2,hn1,hn2⟩:=xr0 (m/13 % 13) (m/169) ⟨d0,XY d1⟩
 have hz':(cB (f::fs)).length<sizeLine:=by rw [nX];exact sz1 (by omega)
 have hl':((cB (f::fs)).length:Int)<=(nest:Int):=by rw [nX];exact Int.ofNat_le.mpr hl
 refine⟨kd,n,some (.str (kdS kd)),?_,⟨hk1,hk2⟩,hn1,hn2⟩
 have e:cB (⟨kd,n,[],[]⟩::f::fs)=cB (f::fs)++[.lst true [.str (kdS kd),.int n,.lst true [],.lst true []]]:=rfl
 rw [e]
 generalize cB (f::fs)=N at hz' hl'|-
 unfold ifR
 refine(bD (yg7.trans (by rw [ya9 hw hl']))).trans ((aK (bF (aM (fA rfl (Z2 rfl)) rfl q1))).trans ?_)
 refine qZ (d:= .non) ?_
 unfold dY
 rw [aD (fA (aD (cF (d:= .str (kdS kd)) rfl rfl) (aD (aM (fA (aD rfl (aD rfl (aD rfl (aD (aM (aM rfl rfl ((gO _ _).trans (if_pos (by decide)))) rfl ((dZ _ _).trans (if_pos (by decide)))) rfl)))) (Z2 rfl)) (aM (aM rfl rfl ((gO _ _).trans (if_pos (by decide)))) rfl ((dZ _ _).trans (if_pos (by decide)))) q2) (aD (fA rfl (Z2 rfl)) (aD (fA rfl (Z2 rfl)) rfl)))) (Z2 rfl)) rfl]
 show((dS [.lst true [.str (kdS kd),.int n,.lst true [],.lst true []]] (.lst true N)).bind _)=_
 rw [show dS [.lst true [.str (kdS kd),.int n,.lst true [],.lst true []]] (.lst true N)=_ from if_pos hz']
 rfl
theorem yr1{g:Gm}(q:GS [.lst true (cB (f::g::fs))]=some (.non,[.lst true (cB (kG g (gB f)::fs))]))(hw:m % 13=4):
  ifR GM GS GL [some S,x1,x2,some (.int nest),some (.lst true (cB (f::g::fs))),some (.int i),some (.int m),some (.int (m % 13)),x8,x9]
  =some (.nx,[some S,x1,x2,some (.int nest),some (.lst true (cB (kG g (gB f)::fs))),some (.int i),some (.int m),some (.int (m % 13)),x8,x9]):=by
 have hl:(1:Int)<((cB (f::g::fs)).length:Int):=by rw [nX];simp;omega
 unfold ifR
 exact(dL (cD (yg7.trans (by rw [zU (fun z=>by omega)])))).trans ((bD (xd1.trans (by rw [ya9 hw hl]))).trans (qZ (oT (mR rfl fX) q rfl)))
theorem yb1(hw:¬(m % 13<4/\(f::fs).length<=nest))(hw4:¬(m % 13=4/\fs≠[])){F1 F2 F3:tz1}:fIf (aY (cG (fB (f2 dLt (aB 7) (fC (.int 4)))) (fB (f2 dLe (aJ cN (aA (aB 4) aE)) (aB 3))))) F1 (fIf (aY (cG (fB (f2 dEq (aB 7) (fC (.int 4)))) (fB (f2 dGt (aJ cN (aA (aB 4) aE)) (fC (.int 1)))))) F2 F3) [some S,x1,x2,some (.int nest),some (.lst true (cB (f::fs))),some (.int i),some (.int m),some (.int (m % 13)),x8,x9]
  =F3 [some S,x1,x2,some (.int nest),some (.lst true (cB (f::fs))),some (.int i),some (.int m),some (.int (m % 13)),x8,x9]:=by
 have hl:(cB (f::fs)).length=(f::fs).length:=nX _
 have hn:¬(m % 13=4/\(1:Int)<((f::fs).length:Int)):=fun z=>hw4 ⟨z.1,fun e=>by rw [e] at z;exact absurd z.2 (Int.lt_irrefl 1)⟩
 exact(dL (cD (yg7.trans (by rw [hl,zU (fun z=>hw ⟨z.1,Int.ofNat_le.mp z.2⟩)])))).trans (dL (cD (xd1.trans (by rw [hl,zU hn]))))
theorem xk4(hw:¬(m % 13<4/\(f::fs).length<=nest))(hw4:¬(m % 13=4/\fs≠[]))(hw7:m % 13<7)(hk:f.kd=3)(hf:f.full.length<3):
  ifR GM GS GL [some S,x1,x2,some (.int nest),some (.lst true (cB (f::fs))),some (.int i),some (.int m),some (.int (m % 13)),some (.str (kdS f.kd)),x9]
  =some (.nx,[some S,x1,x2,some (.int nest),some (.lst true (cB ({f with full:=f.full++[f.parts],parts:=[]}::fs))),some (.int i),some (.int m),some (.int (m % 13)),some (.str (kdS f.kd)),x9]):=by
 unfold ifR
 refine(yb1 hw hw4).trans ?_
 obtain⟨kd,n,full,parts⟩:=f
 have hk':kd=3:=hk
 subst hk'
 have hz:(rowsD full).length<sizeLine:=by rw [iQ];exact sz1 (by have:full.length<3:=hf;omega)
 have hf':((rowsD full).length:Int)<3:=by rw [iQ];exact Int.ofNat_lt.mpr hf
 have er:rowsD (full++[parts])=rowsD full++[.tup (pcsD parts)]:=by rw [wA];rfl
 have b3:(decide (m % 13<7)&&(decide (kdS 3="either")&&decide (((rowsD full).length:Int)<3)))=true:=by rw [Ze hw7,Ze hf'];rfl
 have s1:=zt3 (p:=[some S,x1,x2,some (.int nest),some (.lst true (cB (⟨3,n,full,parts⟩::fs))),some (.int i),some (.int m),some (.int (m % 13)),some (.str (kdS 3)),x9]) (j:=4) (k:=2) (n:=2) (M:=cB fs) (fe:=aJ fO (aA (f2 dIx (f2 dIx (aB 4) (eY (fC (.int 1)))) (fC (.int 3))) aE)) rfl rfl rfl (aT (aD (aM (yb0 (M:=cB fs) rfl) rfl (xp8 _ _ _ _)) rfl) (if_pos (pcs_imm parts))) hz
 rw [<-er] at s1
 have s2:=yg8 (p:=[some S,x1,x2,some (.int nest),some (.lst true (cB fs++[.lst true [.str (kdS 3),.int n,.lst true (rowsD (full++[parts])),.lst true (pcsD parts)]])),some (.int i),some (.int m),some (.int (m % 13)),some (.str (kdS 3)),x9]) (j:=4) (k:=3) (n:=3) (M:=cB fs) (fe:=cE aE) (y:= .lst true []) rfl rfl (fA rfl (Z2 rfl))
 exact(bD (xd2.trans (ZS some b3))).trans ((aK s1).trans s2)
theorem yr2{l:Leaf}{m2:Int}(hm2:GM [S,.int i,.int 32]=some (.int m2))(hL:GL [.int m2]=some (bU l))(hz:f.parts.length<=900)
  (hw:¬(m % 13<4/\(f::fs).length<=nest)) (hw4:¬(m % 13=4/\fs≠[])) (h3:¬(m % 13<7/\f.kd=3/\f.full.length<3)) (hkd:f.kd<=3):
  ifR GM GS GL [some S,x1,x2,some (.int nest),some (.lst true (cB (f::fs))),some (.int i),some (.int m),some (.int (m % 13)),some (.str (kdS f.kd)),x9]
  =some (.nx,[some S,x1,x2,some (.int nest),some (.lst true (cB (kG f (.leaf l)::fs))),some (.int i),some (.int m),some (.int (m % 13)),some (.str (kdS f.kd)),x9]):=by
 have hz':(pcsD f.parts).length<sizeLine:=by rw [mN];exact sz1 (by omega)
 have ep:pcsD (f.parts++[.leaf l])=pcsD f.parts++[bU l]:=by rw [qY];rfl
 have b3:(decide (m % 13<7)&&(decide (kdS f.kd="either")&&decide (((rowsD f.full).length:Int)<3)))=false:=by
  by_cases a1:m % 13<7
  ·rw [zU,XA]
   intro ⟨z1,z2⟩
   rw [iQ] at z2
   have hk:f.kd=0\/f.kd=1\/f.kd=2\/f.kd=3:=by omega
   rcases hk with e|e|e|e
   ·rw [e] at z1;exact absurd z1 (by decide)
   ·rw [e] at z1;exact absurd z1 (by decide)
   ·rw [e] at z1;exact absurd z1 (by decide)
   ·exact h3 ⟨a1,e,Int.ofNat_lt.mp z2⟩
  ·rw [Z5 a1,Xt]
 unfold ifR
 refine(yb1 hw hw4).trans ((dL (cD (xd2.trans (by rw [b3])))).trans ?_)
 have e:cB (kG f (.leaf l)::fs)=cB fs++[.lst true [.str (kdS f.kd),.int f.n,.lst true (rowsD f.full),.lst true (pcsD f.parts++[bU l])]]:=by rw [<-ep];rfl
 rw [e]
 have s1:=zt3 (p:=[some S,x1,x2,some (.int nest),some (.lst true (cB (f::fs))),some (.int i),some (.int m),some (.int (m % 13)),some (.str (kdS f.kd)),x9]) (j:=4) (k:=3) (n:=3) (M:=cB fs) (fe:=aJ GL (aA (aJ GM (aA (aB 0) (aA (aB 5) (aA (fC (.int 32)) aE)))) aE)) rfl rfl rfl (aT (aD (aT (aD rfl (aD rfl (aD rfl rfl))) hm2) rfl) hL) hz'
 exact s1
end
section
variable{GM:tz6}{GS:tz7}{GL:tz6}{S:D}{x1 x2 x6 x7 x8 x9:Option D}{nest k:Nat}{fs:List Gm}{i:Int}
theorem yg9{f:Gm}{fs:List Gm}(h:zv5 (f::fs)):f.kd<=3:=by
 cases fs with
 |nil=>have:f.kd=0:=h;omega
 |cons g fs=>exact h.1.2
theorem xk5(hS:∀(f g:Gm) (fs:List Gm),(1<=f.kd/\f.kd<=3)->(f.kd≠3->f.full=[])->f.full.length<=3->g.parts.length<=900->GS [.lst true (cB (f::g::fs))]=some (.non,[.lst true (cB (kG g (gB f)::fs))]))
  (hL:∀m,0<=m->∃l,GL [.int m]=some (bU l)/\fE l) (hM:∀s:Int,s=31\/s=32->∃m,GM [S,.int i,.int s]=some (.int m)/\0<=m) (h:GInv nest k fs) (hk:4*k+4<=800) (hn:nest<=100):
  ∃fs' y6 y7 y8 y9,vD GM GS GL [some S,x1,x2,some (.int nest),some (.lst true (cB fs)),some (.int i),x6,x7,x8,x9]=some (.nx,[some S,x1,x2,some (.int nest),some (.lst true (cB fs')),some (.int i),y6,y7,y8,y9])/\GInv nest (k+1) fs':=by
 obtain⟨m,hm,hm0⟩:=hM 31 (.inl rfl)
 obtain⟨m2,hm2,hm20⟩:=hM 32 (.inr rfl)
 have hln:=h.len
 cases fs with
 |nil=>exact h.kinds.elim
 | cons f fs=>
  have hd:=yq8 (GS:=GS) (GL:=GL) (x1:=x1) (x2:=x2) (x6:=x6) (x7:=x7) (x8:=x8) (x9:=x9) (nest:=nest) (f:=f) (fs:=fs) hm
  by_cases c1:m % 13<4/\(f::fs).length<=nest
  ·obtain⟨kd,n,y9,q,h1,h2⟩:=yr0 (GM:=GM) (GS:=GS) (GL:=GL) (S:=S) (x1:=x1) (x2:=x2) (x8:=some (.str (kdS f.kd))) (x9:=x9) (i:=i) c1.1 c1.2 (by omega)
   exact⟨_,_,_,_,y9,hd.trans q,h.opener h1 h2 c1.2⟩
  ·by_cases c2:m % 13=4/\fs≠[]
   ·cases fs with
    |nil=>exact absurd rfl c2.2
    |cons g fs=>
     have hf:=h.each f Z0
     have hg:=h.parts (f:=g) (Z1 _ Z0)
     have q:=yr1 (GM:=GM) (GL:=GL) (S:=S) (x1:=x1) (x2:=x2) (x8:=some (.str (kdS f.kd))) (x9:=x9) (nest:=nest) (i:=i) (hS f g fs h.kinds.1 hf.2.2.2.1 hf.2.2.1 (by omega)) c2.1
     exact⟨_,_,_,_,_,hd.trans q,h.shut.more (by omega)⟩
   ·by_cases c3:m % 13<7/\f.kd=3/\f.full.length<3
    ·have q:=xk4 (GM:=GM) (GS:=GS) (GL:=GL) (S:=S) (x1:=x1) (x2:=x2) (x9:=x9) (i:=i) c1 c2 c3.1 c3.2.1 c3.2.2
     exact⟨_,_,_,_,_,hd.trans q,h.orr c3.2.2 c3.2.1⟩
    ·obtain⟨l,hl,hlk⟩:=hL m2 hm20
     have q:=yr2 (GM:=GM) (GS:=GS) (GL:=GL) (S:=S) (x1:=x1) (x2:=x2) (x9:=x9) (i:=i) hm2 hl (by have:=h.parts (f:=f) Z0;omega) c1 c2 c3 (yg9 h.kinds)
     exact⟨_,_,_,_,_,hd.trans q,h.leaf hlk⟩
theorem yb2(hS:∀(f g:Gm) (fs:List Gm),(1<=f.kd/\f.kd<=3)->(f.kd≠3->f.full=[])->f.full.length<=3->g.parts.length<=900->GS [.lst true (cB (f::g::fs))]=some (.non,[.lst true (cB (kG g (gB f)::fs))]))
  (hL:∀m,0<=m->∃l,GL [.int m]=some (bU l)/\fE l) (hn:nest<=100):∀(l:List Int) (fs:List Gm) (k:Nat) (x5 x6 x7 x8 x9:Option D),(∀j∈l,∀s:Int,s=31\/s=32->∃m,GM [S,.int j,.int s]=some (.int m)/\0<=m)->GInv nest k fs->4*(k+l.length)+4<=800->
  ∃fs' y5 y6 y7 y8 y9,dM 5 (vD GM GS GL) (l.map .int) [some S,x1,x2,some (.int nest),some (.lst true (cB fs)),x5,x6,x7,x8,x9]=some (.nx,[some S,x1,x2,some (.int nest),some (.lst true (cB fs')),y5,y6,y7,y8,y9])/\GInv nest (k+l.length) fs'
 |[],fs,k,x5,x6,x7,x8,x9,_,h,_=>⟨fs,x5,x6,x7,x8,x9,by simp! [iJ,dM],h⟩
 |j::l,fs,k,x5,x6,x7,x8,x9,hM,h,hk=>by
  rw [Z4] at hk
  obtain⟨fs1,y6,y7,y8,y9,q,h1⟩:=xk5 (x1:=x1) (x2:=x2) (x6:=x6) (x7:=x7) (x8:=x8) (x9:=x9) hS hL (hM j Z0) h (by omega) hn
  obtain⟨fs2,z5,z6,z7,z8,z9,q2,h2⟩:=yb2 hS hL hn l fs1 (k+1) (some (.int j)) y6 y7 y8 y9 (fun i hi=>hM i (Z1 _ hi)) h1 (by omega)
  refine⟨fs2,z5,z6,z7,z8,z9,?_,(show k+1+l.length=k+(j::l).length by rw [Z4];omega)▸h2⟩
  rw [<-q2]
  show(vD GM GS GL [some S,x1,x2,some (.int nest),some (.lst true (cB fs)),some (.int j),x6,x7,x8,x9]).bind _=_
  rw [q];rfl
def zb2(GS:tz7)(n:Nat):tz1:=kU (aY (fB (f2 dGt (aJ cN (aA (aB 4) aE)) (fC (.int 1))))) (dA (fIO [.io 4] GS)) n
theorem yb3{x0 x3 x5:Option D}(hS:∀(f g:Gm) (fs:List Gm),(1<=f.kd/\f.kd<=3)->(f.kd≠3->f.full=[])->f.full.length<=3->g.parts.length<=900->GS [.lst true (cB (f::g::fs))]=some (.non,[.lst true (cB (kG g (gB f)::fs))]))(hk:4*k+4<=800):
  ∀(n:Nat) (fs:List Gm),fs.length<=n->GInv nest k fs->∃f,zb2 GS n [x0,x1,x2,x3,some (.lst true (cB fs)),x5,x6,x7,x8,x9]=some (.nx,[x0,x1,x2,x3,some (.lst true (cB [f])),x5,x6,x7,x8,x9])/\GInv nest k [f]
 |0,[],_,h=>h.kinds.elim
 |0,_::_,hl,_=>by simp! [iJ] at hl
 |n+1,[],_,h=>h.kinds.elim
 |n+1,[f],_,h=>by
  refine⟨f,?_,h⟩
  unfold zb2
  rw [kU]
  have hl:(cB [f]).length=1:=rfl
  generalize cB [f]=N at hl|-
  simp! [iJ,hl]
 |n+1,f::g::fs,hl,h=>by
  have hf:=h.each f Z0
  have hg:=h.parts (f:=g) (Z1 _ Z0)
  have q:=hS f g fs h.kinds.1 hf.2.2.2.1 hf.2.2.1 (by omega)
  obtain⟨f',w,h'⟩:=yb3 (x0:=x0) (x3:=x3) (x5:=x5) hS hk n (kG g (gB f)::fs) (by simp! [iJ] at hl|-;omega) h.shut
  refine⟨f',?_,h'⟩
  rw [<-w]
  have hl2:(cB (f::g::fs)).length=fs.length+1+1:=by rw [nX];rfl
  have hpos:(1:Int)<((fs.length:Int)+1+1):=by omega
  show kU _ _ (n+1) _=_
  rw [kU]
  generalize cB (f::g::fs)=N at q hl2|-
  generalize cB (kG g (gB f)::fs)=M at q|-
  simp! [iJ,hl2,hpos,q,zb2]
def wa3(n:Nat)(GM:tz6)(GS:tz7)(GL:tz6):tz1:=
 aR (aS 4 (aH (cE (aA (cE (aA (fC (.str "top")) (aA (fC (.int 0)) (aA (cE aE) (aA (cE aE) aE))))) aE)))) (aR (gF 5 (za2 (aA (aB 1) (aA (f2 bJ (aB 1) (aB 2)) aE))) (vD GM GS GL)) (aR (zb2 GS n) (bR (aH (aJ fO (aA (f2 dIx (f2 dIx (aB 4) (fC (.int 0))) (fC (.int 3))) aE))))))
structure RowOk(nest w:Nat)(r:List Pc):Prop where
 ok:okR r
 dep:depR r<=nest
 len:(toksR r).length<=w
theorem xv4{a many n:Nat}(hS:∀(f g:Gm) (fs:List Gm),(1<=f.kd/\f.kd<=3)->(f.kd≠3->f.full=[])->f.full.length<=3->g.parts.length<=900->GS [.lst true (cB (f::g::fs))]=some (.non,[.lst true (cB (kG g (gB f)::fs))]))
  (hL:∀m,0<=m->∃l,GL [.int m]=some (bU l)/\fE l) (hM:∀j s:Int,(a:Int)<=j/\j<a+many->s=31\/s=32->∃m,GM [S,.int j,.int s]=some (.int m)/\0<=m) (hn:nest<=100) (hmany:many<=90) (ha:a<=1000) (hnn:nest<n):
  ∃r,gP 4 6 (wa3 n GM GS GL) [S,.int a,.int many,.int nest]=some (.tup (pcsD r))/\RowOk nest (4*many) r:=by
 have i0:GInv nest 0 [⟨0,0,[],[]⟩]:=⟨by simp! [iJ],by decide,fun f hf=>by rw [ZB.mp hf];exact⟨trivial,trivial,ZH _,fun _=>rfl,Y9 _,by decide⟩,rfl,⟨ZH _,ZH _,trivial⟩⟩
 obtain⟨fs1,y5,y6,y7,y8,y9,q,h1⟩:=yb2 (GM:=GM) (GS:=GS) (GL:=GL) (S:=S) (x1:=some (.int a)) (x2:=some (.int many)) hS hL hn ((List.range many).map fun(k:Nat)=>(a:Int)+(k:Int)) [⟨0,0,[],[]⟩] 0 none none none none none
  (fun j hj s hs=>by obtain⟨k,hk,rfl⟩:=Yc.mp hj;have:=YB.mp hk;exact hM _ s (by omega) hs) i0 (by simp;omega)
 rw [<-xp9] at q
 rw [Zc,Y3,Yt] at h1
 have hln:=h1.len
 obtain⟨f,w,h2⟩:=yb3 (GS:=GS) (x0:=some S) (x1:=some (.int a)) (x2:=some (.int many)) (x3:=some (.int nest)) (x5:=y5) (x6:=y6) (x7:=y7) (x8:=y8) (x9:=y9) hS (by omega) n fs1 (by omega) h1
 have hf:=h2.each f Z0
 have hd:=h2.deep.1
 have hwt:wF f+0<=4*many+4:=h2.wt
 refine⟨f.parts,?_,hf.2.1,by simpa using hd,by unfold wF at hwt;omega⟩
 have e:((a:Int)+(many:Int)-(a:Int)).toNat=many:=by omega
 have s0:aS 4 (aH (cE (aA (cE (aA (fC (.str "top")) (aA (fC (.int 0)) (aA (cE aE) (aA (cE aE) aE))))) aE))) [some S,some (.int a),some (.int many),some (.int nest),none,none,none,none,none,none]=some (.nx,[some S,some (.int a),some (.int many),some (.int nest),some (.lst true (cB [⟨0,0,[],[]⟩])),none,none,none,none,none]):=bF rfl
 have s1:gF 5 (za2 (aA (aB 1) (aA (f2 bJ (aB 1) (aB 2)) aE))) (vD GM GS GL) [some S,some (.int a),some (.int many),some (.int nest),some (.lst true (cB [⟨0,0,[],[]⟩])),none,none,none,none,none]=some (.nx,[some S,some (.int a),some (.int many),some (.int nest),some (.lst true (cB fs1)),y5,y6,y7,y8,y9]):=by
  have e1:aA (aB 1) (aA (f2 bJ (aB 1) (aB 2)) aE) [some S,some (.int a),some (.int many),some (.int nest),some (.lst true (cB [⟨0,0,[],[]⟩])),none,none,none,none,none]=some [.int a,.int ((a:Int)+(many:Int))]:=rfl
  unfold gF za2
  rw [e1,Z6,xi9 (by omega) (by omega) (by omega) (by omega),e]
  exact q
 have s3:aJ fO (aA (f2 dIx (f2 dIx (aB 4) (fC (.int 0))) (fC (.int 3))) aE) [some S,some (.int a),some (.int many),some (.int nest),some (.lst true (cB [f])),y5,y6,y7,y8,y9]=some (.tup (pcsD f.parts)):=by
  show aJ fO (aA (f2 dIx (f2 dIx (aB 4) (fC (.int 0))) (fC (.int 3))) aE) [some S,some (.int a),some (.int many),some (.int nest),some (.lst true [.lst true [.str (kdS f.kd),.int f.n,.lst true (rowsD f.full),.lst true (pcsD f.parts)]]),y5,y6,y7,y8,y9]=_
  simp! [iJ,pcs_imm]
 have z:=(aK s0).trans ((aK s1).trans ((aK w).trans (bS s3)))
 exact kA rfl z
end
abbrev xb5(GM GL:tz6):tz6:=gP 4 6 (zv1 GM zb1 GL)
theorem xr1{GM GL:tz6}{S:D}{nest a many:Nat}(hL:∀m,0<=m->∃l,GL [.int m]=some (bU l)/\fE l)(hM:∀j s:Int,(a:Int)<=j/\j<a+many->s=31\/s=32->∃m,GM [S,.int j,.int s]=some (.int m)/\0<=m)(hn:nest<=100)(hmany:many<=90)(ha:a<=1000):
  ∃r,xb5 GM GL [S,.int a,.int many,.int nest]=some (.tup (pcsD r))/\RowOk nest (4*many) r:=by
 obtain⟨r,h1,h2⟩:=xv4 (n:=400) (GS:=zb1) (fun f g fs h1 h2 h3 h4=>yz0 h1 h2 h3 h4) hL hM hn hmany ha (Ym hn (by decide))
 exact⟨r,h1,h2⟩
theorem zt4{m:Int}:∀(l:List Int) (w:Str) (x2 x4:Option D),(∀j∈l,0<=j/\j<100)->w.length+l.length<=100->w.cps.toList.all xP=true->
  ∃w' x4',dM 4 (aS 3 (aH (f2 bJ (aB 3) (f2 dIx (aB 1) (f2 cK (f2 bJ (f2 dX (aB 0) (fC (.int 12))) (f2 iK (aB 4) (f2 cK (f2 dX (aB 0) (fC (.int 9000))) (fC (.int 93))))) (fC (.int 93))))))) (l.map .int) [some (.int m),some (.str sg),x2,some (.str w),x4]
   =some (.nx,[some (.int m),some (.str sg),x2,some (.str w'),x4'])/\w'.length=w.length+l.length/\w'.cps.toList.all xP=true
 |[],w,x2,x4,_,_,hw=>⟨w,x4,by simp! [gF,iK,iZ,qB,D.flat,oX,dM],rfl,hw⟩
 |j::l,w,x2,x4,hj,hl,hw=>by
  rw [Z4] at hl
  have hj0:=hj j Z0
  obtain⟨c,hc,hg⟩:=xv1 ((m/12+j*(m/9000 % 93)) % 93) (Zt _ (by decide)) (Zr _ (by decide))
  have hw1:(w++(⟨#[c]⟩:Str)).length=w.length+1:=by rw [eI];rfl
  obtain⟨w',x4',q1,q2,q3⟩:=zt4 (m:=m) l (w++⟨#[c]⟩) x2 (some (.int j)) (fun i hi=>hj i (Z1 _ hi)) (by rw [hw1];omega) (by rw [cJ,List.all_append,hw];simp! [gF,iK,iZ,qB,D.flat,oX,hg])
  refine⟨w',x4',?_,by rw [q2,hw1,Z4];omega,q3⟩
  rw [<-q1]
  have hz:w.length+(⟨#[c]⟩:Str).length<=sizeLine:=sz (by show w.length+1<=1000;omega)
  have b1:(-18446744073709551616<j/\j<18446744073709551616):=by omega
  simp! [gF,iK,iZ,qB,D.flat,oX,dM,hc,xi6,hz,b1]
abbrev zb3:tz6:=gP 1 4 wO
theorem yb4{m:Int}(hm:0<=m):∃z,zb3 [.int m]=some (.str z)/\za4 z:=by
 obtain⟨s,hs,h1,h2⟩:=xi7 m
 obtain⟨w,x4,q1,q2,q3⟩:=zt4 (m:=m) ((List.range s.toNat).map fun(k:Nat)=>(k:Int)) "" (some (.int s)) none
  (fun j hj=>by obtain⟨k,hk,rfl⟩:=Yc.mp hj;have:=YB.mp hk;omega) (by rw [Zc,Y3];show 0+_<=100;omega) (by decide+kernel)
 rw [<-yo6] at q1
 rw [Zc,Y3] at q2
 have q2':w.length=s.toNat:=by rw [q2];show 0+_=_;omega
 refine⟨w,?_,by omega,by omega,q3⟩
 have hz:(Str.ofString "abcdefghijklmnopqrstuvwxyzABCDEFGHIJKLMNOPQRSTUVWXYZ0123456789").length+(Str.ofString "!\"#$&'()*+,-./:;<=>?\x40[\\]^_`{|}~").length<=sizeLine:=by decide+kernel
 have e1:Str.ofString "abcdefghijklmnopqrstuvwxyzABCDEFGHIJKLMNOPQRSTUVWXYZ0123456789"++Str.ofString "!\"#$&'()*+,-./:;<=>?\x40[\\]^_`{|}~"=sg:=rfl
 have b1:(-4611686018427387904<=s/\s<4611686018427387904):=by omega
 simp! [gF,iK,iZ,qB,D.flat,oX,wO,hz,e1,hs,q1,b1]
abbrev qG:tz6:=gP 1 1 (wP zb3)
theorem yb5{m:Int}(hm:0<=m):∃l,qG [.int m]=some (bU l)/\fE l:=by
 have hd:0<=m/16:=Xp hm (by decide)
 have s1:aS 1 (aH (f2 dX (aB 0) (fC (.int 16)))) [some (.int m),none]=some (.nx,[some (.int m),some (.int (m/16))]):=bF (aM rfl rfl ((gO _ _).trans (if_pos (by decide))))
 have md:f2 cK (aB 0) (fC (.int 16)) [some (.int m),some (.int (m/16))]=some (.int (m % 16)):=aM rfl rfl ((dZ _ _).trans (if_pos (by decide)))
 have t:∀c:Int,fB (f2 dLt (f2 cK (aB 0) (fC (.int 16))) (fC (.int c))) [some (.int m),some (.int (m/16))]=some (decide (m % 16<c)):=fun c=>cU (aM md rfl rfl)
 have out:∀{p:PSt} (l:Leaf),wP zb3 [some (.int m),none]=some (.ret (bU l),p)->qG [.int m]=some (bU l):=fun l h=>kA rfl h
 have t8:=t 8
 have t13:=t 13
 by_cases c1:m % 16<8
 ·obtain⟨z,q,hz⟩:=yb4 hd
  rw [Ze c1] at t8
  exact⟨.word z,out (.word z) ((aK s1).trans (dO ((bD t8).trans (bS (cW (aD rfl (aD (aT (aD rfl rfl) q) rfl)) rfl (Z2 rfl)))))),hz⟩
 ·rw [Z5 c1] at t8
  by_cases c2:m % 16<13
  ·obtain⟨x,q,hx⟩:=xp7 (m/16)
   rw [Ze c2] at t13
   exact⟨.gap x,out (.gap x) ((aK s1).trans ((aK (aU t8)).trans (dO ((bD t13).trans (bS (cW (aD rfl (aD (aM (fA rfl (Z2 rfl)) (aM rfl rfl ((dZ _ _).trans (if_pos (by decide)))) q) rfl)) rfl (Z2 rfl))))))),hx⟩
  ·rw [Z5 c2] at t13
   have te:fB (f2 dEq (f2 cK (aB 0) (fC (.int 16))) (fC (.int 13))) [some (.int m),some (.int (m/16))]=some (decide (m % 16=13)):=cU (aM md rfl rfl)
   by_cases c3:m % 16=13
   ·rw [Ze c3] at te
    exact⟨.fin,out .fin ((aK s1).trans ((aK (aU t8)).trans ((aK (aU t13)).trans (dO ((bD te).trans (bS rfl)))))),trivial⟩
   ·rw [Z5 c3] at te
    have ha:=Zt (m/16/2) (show(10:Int)≠0 by decide)
    have hb:=Zr (m/16/2) (show(0:Int)<10 by decide)
    have hc:=Zt (m/16/2) (show(41:Int)≠0 by decide)
    have he:=Zr (m/16/2) (show(0:Int)<41 by decide)
    obtain⟨c,q,h1,h2⟩:=xi8 (m/16/2 % 10) (m/16/2 % 41) (m/16) ⟨ha,Int.le_trans (Int.le_of_lt hb) (by decide)⟩ ⟨hc,XY he⟩
    have dv:f2 dX (aB 1) (fC (.int 2)) [some (.int m),some (.int (m/16))]=some (.int (m/16/2)):=aM rfl rfl ((gO _ _).trans (if_pos (by decide)))
    exact⟨.stop c,out (.stop c) ((aK s1).trans ((aK (aU t8)).trans ((aK (aU t13)).trans ((aK (aU te)).trans (bS (cW (aD rfl (aD (aM (fA (aD (aM dv rfl ((dZ _ _).trans (if_pos (by decide)))) (aD (aM dv rfl ((dZ _ _).trans (if_pos (by decide)))) rfl)) (Z2 rfl)) (aM rfl rfl ((dZ _ _).trans (if_pos (by decide)))) q) rfl)) rfl (Z2 rfl))))))),h1,h2⟩
def zm9(GM:tz6):tz1:=aR (aS 4 (aH (aJ GM (aA (aB 0) (aA (f2 bJ (fC (.int 3)) (aB 3)) (aA (fC (.int 58)) aE))))))
 (aR (aS 5 (aH (aX (aA (fC (.str "hang")) (aA (f2 cK (f2 dX (aB 4) (fC (.int 8))) (fC (.int 4))) (aA (aZ (aB 1)) aE))))))
 (aR (fIf (aY (cG (fB (f3 dLt dLt (fC (.int 0)) (f2 cK (aB 4) (fC (.int 8))) (fC (.int 3)))) (fB (f2 dGt (aB 2) (fC (.int 0))))))
  (aR (aS 2 (aH (f2 kS (aB 2) (fC (.int 1)))))
 (aS 5 (aH (f2 dIx (cE (aA (aX (aA (fC (.str "group")) (aA (aZ (aB 1)) aE))) (aA (aX (aA (fC (.str "either")) (aA (aX (aA (aX (aA (aX (aA (fC (.str "word")) (aA (fC (.str "or")) aE))) aE)) (aA (aZ (aB 1)) aE))) aE))) aE))) (f2 kS (f2 cK (aB 4) (fC (.int 8))) (fC (.int 1)))))))
  bP)
 (za1 1 (aH (aX (aA (aJ qG (aA (f2 dX (aB 4) (fC (.int 64))) aE)) (aA (aZ (aB 5)) aE)))))))
theorem xr2:fE (.word "or"):=⟨by decide+kernel,by decide+kernel,by decide+kernel⟩
theorem zV{n w:Nat}{r:List Pc}{l:Leaf}{p:Pc}(hl:fE l)(hr:RowOk n w r)(hp:p= .group r\/(∃k:Int,(0<=k/\k<=12)/\p= .hang k r)\/p= .either [eT,r]):RowOk (n+1) (w+5) [.leaf l,p]:=by
 obtain⟨a,b,c⟩:=hr
 rcases hp with rfl|⟨k,hk,rfl⟩|rfl
 ·exact⟨by simp [okR,okP,hl,a],by simp [depR,cX];omega,by simp [toksR,bN];omega⟩
 ·exact⟨by simp [okR,okP,hl,a,hk],by simp [depR,cX];omega,by simp [toksR,bN];omega⟩
 ·exact⟨by simp [okR,okP,okRs,eT,hl,a,xr2],by simp [depR,cX,depRs,eT];omega,by simp [toksR,bN,toksRows,toksMore,eT];omega⟩
section
variable{GM:tz6}{S:D}
theorem yr3{r:List Pc}{x4 x5 x6:Option D}{left j:Int}{n w:Nat}(hM:MxH GM S)(h0:0<=j)(h1:j<100)(hr:RowOk n w r):
  ∃r' left' y5 y6,zm9 GM [some S,some (.tup (pcsD r)),some (.int left),some (.int j),x5,x6]=some (.nx,[some S,some (.tup (pcsD r')),some (.int left'),some (.int j),y5,y6])/\RowOk (n+1) (w+5) r':=by
 obtain⟨a,qa,ha⟩:=hM (3+j) 58 (by omega) (by omega) (by decide) (by decide)
 obtain⟨l,ql,hl⟩:=yb5 (m:=a/64) (Xp ha (by decide))
 have pi:=pcs_imm r
 have m0:=Zt a (show(8:Int)≠0 by decide)
 have m1:=Zr a (show(0:Int)<8 by decide)
 have k0:=Zt (a/8) (show(4:Int)≠0 by decide)
 have k1:=Zr (a/8) (show(0:Int)<4 by decide)
 have s1:aS 4 (aH (aJ GM (aA (aB 0) (aA (f2 bJ (fC (.int 3)) (aB 3)) (aA (fC (.int 58)) aE))))) [some S,some (.tup (pcsD r)),some (.int left),some (.int j),x5,x6]=some (.nx,[some S,some (.tup (pcsD r)),some (.int left),some (.int j),some (.int a),x6]):=bF (aT (aD rfl (aD (aM rfl rfl rfl) (aD rfl rfl))) qa)
 have s2:aS 5 (aH (aX (aA (fC (.str "hang")) (aA (f2 cK (f2 dX (aB 4) (fC (.int 8))) (fC (.int 4))) (aA (aZ (aB 1)) aE))))) [some S,some (.tup (pcsD r)),some (.int left),some (.int j),some (.int a),x6]=some (.nx,[some S,some (.tup (pcsD r)),some (.int left),some (.int j),some (.int a),some (pcD (.hang (a/8 % 4) r))]):=
  bF (cW (aD rfl (aD (aM (aM rfl rfl ((gO _ _).trans (if_pos (by decide)))) rfl ((dZ _ _).trans (if_pos (by decide)))) (aD (cF rfl pi) rfl))) (by simp [D.imms,D.imm,pi]) (Z2 rfl))
 have md:∀x3 x6,f2 cK (aB 4) (fC (.int 8)) [some S,some (.tup (pcsD r)),x3,some (.int j),some (.int a),x6]=some (.int (a % 8)):=fun _ _=>aM rfl rfl ((dZ _ _).trans (if_pos (by decide)))
 have fin:∀(p:Pc) (left':Int),(pcD p).imm=true->za1 1 (aH (aX (aA (aJ qG (aA (f2 dX (aB 4) (fC (.int 64))) aE)) (aA (aZ (aB 5)) aE)))) [some S,some (.tup (pcsD r)),some (.int left'),some (.int j),some (.int a),some (pcD p)]=some (.nx,[some S,some (.tup (pcsD [.leaf l,p])),some (.int left'),some (.int j),some (.int a),some (pcD p)]):=fun p left' hp=>by
  have li:=zr2 l
  have e:aX (aA (aJ qG (aA (f2 dX (aB 4) (fC (.int 64))) aE)) (aA (aZ (aB 5)) aE)) [some S,some (.tup (pcsD r)),some (.int left'),some (.int j),some (.int a),some (pcD p)]=some (.tup [bU l,pcD p]):=cW (aD (aT (aD (aM rfl rfl ((gO _ _).trans (if_pos (by decide)))) rfl) ql) (aD (cF rfl hp) rfl)) (by simp [D.imms,li,hp]) (Z2 rfl)
  unfold za1 aH
  rw [e]
  refine(if_pos ?_).trans rfl
  simp [D.imm,D.imms,li,hp]
 have t1:fB (f3 dLt dLt (fC (.int 0)) (f2 cK (aB 4) (fC (.int 8))) (fC (.int 3))) [some S,some (.tup (pcsD r)),some (.int left),some (.int j),some (.int a),some (pcD (.hang (a/8 % 4) r))]=some (decide (0<a % 8)&&decide (a % 8<3)):=by
  refine cU ?_
  unfold f3
  rw [md]
  by_cases c:0<a % 8<;>simp [dLt,c,fC]
 have t2:fB (f2 dGt (aB 2) (fC (.int 0))) [some S,some (.tup (pcsD r)),some (.int left),some (.int j),some (.int a),some (pcD (.hang (a/8 % 4) r))]=some (decide (0<left)):=cU (aM rfl rfl rfl)
 have ih:(pcD (.hang (a/8 % 4) r)).imm=true:=by simp [pcD,D.imm,D.imms,pi]
 have no:∀(h:cG (fB (f3 dLt dLt (fC (.int 0)) (f2 cK (aB 4) (fC (.int 8))) (fC (.int 3)))) (fB (f2 dGt (aB 2) (fC (.int 0)))) [some S,some (.tup (pcsD r)),some (.int left),some (.int j),some (.int a),some (pcD (.hang (a/8 % 4) r))]=some false),∃r' left' y5 y6,zm9 GM [some S,some (.tup (pcsD r)),some (.int left),some (.int j),x5,x6]=some (.nx,[some S,some (.tup (pcsD r')),some (.int left'),some (.int j),y5,y6])/\RowOk (n+1) (w+5) r':=fun h=>
  ⟨_,left,_,_,(aK s1).trans ((aK s2).trans ((aK (aU h)).trans (fin _ _ ih))),zV hl hr (.inr (.inl ⟨_,⟨k0,by omega⟩,rfl⟩))⟩
 by_cases c1:0<a % 8/\a % 8<3
 ·rw [Ze c1.1,Ze c1.2] at t1
  by_cases c2:0<left
  ·rw [Ze c2] at t2
   have e1:aX (aA (fC (.str "group")) (aA (aZ (aB 1)) aE)) [some S,some (.tup (pcsD r)),some (.int (left-1)),some (.int j),some (.int a),some (pcD (.hang (a/8 % 4) r))]=some (pcD (.group r)):=cW (aD rfl (aD (cF rfl pi) rfl)) (by simp [D.imms,D.imm,pi]) (Z2 rfl)
   have e0:aX (aA (aX (aA (fC (.str "word")) (aA (fC (.str "or")) aE))) aE) [some S,some (.tup (pcsD r)),some (.int (left-1)),some (.int j),some (.int a),some (pcD (.hang (a/8 % 4) r))]=some (.tup (pcsD eT)):=rfl
   have io:=pcs_imm eT
   have i2:D.imms [.tup (pcsD eT),.tup (pcsD r)]=true:=by simp [D.imms,D.imm,pi,io]
   have i3:D.imms [.str "either",.tup [.tup (pcsD eT),.tup (pcsD r)]]=true:=by simp [D.imms,D.imm,pi,io]
   have d2:aA (aX (aA (aX (aA (fC (.str "word")) (aA (fC (.str "or")) aE))) aE)) (aA (aZ (aB 1)) aE) [some S,some (.tup (pcsD r)),some (.int (left-1)),some (.int j),some (.int a),some (pcD (.hang (a/8 % 4) r))]=some [.tup (pcsD eT),.tup (pcsD r)]:=aD e0 (aD (cF rfl pi) rfl)
   have e2:aX (aA (fC (.str "either")) (aA (aX (aA (aX (aA (aX (aA (fC (.str "word")) (aA (fC (.str "or")) aE))) aE)) (aA (aZ (aB 1)) aE))) aE)) [some S,some (.tup (pcsD r)),some (.int (left-1)),some (.int j),some (.int a),some (pcD (.hang (a/8 % 4) r))]=some (pcD (.either [eT,r])):=
    cW (aD rfl (aD (cW (d2) (i2) (Z2 rfl)) rfl)) (i3) (Z2 rfl)
   obtain⟨p,hp,qp,ip⟩:∃p,(p= .group r\/p= .either [eT,r])/\dIx (.lst true [pcD (.group r),pcD (.either [eT,r])]) (.int (a % 8-1))=some (pcD p)/\(pcD p).imm=true:=by
    have:a % 8=1\/a % 8=2:=by omega
    rcases this with h|h<;>rw [h]
    ·exact⟨_,.inl rfl,rfl,by simp [pcD,D.imm,D.imms,pi]⟩
    ·exact⟨_,.inr rfl,rfl,by simp [pcD,rowsD,D.imm,D.imms,pi,pcs_imm]⟩
   refine⟨_,left-1,_,_,(aK s1).trans ((aK s2).trans ((aK ((bD (eN t1 t2)).trans ((aK (bF (aM rfl rfl rfl))).trans (bF (aM (fA (aD e1 (aD e2 rfl)) (Z2 rfl)) (aM (md _ _) rfl rfl) qp))))).trans (fin p _ ip))),zV hl hr ?_⟩
   rcases hp with h|h
   ·exact .inl h
   ·exact .inr (.inr h)
  ·rw [Z5 c2] at t2
   exact no (eN t1 t2)
 ·have:(decide (0<a % 8)&&decide (a % 8<3))=false:=by simpa using c1
  rw [this] at t1
  exact no (eD t1)
theorem zi6(hM:MxH GM S):∀(js:List Int) (r:List Pc) (left:Int) (x4 x5 x6:Option D) (n w:Nat),(∀j∈js,0<=j/\j<100)->RowOk n w r->
  ∃r' q,dM 3 (zm9 GM) (js.map .int) [some S,some (.tup (pcsD r)),some (.int left),x4,x5,x6]=some (.nx,some S::some (.tup (pcsD r'))::q)/\RowOk (n+js.length) (w+5*js.length) r'
 |[],r,left,x4,x5,x6,n,w,_,hr=>⟨r,_,rfl,hr⟩
 |j::js,r,left,x4,x5,x6,n,w,hj,hr=>by
  have hj0:=hj j Z0
  obtain⟨r1,l1,y5,y6,q,h1⟩:=yr3 (x4:=x4) (x5:=x5) (x6:=x6) (left:=left) hM hj0.1 hj0.2 hr
  obtain⟨r2,z,q2,h2⟩:=zi6 hM js r1 l1 (some (.int j)) y5 y6 (n+1) (w+5) (fun i hi=>hj i (Z1 _ hi)) h1
  refine⟨r2,z,?_,by rw [Z4];exact⟨h2.ok,by have:=h2.dep;omega,by have:=h2.len;omega⟩⟩
  rw [<-q2]
  show dM 3 _ (.int j::js.map .int) _=_
  rw [dM]
  show((zm9 GM [some S,some (.tup (pcsD r)),some (.int left),some (.int j),x5,x6]).bind _)=_
  rw [q];rfl
abbrev xd8(GM:tz6):tz6:=gP 2 4 (wQ GM qG)
theorem yh0{r:List Pc}{n w:Nat}(hM:MxH GM S)(hr:RowOk n w r):∃r',xd8 GM [S,.tup (pcsD r)]=some (.tup (pcsD r'))/\RowOk (n+9) (w+45) r':=by
 obtain⟨a,qa,ha⟩:=hM 2 57 (by decide) (by decide) (by decide) (by decide)
 obtain⟨k,hk,k1⟩:=xj1 (a/4) 3 7 (by decide)
 obtain⟨r',q,e,h⟩:=zi6 (GM:=GM) (S:=S) hM ((List.range k).map fun(i:Nat)=>(i:Int)) r 3 none none none n w (fun j hj=>by obtain⟨i,hi,rfl⟩:=Yc.mp hj;have:=YB.mp hi;omega) hr
 rw [Zc,Y3] at h
 rw [<-yo6] at e
 have s1:aS 2 (aH (fC (.int 3))) [some S,some (.tup (pcsD r)),none,none,none,none]=some (.nx,[some S,some (.tup (pcsD r)),some (.int 3),none,none,none]):=rfl
 have er:iZ (aA (f2 bJ (fC (.int 3)) (f2 cK (f2 dX (aJ GM (aA (aB 0) (aA (fC (.int 2)) (aA (fC (.int 57)) aE)))) (fC (.int 4))) (fC (.int 7)))) aE) [some S,some (.tup (pcsD r)),some (.int 3),none,none,none]=some (eS 0 k):=by
  unfold iZ
  rw [aD (d:= .int (k:Int)) (aM (x:= .int 3) (y:= .int (a/4 % 7)) rfl (aM (aM (aT (aD rfl (aD rfl (aD rfl rfl))) qa) rfl ((gO _ _).trans (if_pos (by decide)))) rfl ((dZ _ _).trans (if_pos (by decide)))) (by rw [<-hk];rfl)) (show aE _=some [] from rfl),Z6]
  exact xq0 (by omega)
 refine⟨r',iI rfl (bL s1 (bL (mS er e) ⟨_,bS (cF (d:= .tup (pcsD r')) rfl (pcs_imm r'))⟩)),h.ok,by have:=h.dep;omega,by have:=h.len;omega⟩
end
theorem zt5:∀(ys:List Str),ys≠[]->(∀y∈ys,(y:Str).length<=(Str.join ⟨#[10]⟩ ys).length)/\ys.length<=(Str.join ⟨#[10]⟩ ys).length+1
 |[],h=>absurd rfl h
 |[y],_=>⟨fun z hz=>by rw [ZB.mp hz];exact Z9 _,Nat.le_add_left _ _⟩
 | x::y::r,_=>by
  obtain⟨h1,h2⟩:=zt5 (y::r) (by simp)
  have e:(Str.join ⟨#[10]⟩ (x::y::r)).length=x.length+1+(Str.join ⟨#[10]⟩ (y::r)).length:=by
   show(Str.join ⟨#[10]⟩ (x::y::r)).cps.size=x.cps.size+1+(Str.join ⟨#[10]⟩ (y::r)).cps.size
   rw [<-ZF,rA,Z3,Z4,ZF,ZF];omega
  rw [e]
  refine⟨fun z hz=> ?_,by rw [Z4];omega⟩
  rcases Za.mp hz with rfl|hz
  ·omega
  ·have:=h1 z hz;omega
theorem xk6(t:Str):(∀y∈lns t,(y:Str).length<=t.length)/\(lns t).length<=t.length+1:=by
 have:=zt5 (lns t) (zr7 t)
 rwa [uI] at this
theorem yz2{f:tz2}{p:PSt}{t:Str}(h:f p=some (.str t))(hl:t.length<=900000):fMt za0 f (aA (fC (.str "\n")) aE) p=some (.lst true (L2.xO (lns t))):=by
 unfold fMt
 rw [h,Z6,aD (f:=fC (.str "\n")) (g:=aE) (d:= .str "\n") (ds:=[]) rfl rfl,Z6,if_pos (show zl3 (.str t)=true from rfl)]
 unfold lns
 rw [<-xH]
 exact if_pos ⟨by decide+kernel,by omega⟩
abbrev tW:tz6:=gP 1 0 vK
theorem yz3{t:Str}(hl:t.length<=900000):tW [.str t]=some (.lst true (L2.xO (lns t))):=iI rfl ⟨_,bS (yz2 (f:=aB 0) (p:=[some (.str t)]) rfl hl)⟩
theorem xk7{α:Type}(l:List α)(a:α):atI (l++[a]) (-1)=some a:=by
 unfold atI
 rw [Z3]
 show(ixN (l.length+1) (-1)).bind _=_
 rw [uF,Z6]
 simp
theorem zt6(W:Str):hdT W W.length=W:=tD (by rw [qI,eP,List.take_length])
abbrev sH(n:Nat):tz6:=gP 2 3 (sE lF wV mF (ze9 n) tW)
def yh8:Option Way->D
 |none=> .non
 |some x=> .tup (bV x.2)
theorem xK{W:Str}{n:Nat}{r:List Pc}(hW:W.length<=900000)(hd:depR r<n)(h8:depR r<=16)(ho:okR r)(hl:(toksR r).length<=800):sH n [.tup (pcsD r),.str W]=some (yh8 (gS (dQ W n r) W.length)):=by
 have hs:sizeLine=16777216:=ZZ
 have q:=yq4 (W:=W) hW hd h8 ho hl
 have s1:aS 2 (aH (eX "Front" (cV [.im (lU (eX "AlongText" (cV [.im (aB 1)]) wV))]) lF)) [some (.tup (pcsD r)),some (.str W),none,none,none]=some (.nx,[some (.tup (pcsD r)),some (.str W),some (aL true W []),none,none]):=bF (uO (yy2 rfl))
 have k0:fKt (aA (fC (.int 0)) (aA (fC (.int 0)) aE)) [some (.tup (pcsD r)),some (.str W),some (aL true W []),none,none]=some (.kt (dP W 0)):=rfl
 have s2:dA (dY 2 cA (cV [.im (fKt (aA (fC (.int 0)) (aA (fC (.int 0)) aE))),.im (aX (aA (aX aE) (aA (aX aE) aE)))]) (iR "Front" "add" mF)) [some (.tup (pcsD r)),some (.str W),some (aL true W []),none,none]=some (.nx,[some (.tup (pcsD r)),some (.str W),some (aL true W [(0,((),[]))]),none,none]):=xI (j:=2) (F:=[]) (W:=W) (k:=0) (x:=((),[])) rfl k0 rfl (by simp)
 have s3:aS 3 (aH (aZ (dG "Front" "best" (aJ (ze9 n) (aA (aB 2) (aA (aB 0) aE)))))) [some (.tup (pcsD r)),some (.str W),some (aL false W [(0,((),[]))]),none,none]=some (.nx,[some (.tup (pcsD r)),some (.str W),some (aL false W [(0,((),[]))]),some (.dit false (dU W (dQ W n r)) (eK (dQ W n r))),none]):=bF (cF (yN (aT (aD rfl (aD rfl rfl)) q)) (zz2 W _))
 have kT:fKt (aA (aJ cN (aA (aB 1) aE)) (aA (aJ cN (aA (f2 dIx (aJ tW (aA (aB 1) aE)) (eY (fC (.int 1)))) aE)) aE)) [some (.tup (pcsD r)),some (.str W),some (aL false W [(0,((),[]))]),some (.dit false (dU W (dQ W n r)) (eK (dQ W n r))),none]=some (.kt (dP W W.length)):=by
  obtain⟨xs,y,e⟩:=yx2 W
  have ly:=(xk6 W).1 y (by rw [e];simp)
  have cy:cT W W.length=y.length:=by unfold cT;rw [zt6,yx3 e]
  have a1:aJ cN (aA (aB 1) aE) [some (.tup (pcsD r)),some (.str W),some (aL false W [(0,((),[]))]),some (.dit false (dU W (dQ W n r)) (eK (dQ W n r))),none]=some (.int (W.length:Int)):=aT (aD rfl rfl) (if_pos (by omega))
  have a2:f2 dIx (aJ tW (aA (aB 1) aE)) (eY (fC (.int 1))) [some (.tup (pcsD r)),some (.str W),some (aL false W [(0,((),[]))]),some (.dit false (dU W (dQ W n r)) (eK (dQ W n r))),none]=some (.str y):=by
   refine aM (aT (aD rfl rfl) (yz3 hW)) (y:= .int (-1)) rfl ?_
   show atI (L2.xO (lns W)) (-1)=_
   rw [e]
   unfold L2.xO
   rw [ZX]
   exact xk7 _ _
  have a3:aJ cN (aA (f2 dIx (aJ tW (aA (aB 1) aE)) (eY (fC (.int 1)))) aE) [some (.tup (pcsD r)),some (.str W),some (aL false W [(0,((),[]))]),some (.dit false (dU W (dQ W n r)) (eK (dQ W n r))),none]=some (.int (cT W W.length:Int)):=aT (aD a2 rfl) (by rw [cy];exact if_pos (by omega))
  unfold fKt
  rw [aD a1 (aD a3 (show aE _=some [] from rfl))]
  rfl
 have s4:aS 4 (aH (fKt (aA (aJ cN (aA (aB 1) aE)) (aA (aJ cN (aA (f2 dIx (aJ tW (aA (aB 1) aE)) (eY (fC (.int 1)))) aE)) aE)))) [some (.tup (pcsD r)),some (.str W),some (aL false W [(0,((),[]))]),some (.dit false (dU W (dQ W n r)) (eK (dQ W n r))),none]=some (.nx,[some (.tup (pcsD r)),some (.str W),some (aL false W [(0,((),[]))]),some (.dit false (dU W (dQ W n r)) (eK (dQ W n r))),some (.kt (dP W W.length))]):=bF kT
 have t5:fB (f2 iM (aB 4) (aB 3)) [some (.tup (pcsD r)),some (.str W),some (aL false W [(0,((),[]))]),some (.dit false (dU W (dQ W n r)) (eK (dQ W n r))),some (.kt (dP W W.length))]=some (!(gS (dQ W n r) W.length).isSome):=cU (aM rfl rfl (by
  show some (D.bl (!(iC (dU W (dQ W n r)) (eK (dQ W n r)) (dP W W.length)).isSome))=_
  rw [nE,Xa]))
 refine iI rfl (bL s1 (bL s2 ?_))
 have fz:∀f:tz1,zm2 2 f [some (.tup (pcsD r)),some (.str W),some (aL true W [(0,((),[]))]),none,none]=f [some (.tup (pcsD r)),some (.str W),some (aL false W [(0,((),[]))]),none,none]:=fun f=>by
  unfold zm2
  show((some (aL true W [(0,((),[]))])).bind _)=_
  rw [Z6,zi1];rfl
 rw [fz]
 refine bL s3 (bL s4 ?_)
 cases e:gS (dQ W n r) W.length with
 |none=>
  rw [e] at t5
  exact kQ ⟨_,(bD t5).trans (bS rfl)⟩
 |some x=>
  rw [e] at t5
  refine bL (aU t5) ⟨_,bS (cF (aM (x:=wyD x) (aM rfl rfl ?_) rfl (eO _ _ _)) (jL x.2))⟩
  show iC (dU W (dQ W n r)) (eK (dQ W n r)) (dP W W.length)=_
  rw [nE,e];rfl
theorem wJ{W:Str}{n:Nat}{r:List Pc}{x:Way}(hd:depR r<n)(h8:depR r<=16)(ho:okR r)(h:gS (dQ W n r) W.length=some x):setR true 0 r x.2 ⟨#[]⟩=some ([],W):=by
 have g:Good W (fun cs t=>setR true 0 r cs ⟨#[]⟩=some ([],t)) (dQ W n r):=zP (n:=n) hd ho (by omega)
 obtain⟨t,ht,hp⟩:=g.hit _ (zd9 h)
 have e:t=W:=hp.1.trans (zt6 W)
 rw [<-e];exact ht
theorem zi7{W:Str}{n:Nat}{r:List Pc}{C:List Int}(hd:depR r<n)(h8:depR r<=16)(ho:okR r)(h:setR true 0 r C ⟨#[]⟩=some ([],W)):∃x,gS (dQ W n r) W.length=some x/\HT.lexLt C x.2=false:=by
 have g:Good W (fun cs t=>setR true 0 r cs ⟨#[]⟩=some ([],t)) (dQ W n r):=zP (n:=n) hd ho (by omega)
 have b:lG W (fun cs t=>setR true 0 r cs ⟨#[]⟩=some ([],t)) (dQ W n r):=yg6 (n:=n) hd ho (by omega)
 obtain⟨y,hy,hn⟩:=b C W W.length h ⟨(zt6 W).symm,Z9 _⟩
 exact⟨y,rD g.nd hy,wE.mp hn⟩
theorem zt7:∀a b:List Pc,depR (a++b)=max (depR a) (depR b)
 |[],b=>by show depR b=max 0 (depR b);omega
 |p::a,b=>by
  show max (cX p) (depR (a++b))=max (max (cX p) (depR a)) (depR b)
  rw [zt7 a b];omega
structure Tw(p p':Pc):Prop where
 ok:okP p'
 dep:cX p'<=cX p+2
 len:(bN p').length<=2*(bN p).length+7
def tw0(p:Pc):Pc:= .group [p]
def tw1(p:Pc):Pc:= .either [[p],[p]]
def tw2(p:Pc):Pc:= .either [eT,[p],[.group [p]]]
def tw3(p:Pc)(v:Int):Pc:= .either [[p,.leaf (.stop v)],[p]]
theorem xk8{p:Pc}(h:okP p){v:Int}(v0:0<=v)(v1:v<=40):Tw p p/\Tw p (tw0 p)/\Tw p (tw1 p)/\Tw p (tw2 p)/\Tw p (tw3 p v):=by
 have hor:fE (.word "or"):=⟨by decide+kernel,by decide+kernel,by decide+kernel⟩
 have hst:fE (.stop v):=⟨v0,v1⟩
 refine⟨⟨h,by omega,by omega⟩,⟨?_,?_,?_⟩,⟨?_,?_,?_⟩,⟨?_,?_,?_⟩,⟨?_,?_,?_⟩⟩
 ·simp [tw0,okP,okR,h]
 ·simp [tw0,cX,depR]
 ·simp [tw0,bN,toksR];omega
 ·simp [tw1,okP,okRs,okR,h]
 ·simp [tw1,cX,depRs,depR]
 ·simp [tw1,bN,toksRows,toksMore,toksR];omega
 ·simp [tw2,okP,okRs,okR,h,eT,hor]
 ·simp [tw2,cX,depRs,depR,eT]
 ·simp [tw2,bN,toksRows,toksMore,toksR,eT];omega
 ·simp [tw3,okP,okRs,okR,h,hst]
 ·simp [tw3,cX,depRs,depR]
 ·simp [tw3,bN,toksRows,toksMore,toksR];omega
theorem yz4(p:Pc):∃b ds k,pcD p= .tup (.str k::ds)/\dIn (.str k) (.lst true [.str "word",.str "gap",.str "end",.str "stop"])=some (.bl b):=by
 cases p with
 |group r=>exact⟨false,_,"group",rfl,by kernel_rfl⟩
 |hang n r=>exact⟨false,_,"hang",rfl,by kernel_rfl⟩
 |either rs=>exact⟨false,_,"either",rfl,by kernel_rfl⟩
 |leaf l=>
  cases l with
  |word x=>exact⟨true,_,"word",rfl,by kernel_rfl⟩
  |gap x=>exact⟨true,_,"gap",rfl,by kernel_rfl⟩
  |fin=>exact⟨true,_,"end",rfl,by kernel_rfl⟩
  |stop k=>exact⟨true,_,"stop",rfl,by kernel_rfl⟩
section
variable{GM:tz6}{S:D}
abbrev eqT(c:Int):tz4:=fB (f2 dEq (f2 cK (aB 4) (fC (.int 8))) (fC (.int c)))
abbrev ltT:tz4:=fB (f2 dLt (aB 3) (fC (.int 12)))
def zv8(GM:tz6):tz1:=(aR (aS 4 (aH (aJ GM (aA (aB 0) (aA (aB 3) (aA (fC (.int 61)) aE))))))
 (aR (aS 5 (aH (aZ (f2 dIx (aB 1) (aB 3)))))
 (aR (aS 6 (aH (fOr (f2 dIn (f2 dIx (aB 5) (fC (.int 0))) (cE (fKs [.str "word",.str "gap",.str "end",.str "stop"]))) (f2 dLt (aJ cN (aA (aB 1) aE)) (fC (.int 4))))))
 (aR (fIf (aY (cG (eqT 1) ltT))
  (aS 5 (aH (aX (aA (fC (.str "group")) (aA (aX (aA (aZ (aB 5)) aE)) aE)))))
  (fIf (aY (cG (eqT 0) (cG ltT (fT (aB 6)))))
  (aS 5 (aH (aX (aA (fC (.str "either")) (aA (aX (aA (aX (aA (aZ (aB 5)) aE)) (aA (aX (aA (aZ (aB 5)) aE)) aE))) aE)))))
  (fIf (aY (cG (eqT 2) (cG ltT (fT (aB 6)))))
  (aS 5 (aH (aX (aA (fC (.str "either")) (aA (aX (aA (aX (aA (aX (aA (fC (.str "word")) (aA (fC (.str "or")) aE))) aE)) (aA (aX (aA (aZ (aB 5)) aE)) (aA (aX (aA (aX (aA (fC (.str "group")) (aA (aX (aA (aZ (aB 5)) aE)) aE))) aE)) aE)))) aE)))))
  (fIf (aY (cG (eqT 3) (cG ltT (fT (aB 6)))))
  (aS 5 (aH (aX (aA (fC (.str "either")) (aA (aX (aA (aX (aA (aZ (aB 5)) (aA (aX (aA (fC (.str "stop")) (aA (f2 cK (f2 dX (aB 4) (fC (.int 8))) (fC (.int 6))) aE))) aE))) (aA (aX (aA (aZ (aB 5)) aE)) aE))) aE)))))
  bP))))
 (dA (dY 2 cA (aA (aZ (aB 5)) aE) dS))))))
theorem yr4{r done:List Pc}{p:Pc}{k:Nat}{x4 x5 x6:Option D}(hM:MxH GM S)(hk:k<=900)(hd:done.length<=900)(hp:(pcsD r)[k]? =some (pcD p))(ho:okP p):
  ∃p' y4 y5 y6,zv8 GM [some S,some (.tup (pcsD r)),some (.lst true (pcsD done)),some (.int (k:Int)),x4,x5,x6]=some (.nx,[some S,some (.tup (pcsD r)),some (.lst true (pcsD (done++[p']))),some (.int (k:Int)),y4,y5,y6])/\Tw p p'/\(12<=k->p'=p):=by
 obtain⟨a,qa,ha⟩:=hM (k:Int) 61 (by omega) (by omega) (by decide) (by decide)
 have pi:=jF p
 obtain⟨pb,ds,kn,ek,eb⟩:=yz4 p
 have s1:aS 4 (aH (aJ GM (aA (aB 0) (aA (aB 3) (aA (fC (.int 61)) aE))))) [some S,some (.tup (pcsD r)),some (.lst true (pcsD done)),some (.int (k:Int)),x4,x5,x6]=some (.nx,[some S,some (.tup (pcsD r)),some (.lst true (pcsD done)),some (.int (k:Int)),some (.int a),x5,x6]):=bF (aT (aD rfl (aD rfl (aD rfl rfl))) qa)
 have s2:aS 5 (aH (aZ (f2 dIx (aB 1) (aB 3)))) [some S,some (.tup (pcsD r)),some (.lst true (pcsD done)),some (.int (k:Int)),some (.int a),x5,x6]=some (.nx,[some S,some (.tup (pcsD r)),some (.lst true (pcsD done)),some (.int (k:Int)),some (.int a),some (pcD p),x6]):=bF (cF (aM (x:= .tup (pcsD r)) rfl rfl (mO hp)) pi)
 obtain⟨pl,s3⟩:∃pl:Bool,aS 6 (aH (fOr (f2 dIn (f2 dIx (aB 5) (fC (.int 0))) (cE (fKs [.str "word",.str "gap",.str "end",.str "stop"]))) (f2 dLt (aJ cN (aA (aB 1) aE)) (fC (.int 4))))) [some S,some (.tup (pcsD r)),some (.lst true (pcsD done)),some (.int (k:Int)),some (.int a),some (pcD p),x6]=some (.nx,[some S,some (.tup (pcsD r)),some (.lst true (pcsD done)),some (.int (k:Int)),some (.int a),some (pcD p),some (.bl pl)]):=by
  have e1:f2 dIn (f2 dIx (aB 5) (fC (.int 0))) (cE (fKs [.str "word",.str "gap",.str "end",.str "stop"])) [some S,some (.tup (pcsD r)),some (.lst true (pcsD done)),some (.int (k:Int)),some (.int a),some (pcD p),x6]=some (.bl pb):=aM (x:= .str kn) (y:= .lst true [.str "word",.str "gap",.str "end",.str "stop"]) (aM (x:=pcD p) rfl rfl (by rw [ek];exact kE _ _)) rfl eb
  have e2:f2 dLt (aJ cN (aA (aB 1) aE)) (fC (.int 4)) [some S,some (.tup (pcsD r)),some (.lst true (pcsD done)),some (.int (k:Int)),some (.int a),some (pcD p),x6]=some (.bl (decide (((pcsD r).length:Int)<4))):=aM (aT (aD rfl rfl) rfl) rfl rfl
  cases pb with
  |true=>exact⟨true,bF (by unfold fOr;rw [e1];rfl)⟩
  |false=>exact⟨_,bF (by unfold fOr;rw [e1];exact e2)⟩
 generalize hq:[some S,some (D.tup (pcsD r)),some (.lst true (pcsD done)),some (.int (k:Int)),some (.int a),some (pcD p),some (D.bl pl)]=q at s3
 have v5:aZ (aB 5) q=some (pcD p):=cF (by rw [<-hq];rfl) pi
 have v4:aB 4 q=some (.int a):=by rw [<-hq];rfl
 have te:∀c,eqT c q=some (decide (a % 8=c)):=fun c=>cU (aM (aM v4 rfl ((dZ _ _).trans (if_pos (by decide)))) rfl rfl)
 have tl:ltT q=some (decide ((k:Int)<12)):=cU (aM (by rw [<-hq];rfl) rfl rfl)
 have t6:fT (aB 6) q=some pl:=iH (by rw [<-hq];rfl)
 have t3:∀c,cG (eqT c) (cG ltT (fT (aB 6))) q=some (decide (a % 8=c)&&(decide ((k:Int)<12)&&pl)):=fun c=>oV (te c) (oV tl t6)
 have m0:=Zt (a/8) (show(6:Int)≠0 by decide)
 have m1:=Zr (a/8) (show(0:Int)<6 by decide)
 obtain⟨w0,w1,w2,w3,w4⟩:=xk8 ho m0 (show a/8 % 6<=40 by omega)
 have one:aX (aA (aZ (aB 5)) aE) q=some (.tup (pcsD [p])):=cW (aD v5 rfl) (pcs_imm [p]) (Z2 rfl)
 have grp:aX (aA (fC (.str "group")) (aA (aX (aA (aZ (aB 5)) aE)) aE)) q=some (pcD (tw0 p)):=cW (aD rfl (aD one rfl)) (jF (tw0 p)) (Z2 rfl)
 have st:aX (aA (fC (.str "stop")) (aA (f2 cK (f2 dX (aB 4) (fC (.int 8))) (fC (.int 6))) aE)) q=some (bU (.stop (a/8 % 6))):=cW (aD rfl (aD (aM (aM v4 rfl ((gO _ _).trans (if_pos (by decide)))) rfl ((dZ _ _).trans (if_pos (by decide)))) rfl)) rfl (Z2 rfl)
 have orr:aX (aA (aX (aA (fC (.str "word")) (aA (fC (.str "or")) aE))) aE) q=some (.tup (pcsD eT)):=rfl
 have e1:aX (aA (fC (.str "either")) (aA (aX (aA (aX (aA (aZ (aB 5)) aE)) (aA (aX (aA (aZ (aB 5)) aE)) aE))) aE)) q=some (pcD (tw1 p)):=cW (aD rfl (aD (cW (ds:=rowsD [[p],[p]]) (aD one (aD one rfl)) (rows_imm _) (Z2 rfl)) rfl)) (jF (tw1 p)) (Z2 rfl)
 have e2:aX (aA (fC (.str "either")) (aA (aX (aA (aX (aA (aX (aA (fC (.str "word")) (aA (fC (.str "or")) aE))) aE)) (aA (aX (aA (aZ (aB 5)) aE)) (aA (aX (aA (aX (aA (fC (.str "group")) (aA (aX (aA (aZ (aB 5)) aE)) aE))) aE)) aE)))) aE)) q=some (pcD (tw2 p)):=cW (aD rfl (aD (cW (ds:=rowsD [eT,[p],[tw0 p]]) (aD orr (aD one (aD (cW (ds:=pcsD [tw0 p]) (aD grp rfl) (pcs_imm _) (Z2 rfl)) rfl))) (rows_imm _) (Z2 rfl)) rfl)) (jF (tw2 p)) (Z2 rfl)
 have e3:aX (aA (fC (.str "either")) (aA (aX (aA (aX (aA (aZ (aB 5)) (aA (aX (aA (fC (.str "stop")) (aA (f2 cK (f2 dX (aB 4) (fC (.int 8))) (fC (.int 6))) aE))) aE))) (aA (aX (aA (aZ (aB 5)) aE)) aE))) aE)) q=some (pcD (tw3 p (a/8 % 6))):=cW (aD rfl (aD (cW (ds:=rowsD [[p,.leaf (.stop (a/8 % 6))],[p]]) (aD (cW (ds:=pcsD [p,.leaf (.stop (a/8 % 6))]) (aD v5 (aD st rfl)) (pcs_imm _) (Z2 rfl)) (aD one rfl)) (rows_imm _) (Z2 rfl)) rfl)) (jF (tw3 p (a/8 % 6))) (Z2 rfl)
 have hz:(pcsD done).length<sizeLine:=by rw [mN];exact sz1 (by omega)
 have fin:∀p',dA (dY 2 cA (aA (aZ (aB 5)) aE) dS) (q.set 5 (some (pcD p')))=some (.nx,[some S,some (.tup (pcsD r)),some (.lst true (pcsD (done++[p']))),some (.int (k:Int)),some (.int a),some (pcD p'),some (.bl pl)]):=fun p'=>by
  have e:aA (aZ (aB 5)) aE (q.set 5 (some (pcD p')))=some [pcD p']:=aD (cF (by rw [<-hq];rfl) (jF p')) rfl
  unfold dA dY
  rw [e,<-hq]
  show((if (pcsD done).length<sizeLine then some (D.non,D.lst true (pcsD done++[pcD p'])) else none).bind _).bind _=_
  rw [if_pos hz,qY];rfl
 have same:q.set 5 (some (pcD p))=q:=by rw [<-hq];rfl
 have out:∀{f:tz1} {p':Pc},f q=some (.nx,q.set 5 (some (pcD p')))->aR f (dA (dY 2 cA (aA (aZ (aB 5)) aE) dS)) q=some (.nx,[some S,some (.tup (pcsD r)),some (.lst true (pcsD (done++[p']))),some (.int (k:Int)),some (.int a),some (pcD p'),some (.bl pl)]):=fun h=>(aK h).trans (fin _)
 have t1:=oV (te 1) tl
 have n1:∀x:Bool,(x&&decide ((k:Int)<12))=true->∀p':Pc,12<=k->p'=p:=fun x h p' hk=>by
  have:=Ys (YV.mp h).2
  omega
 have n2:∀x:Bool,(x&&(decide ((k:Int)<12)&&pl))=true->∀p':Pc,12<=k->p'=p:=fun x h p' hk=>by
  have:=Ys (YV.mp (YV.mp h).2).1
  omega
 cases c1:(decide (a % 8=1)&&decide ((k:Int)<12)) with
 |true=>
  rw [c1] at t1
  exact⟨tw0 p,_,_,_,(aK s1).trans ((aK s2).trans ((aK s3).trans (out ((bD t1).trans (bF grp))))),w1,n1 _ c1 _⟩
 | false=>
  rw [c1] at t1
  have b1:=fun f g=>dL (f:=f) (g:=g) (cD t1)
  have t20:=t3 0
  cases c2:(decide (a % 8=0)&&(decide ((k:Int)<12)&&pl)) with
  |true=>
   rw [c2] at t20
   exact⟨tw1 p,_,_,_,(aK s1).trans ((aK s2).trans ((aK s3).trans (out ((b1 _ _).trans ((bD t20).trans (bF e1)))))),w2,n2 _ c2 _⟩
  | false=>
   rw [c2] at t20
   have b2:=fun f g=>dL (f:=f) (g:=g) (cD t20)
   have t22:=t3 2
   cases c3:(decide (a % 8=2)&&(decide ((k:Int)<12)&&pl)) with
   |true=>
    rw [c3] at t22
    exact⟨tw2 p,_,_,_,(aK s1).trans ((aK s2).trans ((aK s3).trans (out ((b1 _ _).trans ((b2 _ _).trans ((bD t22).trans (bF e2))))))),w3,n2 _ c3 _⟩
   | false=>
    rw [c3] at t22
    have b3:=fun f g=>dL (f:=f) (g:=g) (cD t22)
    have t23:=t3 3
    cases c4:(decide (a % 8=3)&&(decide ((k:Int)<12)&&pl)) with
    |true=>
     rw [c4] at t23
     exact⟨tw3 p (a/8 % 6),_,_,_,(aK s1).trans ((aK s2).trans ((aK s3).trans (out ((b1 _ _).trans ((b2 _ _).trans ((b3 _ _).trans ((bD t23).trans (bF e3)))))))),w4,n2 _ c4 _⟩
    |false=>
     rw [c4] at t23
     refine⟨p,_,_,_,(aK s1).trans ((aK s2).trans ((aK s3).trans (out ((b1 _ _).trans ((b2 _ _).trans ((b3 _ _).trans ((aU t23).trans ?_))))))),w0,fun _=>rfl⟩
     rw [same]
theorem yz5{n a b:Nat}{r:List Pc}{p:Pc}(h:RowOk n a r)(ho:okP p)(hd:cX p<=n)(hl:(bN p).length<=b):RowOk n (a+b) (r++[p]):=by
 refine⟨?_,?_,?_⟩
 ·rw [xG];exact⟨h.ok,ho,trivial⟩
 ·rw [zt7];have:=h.dep;show max _ (max (cX p) 0)<=n;omega
 ·rw [nC,Z3]
  have:=h.len
  show _+(bN p++[]).length<=_
  rw [Zh];omega
theorem zi8{r:List Pc}{n:Nat}(hM:MxH GM S):∀(ps pre done:List Pc) (x3 x4 x5 x6:Option D) (w:Nat),r=pre++ps->okR ps->depR ps<=n->pre.length+ps.length<=900->done.length<=pre.length->RowOk (n+2) w done->
  ∃done' q,dM 3 (zv8 GM) (eS ((pre.length:Nat):Int) ps.length) [some S,some (.tup (pcsD r)),some (.lst true (pcsD done)),x3,x4,x5,x6]=some (.nx,some S::some (.tup (pcsD r))::some (.lst true (pcsD done'))::q)/\RowOk (n+2) (w+2*(toksR ps).length+7*(12-pre.length)) done'
 |[],pre,done,x3,x4,x5,x6,w,_,_,_,_,_,hr=>⟨done,_,rfl,hr.ok,hr.dep,Zq hr.len (by omega)⟩
 | p::ps,pre,done,x3,x4,x5,x6,w,e,ho,hd,hl,hdl,hr=>by
  rw [Z4] at hl
  have hp:(pcsD r)[pre.length]? =some (pcD p):=by
   rw [e,qY,Yg (by rw [mN];exact Z9 _),mN,Nat.sub_self];rfl
  rw [depR] at hd
  obtain⟨p',y4,y5,y6,q,tw,same⟩:=yr4 (x4:=x4) (x5:=x5) (x6:=x6) (done:=done) hM (by omega) (by omega) hp ho.1
  have tl:(bN p').length<=2*(bN p).length+(7*(12-pre.length)-7*(12-(pre.length+1))):=by
   by_cases c:12<=pre.length
   ·rw [same c];omega
   ·have:=tw.len;omega
  have h2:=yz5 hr tw.ok (by have:=tw.dep;omega) tl
  obtain⟨done',z,q2,h3⟩:=zi8 (r:=r) (n:=n) hM ps (pre++[p]) (done++[p']) (some (.int (pre.length:Int))) y4 y5 y6 _ (by rw [e];simp) ho.2 (by omega) (by rw [Z3];show _+1+_<=_;omega) (by rw [Z3,Z3];show _+1<=_+1;omega) h2
  rw [Z3] at q2
  refine⟨done',z,?_,⟨h3.ok,h3.dep,Zq h3.len ?_⟩⟩
  ·rw [Z4,zM,dM]
   show((zv8 GM [some S,some (.tup (pcsD r)),some (.lst true (pcsD done)),some (.int (pre.length:Int)),x4,x5,x6]).bind _)=_
   rw [q]
   exact q2
  ·rw [toksR,Z3,Z3]
   show _+_+7*(12-(pre.length+1))<=_
   omega
theorem zt8:∀r:List Pc,r.length<=(toksR r).length
 |[]=>Z9 _
 | p::r=>by
  have h:=zt8 r
  have h1:1<=(bN p).length:=by
   cases p with
   |leaf l=>exact Z9 _
   |group q=>rw [bN,Z4];omega
   |hang m q=>rw [bN,Z4];omega
   |either qs=>rw [bN,Z4];omega
  show r.length+1<=(bN p++toksR r).length
  rw [Z3];omega
abbrev ys3(GM:tz6):tz6:=gP 2 5 (za8 GM)
theorem yz6{r:List Pc}{n w:Nat}(hM:MxH GM S)(hr:RowOk n w r)(hw:w<=800):∃r',ys3 GM [S,.tup (pcsD r)]=some (.tup (pcsD r'))/\RowOk (n+2) (2*w+84) r':=by
 have hlen:=Zq (zt8 r) hr.len
 obtain⟨d',q,e,h⟩:=zi8 (GM:=GM) (S:=S) (r:=r) (n:=n) hM r [] [] none none none none 0 rfl hr.ok hr.dep (by show 0+_<=_;omega) (Z9 _) ⟨trivial,ZH _,Z9 _⟩
 have s1:aS 2 (aH (cE aE)) [some S,some (.tup (pcsD r)),none,none,none,none,none]=some (.nx,[some S,some (.tup (pcsD r)),some (.lst true (pcsD [])),none,none,none,none]):=rfl
 have er:iZ (aA (aJ cN (aA (aB 1) aE)) aE) [some S,some (.tup (pcsD r)),some (.lst true (pcsD [])),none,none,none,none]=some (eS ((0:Nat):Int) r.length):=by
  unfold iZ
  rw [aD (d:= .int (r.length:Int)) (aT (aD rfl rfl) (by show some (D.int ((pcsD r).length:Int))=_;rw [mN])) (show aE _=some [] from rfl),Z6]
  exact xq0 (by omega)
 refine⟨d',iI rfl (bL s1 (bL (mS er e) ⟨_,bS (aT (aD (d:= .lst true (pcsD d')) rfl rfl) (if_pos (pcs_imm d')))⟩)),h.ok,h.dep,Zq h.len ?_⟩
 have:=hr.len
 show 0+_+7*(12-0)<=_
 omega
end
theorem zW:∀C:List Int,D.datas (bV C)=some (C.map PyData.int)
 |[]=>rfl
 |c::C=>by
  show(D.data (.int c)).bind (fun p=>(D.datas (bV C)).map (p::·))=_
  rw [zW C];rfl
theorem zt9:∀C:List Int,PyData.canLayAll0 (C.map PyData.int)=true
 |[]=>rfl
 |c::C=>by show(PyData.canLay0 (.int c)&&PyData.canLayAll0 (C.map PyData.int))=true;rw [zt9 C];rfl
theorem zX:∀C:List Int,PyData.depthAll (C.map PyData.int)=0
 |[]=>rfl
 |c::C=>by show max (PyData.depth (.int c)) (PyData.depthAll (C.map PyData.int))=0;rw [zX C];rfl
theorem yb6(i:Int):nZ [.int i,.ty "int"]=some (.bl true)/\nZ [.int i,.ty "bool"]=some (.bl false):=by
 constructor<;>simp [nZ,dTy,xM]
theorem xk9(xs:List D):nZ [.tup xs,.ty "tuple"]=some (.bl true):=by simp [nZ,dTy,xM]
theorem xl0(l b c:Nat):∃k:Nat,xN [.int ((l:Int)+(b:Int)),.int (c:Int)]=some (.int (k:Int))/\k<=c:=by
 by_cases z:(c:Int)<(l:Int)+(b:Int)
 ·exact⟨c,by show some (D.int (if (c:Int)<(l:Int)+(b:Int) then(c:Int) else(l:Int)+(b:Int)))=_;rw [if_pos z],Z9 _⟩
 ·exact⟨l+b,by show some (D.int (if (c:Int)<(l:Int)+(b:Int) then(c:Int) else(l:Int)+(b:Int)))=_;rw [if_neg z];rfl,by omega⟩
section
variable{GM:tz6}{xs:List D}
abbrev yh9(GM:tz6):tz6:=gP 1 0 (zj2 GM (xd8 GM) (xb5 GM qG) (ys3 GM))
theorem xl1(hM:∀j s:Int,0<=j->j<1000->0<=s->s<1000->∃a,GM [.con xs,.int j,.int s]=some (.int a)/\0<=a):∃r,yh9 GM [.con xs]=some (.tup (pcsD r))/\RowOk 12 300 r:=by
 obtain⟨a,qa,_⟩:=hM 2 57 (by decide) (by decide) (by decide) (by decide)
 have row:∀c:Nat,c<=24->∃r,aJ (xb5 GM qG) (aA (aB 0) (aA (fC (.int 0)) (aA (aJ xN (aA (f2 bJ (aJ cN (aA (aB 0) aE)) (fC (.int 3))) (aA (fC (.int (c:Int))) aE))) (aA (fC (.int 3)) aE)))) [some (.con xs)]=some (.tup (pcsD r))/\RowOk 3 (4*c) r:=fun c hc=>by
  obtain⟨k,hk,k1⟩:=xl0 xs.length 3 c
  obtain⟨r,qr,hr⟩:=xr1 (GM:=GM) (GL:=qG) (S:= .con xs) (nest:=3) (a:=0) (many:=k) (fun m hm=>yb5 hm) (fun j s hj hs=>hM j s (by omega) (by omega) (by omega) (by omega)) (by decide) (by omega) (by decide)
  refine⟨r,aT (ds:=[.con xs,.int ((0:Nat):Int),.int (k:Int),.int ((3:Nat):Int)]) (aD rfl (aD rfl (aD ?_ (aD rfl rfl)))) qr,hr.ok,hr.dep,Zq hr.len (by omega)⟩
  exact aT (aD (aM (aT (aD rfl rfl) rfl) rfl rfl) (aD rfl rfl)) hk
 have t:fB (f2 dEq (f2 cK (aJ GM (aA (aB 0) (aA (fC (.int 2)) (aA (fC (.int 57)) aE)))) (fC (.int 4))) (fC (.int 1))) [some (.con xs)]=some (decide (a % 4=1)):=cU (aM (aM (aT (aD rfl (aD rfl (aD rfl rfl))) qa) rfl ((dZ _ _).trans (if_pos (by decide)))) rfl rfl)
 by_cases z:a % 4=1
 ·rw [Ze z] at t
  obtain⟨r,qr,hr⟩:=row 12 (by decide)
  obtain⟨r',q,h⟩:=yh0 (GM:=GM) (S:= .con xs) hM hr
  exact⟨r',iI rfl (kQ ⟨_,(bD t).trans (bS (aT (aD rfl (aD qr rfl)) q))⟩),h.ok,h.dep,Zq h.len (by decide)⟩
 ·rw [Z5 z] at t
  obtain⟨r,qr,hr⟩:=row 24 (by decide)
  obtain⟨r',q,h⟩:=yz6 (GM:=GM) (S:= .con xs) hM hr (by decide)
  exact⟨r',iI rfl (bL (aU t) ⟨_,bS (aT (aD rfl (aD qr rfl)) q)⟩),h.ok,Zq h.dep (by decide),Zq h.len (by decide)⟩
end
theorem ze2{i:Nat}{f:tz1}{P:PSt->Prop}:∀(ds:List D) (p:PSt),P p->(∀d∈ds,∀p,P p->∃p',f (p.set i (some d))=some (.nx,p')/\P p')->∃p',dM i f ds p=some (.nx,p')/\P p'
 |[],p,hp,_=>⟨p,rfl,hp⟩
 |d::ds,p,hp,h=>by
  obtain⟨p1,e1,h1⟩:=h d Z0 p hp
  obtain⟨p2,e2,h2⟩:=ze2 (i:=i) (f:=f) ds p1 h1 fun d' hd=>h d' (Z1 _ hd)
  refine⟨p2,?_,h2⟩
  rw [dM,e1]
  exact e2
abbrev zv9:tz6:=gP 1 1 rL
theorem yr5(C:List Int):zv9 [.tup (bV C)]=some (.bl true):=by
 have im:=jL C
 obtain⟨p',e,x,rfl⟩:=ze2 (i:=1) (f:=fIf (aY (kR (gR (fT (aJ nZ (aA (aB 1) (aA (fC (.ty "int")) aE))))) (fT (aJ nZ (aA (aB 1) (aA (fC (.ty "bool")) aE)))))) (bR (aH (fC (.bl false)))) bP) (P:=fun p=>∃x,p=[some (.tup (bV C)),x]) (bV C) [some (.tup (bV C)),none] ⟨none,rfl⟩ (fun d hd p ⟨x,hp⟩=>by
  obtain⟨i,_,rfl⟩:=Yc.mp (show d∈C.map D.int from hd)
  subst hp
  exact⟨_,aU (lN (gQ (b:=true) (iH (aT (ds:=[.int i,.ty "int"]) (aD rfl (aD rfl rfl)) (yb6 i).1))) (iH (aT (ds:=[.int i,.ty "bool"]) (aD rfl (aD rfl rfl)) (yb6 i).2))),_,rfl⟩)
 have t1:gR (fT (aJ nZ (aA (aB 0) (aA (fC (.ty "tuple")) aE)))) [some (.tup (bV C)),none]=some false:=gQ (b:=true) (iH (aT (ds:=[.tup (bV C),.ty "tuple"]) (aD rfl (aD rfl rfl)) (xk9 _)))
 exact iI rfl (bL (aU t1) (bL (mS (ds:=bV C) rfl e) ⟨_,bS rfl⟩))
theorem zu0:∀A B:List Int,PyData.eqvAll (A.map PyData.int) (B.map PyData.int)=decide (A=B)
 |[],[]=>rfl
 |[],_::_=>rfl
 |_::_,[]=>rfl
 |a::A,b::B=>by
  show(PyData.eqv (.int a) (.int b)&&PyData.eqvAll (A.map PyData.int) (B.map PyData.int))=_
  rw [zu0 A B]
  show((a==b)&&decide (A=B))=_
  rw [Yj]
  simp
theorem yz7(A B:List Int):eqB (.tup (bV A)) (.tup (bV B))=some (decide (A=B)):=by
 have e:∀c:List Int,D.data (.tup (bV c))=some (.tuple (c.map PyData.int)):=fun c=>by rw [D.data,zW];rfl
 have c1:∀c:List Int,PyData.canLay0 (.tuple (c.map PyData.int))=true:=zt9
 have d:PyData.depth (.tuple (A.map PyData.int))<=60:=by
  show PyData.depthAll (A.map PyData.int)+1<=60
  rw [zX];decide
 have q:PyData.eqv (.tuple (A.map PyData.int)) (.tuple (B.map PyData.int))=decide (A=B):=zu0 A B
 show wL (.tup (bV A)) (.tup (bV B))=_
 unfold wL
 rw [e,e]
 show(if (PyData.canLay0 _&&PyData.canLay0 _&&decide (PyData.depth _<=60))=true then some (PyData.eqv _ _) else none)=_
 rw [c1,c1,Ze d,q];rfl
theorem zu1:∀(ys:List Str),ys≠[]->(ys.map (·.length)).sum+ys.length<=(Str.join ⟨#[10]⟩ ys).length+1
 |[],h=>absurd rfl h
 |[y],_=>by show y.length+0+1<=y.length+1;omega
 | x::y::r,_=>by
  have h2:=zu1 (y::r) (by simp)
  have e:(Str.join ⟨#[10]⟩ (x::y::r)).length=x.length+1+(Str.join ⟨#[10]⟩ (y::r)).length:=by
   show(Str.join ⟨#[10]⟩ (x::y::r)).cps.size=x.cps.size+1+(Str.join ⟨#[10]⟩ (y::r)).cps.size
   rw [<-ZF,rA,Z3,Z4,ZF,ZF];omega
  rw [e,Zb,List.sum_cons,Z4]
  omega
theorem yz8(t:Str):(Txt.replace t "\n" " ").length<=t.length+1:=by
 have h:=zu1 (lns t) (zr7 t)
 rw [uI] at h
 have e:Txt.replace t "\n" " "=Str.join ⟨#[32]⟩ (lns t):=by
  rw [xH,show(" ":Str)=⟨#[32]⟩ from by decide+kernel]
  exact StrLaws.replace_one t ⟨#[32]⟩ 10
 have g:=StrLaws.join_length_le ⟨#[32]⟩ (lns t)
 rw [e]
 have:(⟨#[32]⟩:Str).length=1:=rfl
 rw [this] at g
 omega
abbrev xb6:tz6:=gP 2 4 wR
theorem yh1{t:Str}{a:Int}(ht:t.length<=400000):∃T:Str,xb6 [.str t,.int a]=some (.str T)/\T.length<=900000:=by
 have hs:sizeLine=16777216:=ZZ
 obtain⟨sg2,hsg⟩:∃x:Str,x=Str.ofString "abcdefghijklmnopqrstuvwxyz 0123456789ABCDEFGHIJKLMNOPQRSTUVWXYZ!#$&'()*+,-./:;<=>?\x40[]^_{|}~":=⟨_,rfl⟩
 have sgl:0<sg2.length/\sg2.length<=1000:=by rw [hsg];decide+kernel
 have q0:=Zt (a/8) (show(t.length:Int)+1≠0 by omega)
 have s1:aS 2 (aH (fC (.str "abcdefghijklmnopqrstuvwxyz 0123456789ABCDEFGHIJKLMNOPQRSTUVWXYZ!#$&'()*+,-./:;<=>?\x40[]^_{|}~"))) [some (.str t),some (.int a),none,none,none,none]=some (.nx,[some (.str t),some (.int a),some (.str sg2),none,none,none]):=by rw [hsg];rfl
 have s2:aS 3 (aH (f2 cK (f2 dX (aB 1) (fC (.int 8))) (f2 bJ (aJ cN (aA (aB 0) aE)) (fC (.int 1))))) [some (.str t),some (.int a),some (.str sg2),none,none,none]=some (.nx,[some (.str t),some (.int a),some (.str sg2),some (.int (a/8 % ((t.length:Int)+1))),none,none]):=bF (aM (aM rfl rfl ((gO _ _).trans (if_pos (by decide)))) (aM (aT (aD rfl rfl) (if_pos (by omega))) rfl rfl) ((dZ _ _).trans (if_pos (by omega))))
 obtain⟨c,hc⟩:∃c,dIx (.str sg2) (.int (a/4000 % (sg2.length:Int)))=some (.str ⟨#[c]⟩):=by
  have m0:=Zt (a/4000) (show(sg2.length:Int)≠0 by omega)
  have m1:=Zr (a/4000) (show(0:Int)<(sg2.length:Int) by omega)
  obtain⟨c,_,e⟩:=nW sg2.cps.toList (a/4000 % (sg2.length:Int)) m0 (by rw [<-eP];exact m1)
  refine⟨c,?_⟩
  show(if sg2.length<=sizeLine then(atI sg2.cps.toList _).map _ else none)=_
  rw [if_pos (by omega),e];rfl
 have s3:aS 4 (aH (aZ (f2 dIx (aB 2) (f2 cK (f2 dX (aB 1) (fC (.int 4000))) (aJ cN (aA (aB 2) aE)))))) [some (.str t),some (.int a),some (.str sg2),some (.int (a/8 % ((t.length:Int)+1))),none,none]=some (.nx,[some (.str t),some (.int a),some (.str sg2),some (.int (a/8 % ((t.length:Int)+1))),some (.str ⟨#[c]⟩),none]):=bF (cF (aM (x:= .str sg2) rfl (aM (aM rfl rfl ((gO _ _).trans (if_pos (by decide)))) (aT (aD rfl rfl) (if_pos (by omega))) ((dZ _ _).trans (if_pos (by omega)))) hc) rfl)
 have s4:aS 5 (aH (f2 cK (aB 1) (fC (.int 8)))) [some (.str t),some (.int a),some (.str sg2),some (.int (a/8 % ((t.length:Int)+1))),some (.str ⟨#[c]⟩),none]=some (.nx,[some (.str t),some (.int a),some (.str sg2),some (.int (a/8 % ((t.length:Int)+1))),some (.str ⟨#[c]⟩),some (.int (a % 8))]):=bF (aM rfl rfl ((dZ _ _).trans (if_pos (by decide))))
 generalize a/8 % ((t.length:Int)+1)=k at s2 s3 s4 q0
 generalize hp:[some (D.str t),some (.int a),some (.str sg2),some (.int k),some (D.str ⟨#[c]⟩),some (.int (a % 8))]=p at s4
 have v0:aB 0 p=some (.str t):=by rw [<-hp];rfl
 have v1:aB 1 p=some (.int a):=by rw [<-hp];rfl
 have v3:aB 3 p=some (.int k):=by rw [<-hp];rfl
 have v4:aB 4 p=some (.str ⟨#[c]⟩):=by rw [<-hp];rfl
 have v5:aB 5 p=some (.int (a % 8)):=by rw [<-hp];rfl
 have te:∀j:Int,fB (f2 dEq (aB 5) (fC (.int j))) p=some (decide (a % 8=j)):=fun j=>cU (aM v5 rfl rfl)
 have t3:zu9 5 3 p=some (decide (a % 8=3)):=by rw [<-hp];rfl
 have sl:∀{fl fh:PSt->Option (Option Int)} {lo hi:Option Int},fl p=some lo->fh p=some hi->∃z:Str,fSl (aB 0) fl fh p=some (.str z)/\z.length<=t.length:=fun {fl fh lo hi} h1 h2=>by
  refine⟨Txt.slice t lo hi,?_,PyProof.Txt.length_slice_le t lo hi⟩
  unfold fSl
  rw [v0,h1,h2]
  show(if t.length<=sizeLine then some (D.str (Txt.slice t lo hi)) else none)=_
  rw [if_pos (by omega)]
 have p3:eC (aB 3) p=some (some k):=by unfold eC;rw [v3];rfl
 have p4:eC (f2 bJ (aB 3) (fC (.int 1))) p=some (some (k+1)):=by unfold eC;rw [aM v3 (show fC (.int 1) p=some (.int 1) from rfl) rfl];rfl
 have add:∀{f g:tz2} {x y:Str} {m n:Nat},f p=some (.str x)->g p=some (.str y)->x.length<=m->y.length<=n->m+n<=2000000->f2 bJ f g p=some (.str (x++y))/\(x++y).length<=m+n:=fun {f g x y m n} h1 h2 l1 l2 l3=>by
  refine⟨aM h1 h2 ?_,by rw [eI];omega⟩
  show(if x.length+y.length<=sizeLine then some (D.str (x++y)) else none)=_
  rw [if_pos (by omega)]
 obtain⟨za,ea,la⟩:=sl (fl:=dN) (fh:=eC (aB 3)) rfl p3
 obtain⟨zb,eb,lb⟩:=sl (fl:=eC (f2 bJ (aB 3) (fC (.int 1)))) (fh:=dN) p4 rfl
 obtain⟨zc,ec,lc⟩:=sl (fl:=eC (aB 3)) (fh:=dN) p3 rfl
 have hc1:(⟨#[c]⟩:Str).length<=1:=Z9 _
 have nl1:(Str.ofString "\n").length<=1:=by decide+kernel
 have sp1:(Str.ofString " ").length<=1:=by decide+kernel
 obtain⟨a1,b1⟩:=add ea v4 la hc1 (by omega)
 obtain⟨a2,b2⟩:=add a1 eb b1 lb (by omega)
 obtain⟨a3,b3⟩:=add a1 ec b1 lc (by omega)
 obtain⟨a4,b4⟩:=add ea eb la lb (by omega)
 obtain⟨a5,b5⟩:=add ea (show fC (.str "\n") p=some (.str "\n") from rfl) la nl1 (by omega)
 obtain⟨a6,b6⟩:=add a5 ec b5 lc (by omega)
 have rp:za3 0 "\n" " " p=some (.str (Txt.replace t "\n" " ")):=by
  unfold za3
  have:(p[0]?).join=some (.str t):=v0
  rw [this,Z6]
  exact if_pos ⟨by rw [show(Str.ofString " ").length=1 from by decide+kernel,Nat.mul_one];omega,by decide+kernel⟩
 have out:∀{f:tz1} {T:Str},(∃q,f p=some (.ret (.str T),q))->T.length<=900000->(∃q,aR (aS 2 (aH (fC (.str "abcdefghijklmnopqrstuvwxyz 0123456789ABCDEFGHIJKLMNOPQRSTUVWXYZ!#$&'()*+,-./:;<=>?\x40[]^_{|}~")))) (aR (aS 3 (aH (f2 cK (f2 dX (aB 1) (fC (.int 8))) (f2 bJ (aJ cN (aA (aB 0) aE)) (fC (.int 1)))))) (aR (aS 4 (aH (aZ (f2 dIx (aB 2) (f2 cK (f2 dX (aB 1) (fC (.int 4000))) (aJ cN (aA (aB 2) aE))))))) (aR (aS 5 (aH (f2 cK (aB 1) (fC (.int 8))))) f))) [some (.str t),some (.int a),none,none,none,none]=some (.ret (.str T),q)):=fun h _=>bL s1 (bL s2 (bL s3 (bL s4 h)))
 have fin:(∃T:Str,T.length<=900000/\∃q,(aR (fIf (aY (fB (f2 dEq (aB 5) (fC (.int 0))))) (bR (aH (f2 bJ (f2 bJ (fSl (aB 0) dN (eC (aB 3))) (aB 4)) (fSl (aB 0) (eC (f2 bJ (aB 3) (fC (.int 1)))) dN)))) bP) (aR (fIf (aY (fB (f2 dEq (aB 5) (fC (.int 1))))) (bR (aH (f2 bJ (f2 bJ (fSl (aB 0) dN (eC (aB 3))) (aB 4)) (fSl (aB 0) (eC (aB 3)) dN)))) bP) (aR (fIf (aY (fB (f2 dEq (aB 5) (fC (.int 2))))) (bR (aH (f2 bJ (fSl (aB 0) dN (eC (aB 3))) (fSl (aB 0) (eC (f2 bJ (aB 3) (fC (.int 1)))) dN)))) bP) (aR (fIf (aY (zu9 5 3)) (bR (aH (za3 0 "\n" " "))) bP) (aR (fIf (aY (fB (f2 dEq (aB 5) (fC (.int 4))))) (bR (aH (f2 bJ (f2 bJ (fSl (aB 0) dN (eC (aB 3))) (fC (.str "\n"))) (fSl (aB 0) (eC (aB 3)) dN)))) bP) (aR (fIf (aY (fB (f2 dEq (aB 5) (fC (.int 5))))) (bR (aH (fSl (aB 0) dN (eC (aB 3))))) bP) (bR (aH (f2 dIx (cE (aA (fC (.str "")) (aA (f2 bJ (aB 0) (fC (.str "\n"))) (aA (f2 bJ (aB 0) (fC (.str " "))) (aA (f2 bJ (fC (.str " ")) (aB 0)) aE))))) (f2 cK (f2 dX (aB 1) (fC (.int 8))) (fC (.int 4)))))))))))) p=some (.ret (.str T),q)):=by
  by_cases c0:a % 8=0
  ·exact⟨_,Zq b2 (by omega),kQ ⟨_,(bD (by rw [te,Ze c0])).trans (bS a2)⟩⟩
  by_cases c1:a % 8=1
  ·exact⟨_,Zq b3 (by omega),bL (aU (by rw [te,Z5 c0])) (kQ ⟨_,(bD (by rw [te,Ze c1])).trans (bS a3)⟩)⟩
  by_cases c2:a % 8=2
  ·exact⟨_,Zq b4 (by omega),bL (aU (by rw [te,Z5 c0])) (bL (aU (by rw [te,Z5 c1])) (kQ ⟨_,(bD (by rw [te,Ze c2])).trans (bS a4)⟩))⟩
  by_cases c3:a % 8=3
  ·exact⟨_,Zq (yz8 t) (by omega),bL (aU (by rw [te,Z5 c0])) (bL (aU (by rw [te,Z5 c1])) (bL (aU (by rw [te,Z5 c2])) (kQ ⟨_,(bD (by rw [t3,Ze c3])).trans (bS rp)⟩)))⟩
  by_cases c4:a % 8=4
  ·exact⟨_,Zq b6 (by omega),bL (aU (by rw [te,Z5 c0])) (bL (aU (by rw [te,Z5 c1])) (bL (aU (by rw [te,Z5 c2])) (bL (aU (by rw [t3,Z5 c3])) (kQ ⟨_,(bD (by rw [te,Ze c4])).trans (bS a6)⟩))))⟩
  by_cases c5:a % 8=5
  ·exact⟨_,Zq la (by omega),bL (aU (by rw [te,Z5 c0])) (bL (aU (by rw [te,Z5 c1])) (bL (aU (by rw [te,Z5 c2])) (bL (aU (by rw [t3,Z5 c3])) (bL (aU (by rw [te,Z5 c4])) (kQ ⟨_,(bD (by rw [te,Ze c5])).trans (bS ea)⟩)))))⟩
  obtain⟨d1,g1⟩:=add v0 (show fC (.str "\n") p=some (.str "\n") from rfl) (Z9 _) nl1 (by omega)
  obtain⟨d2,g2⟩:=add v0 (show fC (.str " ") p=some (.str " ") from rfl) (Z9 _) sp1 (by omega)
  obtain⟨d3,g3⟩:=add (show fC (.str " ") p=some (.str " ") from rfl) v0 sp1 (Z9 _) (by omega)
  have m0:=Zt (a/8) (show(4:Int)≠0 by decide)
  have m1:=Zr (a/8) (show(0:Int)<4 by decide)
  obtain⟨T,hT,lT⟩:∃T:Str,atI [D.str (Str.ofString ""),.str (t++Str.ofString "\n"),.str (t++Str.ofString " "),.str (Str.ofString " "++t)] (a/8 % 4)=some (.str T)/\T.length<=900000:=by
   rcases(show a/8 % 4=0\/a/8 % 4=1\/a/8 % 4=2\/a/8 % 4=3 by omega) with h|h|h|h<;>rw [h]
   ·exact⟨_,rfl,by decide+kernel⟩
   ·exact⟨_,rfl,by omega⟩
   ·exact⟨_,rfl,by omega⟩
   ·exact⟨_,rfl,by omega⟩
  exact⟨T,lT,bL (aU (by rw [te,Z5 c0])) (bL (aU (by rw [te,Z5 c1])) (bL (aU (by rw [te,Z5 c2])) (bL (aU (by rw [t3,Z5 c3])) (bL (aU (by rw [te,Z5 c4])) (bL (aU (by rw [te,Z5 c5])) ⟨_,bS (aM (fA (aD rfl (aD d1 (aD d2 (aD d3 rfl)))) (Z2 rfl)) (aM (aM v1 rfl ((gO _ _).trans (if_pos (by decide)))) rfl ((dZ _ _).trans (if_pos (by decide)))) hT)⟩)))))⟩
 obtain⟨T,lT,h⟩:=fin
 exact⟨T,iI rfl (out h lT),lT⟩
def yi0:List Pc->Prop
 |[]=>True
 |p::r=>(∃z,za4 z/\p= .group [.leaf (.word z)])/\yi0 r
theorem yb7:∀{r:List Pc},yi0 r->RowOk 1 (3*r.length) r
 |[],_=>⟨trivial,ZH _,Z9 _⟩
 | p::r,⟨⟨z,hz,e⟩,h⟩=>by
  have g:=yb7 h
  subst e
  refine⟨⟨⟨hz,trivial⟩,g.ok⟩,?_,?_⟩
  ·have:=g.dep
   show max (max 0 0+1) (depR r)<=1
   omega
  ·have:=g.len
   rw [toksR,Z3,Z4]
   show([Tk.opn,Tk.leaf (.word z),Tk.cls]).length+_<=_
   show 3+_<=_
   omega
theorem zu2:∀{r:List Pc},yi0 r->∃n:Nat,∀(C cs':List Int) (t t':Str),setR true 0 r C t=some (cs',t')->t'.length=t.length+n
 |[],_=>⟨0,fun C cs' t t' h=>by rw [setR] at h;cases h;rfl⟩
 | p ::r,⟨⟨z,_,e⟩,h⟩=>by
  obtain⟨n,hn⟩:=zu2 h
  subst e
  refine⟨z.length+n,fun C cs' t t' hs=> ?_⟩
  rw [setR] at hs
  have one:∀(b:Bool) (cs:List Int),setR b 0 [.leaf (.word z)] cs t=some (cs,t++z):=fun b cs=>by
   rw [setR,cH]
   show(some (cs,t++z)).bind _=_
   rw [Z6]
   show setR b 0 [] cs (t++z)=_
   rw [setR]
  have key:∀c1 t1,cH true 0 (.group [.leaf (.word z)]) C t=some (c1,t1)->t1=t++z:=fun c1 t1 he=>by
   rw [cH.eq_def] at he
   cases C with
   |nil=>simp at he
   | cons c cs=>
    simp only [ZW] at he
    by_cases c0:c=0
    ·rw [if_pos c0,one] at he
     cases he;rfl
    ·rw [if_neg c0] at he
     by_cases c1':c=1
     ·rw [if_pos c1',one] at he
      cases he;rfl
     ·rw [if_neg c1'] at he;cases he
  cases e:cH true 0 (.group [.leaf (.word z)]) C t with
  |none=>rw [e] at hs;cases hs
  |some s=>
   obtain⟨c1,t1⟩:=s
   rw [e] at hs
   have h1:=key c1 t1 e
   have h2:=hn c1 cs' t1 t' hs
   rw [h1,eI] at h2
   omega
section
variable{GM GC:tz6}{xs:List D}
def zw0(GM:tz6):tz2:=aX (aA (fC (.str "group")) (aA (aX (aA (aX (aA (fC (.str "word")) (aA (aJ zb3 (aA (aJ GM (aA (aB 1) (aA (aB 0) (aA (fC (.int 63)) aE)))) aE)) aE))) aE)) aE))
theorem zi9{S:D}(hM:MxH GM S)(x:Option D):∀n k:Nat,k+n<=900->∃r:List Pc,kI [x,some S] sM (zw0 GM) (eS (k:Int) n)=some (pcsD r)/\r.length=n/\yi0 r
 |0,k,_=>⟨[],rfl,rfl,trivial⟩
 |n+1,k,hk=>by
  obtain⟨r,q,hl,ho⟩:=zi9 hM x n (k+1) (by omega)
  obtain⟨a,qa,ha⟩:=hM (k:Int) 63 (by omega) (by omega) (by decide) (by decide)
  obtain⟨z,qz,hz⟩:=yb4 ha
  have e:zw0 GM [some (.int k),some S]=some (pcD (.group [.leaf (.word z)])):=cW (aD rfl (aD (cW (ds:=pcsD [.leaf (.word z)]) (aD (cW (aD rfl (aD (aT (aD (aT (aD rfl (aD rfl (aD rfl rfl))) qa) rfl) qz) rfl)) rfl (Z2 rfl)) rfl) (pcs_imm _) (Z2 rfl)) rfl)) (jF (.group [.leaf (.word z)])) (Z2 rfl)
  refine⟨.group [.leaf (.word z)]::r,?_,by rw [Z4,hl],⟨z,hz,rfl⟩,ho⟩
  rw [zM,kI]
  show((zw0 GM [some (.int k),some S]).bind _)=_
  rw [e,Z6,q];rfl
abbrev zn0(k n:Nat)(GM GC:tz6):tz6:=gP 1 3 (zj3 zb3 GM (oF (fR GC GM) k) (sH n) zv9 (gBy (fR GC GM) k))
theorem yr6{S:D}{k n:Nat}(hk:12<k)(hn:12<n)(hS:S.imm=true)(hM:MxH GM S)(hC:∀j:Int,0<=j->j<1000->∃a,GC [S,.int j]=some (.int a)):zn0 k n GM GC [S]=some (.bl true):=by
 have hs0:sizeLine=16777216:=ZZ
 obtain⟨r,qr,hl,hm⟩:=zi9 (GM:=GM) (S:=S) hM none 50 0 (by decide)
 have hr:=yb7 hm
 rw [hl] at hr
 have hdp:=hr.dep
 have h16:depR r<=16:=by omega
 have l8:(toksR r).length<=800:=Zq hr.len (by decide)
 obtain⟨C,t,qd,hs,_,tl⟩:=zT (GH:=fR GC GM) (S:=S) (n:=k) (r:=r) (salt:=1) hS (xd0 hM hC) (by omega) h16 hr.ok l8 (by decide) (by decide)
 have tl9:t.length<=160800:=by omega
 obtain⟨y,ey,_⟩:=zi7 (W:=t) (n:=n) (by omega) h16 hr.ok hs
 have qb:=xK (W:=t) (n:=n) (by omega) (by omega) h16 hr.ok l8
 rw [ey] at qb
 have hy:=wJ (W:=t) (n:=n) (by omega) h16 hr.ok ey
 have yl:y.2.length<=900:=by
  have:=setR_len hy
  rw [ZL] at this
  omega
 have qy:=xc8 (GH:=fR GC GM) (n:=k) xc9 (by omega) h16 hr.ok l8 yl hy
 have z1:(Str.ofString "z").length=1:=by decide+kernel
 have lz:(t++Str.ofString "z").length=t.length+1:=by rw [eI,z1]
 have qz:=xK (W:=t++Str.ofString "z") (n:=n) (by omega) (by omega) h16 hr.ok l8
 have none_:gS (dQ (t++Str.ofString "z") n r) (t++Str.ofString "z").length=none:=by
  cases e:gS (dQ (t++Str.ofString "z") n r) (t++Str.ofString "z").length with
  |none=>rfl
  |some x=>
   have hx:=wJ (W:=t++Str.ofString "z") (n:=n) (by omega) h16 hr.ok e
   obtain⟨m,hm'⟩:=zu2 hm
   have a1:=hm' _ _ _ _ hx
   have a2:=hm' _ _ _ _ hs
   omega
 rw [none_] at qz
 have s1:aS 1 (aH (aJ fO (aA (uY [none,some 0] (iZ (aA (fC (.int 50)) aE)) sM (zw0 GM)) aE))) [some S,none,none,none]=some (.nx,[some S,some (.tup (pcsD r)),none,none]):=by
  refine bF (aT (aD (d:= .lst true (pcsD r)) ?_ rfl) (if_pos (pcs_imm r)))
  unfold uY
  rw [show iZ (aA (fC (.int 50)) aE) [some S,none,none,none]=some (eS ((0:Nat):Int) 50) from rfl,Z6,if_pos (by unfold eS;rw [Zc,Y3];omega)]
  show(kI [none,some S] sM (zw0 GM) (eS ((0:Nat):Int) 50)).bind _=_
  rw [qr];rfl
 have s2:aS 2 (aH (f2 dIx (aJ (oF (fR GC GM) k) (aA (aB 0) (aA (aB 1) (aA (fC (.int 1)) aE)))) (fC (.int 0)))) [some S,some (.tup (pcsD r)),none,none]=some (.nx,[some S,some (.tup (pcsD r)),some (.str t),none]):=bF (aM (aT (aD rfl (aD rfl (aD rfl rfl))) qd) rfl (kE _ _))
 have s3:aS 3 (aH (aJ (sH n) (aA (aB 1) (aA (aB 2) aE)))) [some S,some (.tup (pcsD r)),some (.str t),none]=some (.nx,[some S,some (.tup (pcsD r)),some (.str t),some (.tup (bV y.2))]):=bF (aT (aD rfl (aD rfl rfl)) qb)
 have t4:kR (gR (fT (aJ zv9 (aA (aB 3) aE)))) (fB (f2 dNe (aJ (gBy (fR GC GM) k) (aA (aB 1) (aA (aB 3) aE))) (aB 2))) [some S,some (.tup (pcsD r)),some (.str t),some (.tup (bV y.2))]=some false:=lN (gQ (b:=true) (iH (aT (aD rfl rfl) (yr5 y.2)))) (cU (aM (aT (aD rfl (aD rfl rfl)) qy) rfl (by
  show some (D.bl (!decide (t=t)))=_
  rw [Ze rfl];rfl)))
 refine iI rfl (bL s1 (bL s2 (bL s3 (bL (aU t4) ⟨_,bS (aM (aT (aD rfl (aD (d:= .str (t++Str.ofString "z")) (aM (x:= .str t) rfl rfl ?_) rfl)) qz) rfl rfl)⟩))))
 show(if t.length+(Str.ofString "z").length<=sizeLine then some (D.str (t++Str.ofString "z")) else none)=_
 rw [if_pos (by omega)]
end
theorem xl2{n:Nat}(hn:0<n)(W:Str):dQ W n []=[(0,((),[]))]:=by
 cases n with
 |zero=>omega
 |succ k=>rfl
theorem zj0{n:Nat}(hn:0<n)(W:Str)(hW:W.length<=900000):sH n [.tup [],.str W]=some (yh8 (if 0=W.length then some ((),[]) else none)):=by
 have q:=xK (W:=W) (n:=n) (r:=[]) hW hn (by decide) trivial (by decide)
 rw [xl2 hn] at q
 exact q
section
variable{GM GC:tz6}{xs:List D}
abbrev xt9(k n:Nat)(GM GC:tz6):tz6:=gP 1 4 (ys1 (sH n) GM (zn0 k n GM GC) (yh9 GM) xb6 (oF (fR GC GM) k) zv9 (gBy (fR GC GM) k))
theorem yh2{k n:Nat}(hk:12<k)(hn:12<n)(hS:D.imms xs=true)(hM:∀j s:Int,0<=j->j<1000->0<=s->s<1000->∃a,GM [.con xs,.int j,.int s]=some (.int a)/\0<=a)(hC:∀j:Int,0<=j->j<1000->∃a,GC [.con xs,.int j]=some (.int a)):xt9 k n GM GC [.con xs]=some (.bl true):=by
 have e0:(Str.ofString "").length=0:=by decide+kernel
 have e1:(Str.ofString "a").length=1:=by decide+kernel
 have b0:=zj0 (n:=n) (by omega) (Str.ofString "") (by omega)
 have b1:=zj0 (n:=n) (by omega) (Str.ofString "a") (by omega)
 rw [e0,if_pos rfl] at b0
 rw [e1,if_neg (by decide)] at b1
 have t0:kR (fB (f2 dNe (aJ (sH n) (aA (aX aE) (aA (fC (.str "")) aE))) (aX aE))) (fB (f2 tL (aJ (sH n) (aA (aX aE) (aA (fC (.str "a")) aE))) (fC .non))) [some (.con xs),none,none,none,none]=some false:=lN (cU (aM (x:= .tup (bV [])) (y:= .tup (bV [])) (aT (aD rfl (aD rfl rfl)) b0) rfl (by unfold dNe;rw [yz7];rfl))) (cU (aM (aT (aD rfl (aD rfl rfl)) b1) rfl rfl))
 obtain⟨a,qa,_⟩:=hM 2 64 (by decide) (by decide) (by decide) (by decide)
 have mt:=yr6 (GM:=GM) (GC:=GC) (S:= .con xs) (k:=k) (n:=n) hk hn hS hM hC
 have s2:fIf (aY (cG (fB (f2 dEq (f2 cK (aJ GM (aA (aB 0) (aA (fC (.int 2)) (aA (fC (.int 64)) aE)))) (fC (.int 16))) (fC (.int 5)))) (gR (fT (aJ (zn0 k n GM GC) (aA (aB 0) aE)))))) (bR (aH (fC (.bl false)))) bP [some (.con xs),none,none,none,none]=some (.nx,[some (.con xs),none,none,none,none]):=by
  have u1:fB (f2 dEq (f2 cK (aJ GM (aA (aB 0) (aA (fC (.int 2)) (aA (fC (.int 64)) aE)))) (fC (.int 16))) (fC (.int 5))) [some (.con xs),none,none,none,none]=some (decide (a % 16=5)):=cU (aM (aM (aT (aD rfl (aD rfl (aD rfl rfl))) qa) rfl ((dZ _ _).trans (if_pos (by decide)))) rfl rfl)
  have u2:gR (fT (aJ (zn0 k n GM GC) (aA (aB 0) aE))) [some (.con xs),none,none,none,none]=some false:=gQ (b:=true) (iH (aT (aD rfl rfl) mt))
  have u:=oV u1 u2
  rw [XA] at u
  exact aU u
 obtain⟨r,qr,hr⟩:=xl1 (GM:=GM) (xs:=xs) hM
 have hdp:=hr.dep
 have h16:depR r<=16:=by omega
 have l8:(toksR r).length<=800:=Zq hr.len (by decide)
 have s3:aS 1 (aH (aJ (yh9 GM) (aA (aB 0) aE))) [some (.con xs),none,none,none,none]=some (.nx,[some (.con xs),some (.tup (pcsD r)),none,none,none]):=bF (aT (aD rfl rfl) qr)
 have dr:∀salt:Int,0<=salt->salt<=900->∃C t,oF (fR GC GM) k [.con xs,.tup (pcsD r),.int salt]=some (.tup [.str t,.tup (bV C)])/\setR true 0 r C ⟨#[]⟩=some ([],t)/\t.length<=400000:=fun salt h0 h1=>by
  obtain⟨C,t,q,h,_,tl⟩:=zT (GH:=fR GC GM) (S:= .con xs) (n:=k) (r:=r) (salt:=salt) hS (xd0 hM hC) (by omega) h16 hr.ok l8 h0 h1
  exact⟨C,t,q,h,by omega⟩
 obtain⟨C1,t1,q1,_,tl1⟩:=dr 1 (by decide) (by decide)
 obtain⟨b,qb,_⟩:=hM 1 62 (by decide) (by decide) (by decide) (by decide)
 obtain⟨T,qT,lT⟩:=yh1 (t:=t1) (a:=b) tl1
 have s4:aS 2 (aH (aJ xb6 (aA (f2 dIx (aJ (oF (fR GC GM) k) (aA (aB 0) (aA (aB 1) (aA (fC (.int 1)) aE)))) (fC (.int 0))) (aA (aJ GM (aA (aB 0) (aA (fC (.int 1)) (aA (fC (.int 62)) aE)))) aE)))) [some (.con xs),some (.tup (pcsD r)),none,none,none]=some (.nx,[some (.con xs),some (.tup (pcsD r)),some (.str T),none,none]):=bF (aT (aD (aM (aT (aD rfl (aD rfl (aD rfl rfl))) q1) rfl (kE _ _)) (aD (aT (aD rfl (aD rfl (aD rfl rfl))) qb) rfl)) qT)
 have qk:=xK (W:=T) (n:=n) lT (by omega) h16 hr.ok l8
 have s5:aS 3 (aH (aJ (sH n) (aA (aB 1) (aA (aB 2) aE)))) [some (.con xs),some (.tup (pcsD r)),some (.str T),none,none]=some (.nx,[some (.con xs),some (.tup (pcsD r)),some (.str T),some (yh8 (gS (dQ T n r) T.length)),none]):=bF (aT (aD rfl (aD rfl rfl)) qk)
 refine iI rfl (bL (aU t0) (bL s2 (bL s3 (bL s4 (bL s5 ?_)))))
 cases e:gS (dQ T n r) T.length with
 | some y=>
  have hy:=wJ (W:=T) (n:=n) (by omega) h16 hr.ok e
  have yl:y.2.length<=900:=by
   have:=setR_len hy
   rw [ZL] at this
   omega
  have qy:=xc8 (GH:=fR GC GM) (n:=k) xc9 (by omega) h16 hr.ok l8 yl hy
  refine kQ ⟨_,(bD (cU (aM rfl rfl rfl))).trans (bS ?_)⟩
  unfold sL
  rw [aT (h:=zv9) (aD (f:=aB 3) (d:= .tup (bV y.2)) (g:=aE) rfl rfl) (yr5 y.2),Z6]
  refine aM (aT (aD rfl (aD rfl rfl)) qy) rfl ?_
  show some (D.bl (decide (T=T)))=_
  rw [Ze rfl]
 | none=>
  refine bL (aU (cU (aM rfl rfl rfl))) ?_
  obtain⟨p',e',x4,rfl⟩:=ze2 (i:=4) (f:=fIf (aY (fB (f2 dEq (f2 dIx (aJ (oF (fR GC GM) k) (aA (aB 0) (aA (aB 1) (aA (f2 bJ (fC (.int 1)) (f2 iK (fC (.int 50)) (aB 4))) aE)))) (fC (.int 0))) (aB 2)))) (bR (aH (fC (.bl false)))) bP) (P:=fun p=>∃x4,p=[some (.con xs),some (.tup (pcsD r)),some (.str T),some .non,x4]) (eS 0 5) [some (.con xs),some (.tup (pcsD r)),some (.str T),some .non,none] ⟨_,rfl⟩ (fun d hd p ⟨x4,hp⟩=>by
   subst hp
   unfold eS at hd
   obtain⟨j,hj,rfl⟩:=Yc.mp hd
   have hj':=YB.mp hj
   obtain⟨C,t,qd,hs,_⟩:=dr (1+50*(0+(j:Int))) (by omega) (by omega)
   have ne:t≠T:=fun z=>by
    subst z
    obtain⟨y,ey,_⟩:=zi7 (W:=t) (n:=n) (by omega) h16 hr.ok hs
    rw [e] at ey;cases ey
   have m:f2 iK (fC (.int 50)) (aB 4) [some (.con xs),some (.tup (pcsD r)),some (.str T),some .non,some (.int (0+(j:Int)))]=some (.int (50*(0+(j:Int)))):=aM rfl rfl (by
    show(if L2.oX 50 (0+(j:Int))=true then some (D.int (50*(0+(j:Int)))) else none)=_
    rw [if_pos (by unfold L2.oX;simp)])
   refine⟨_,aU (cU (aM (x:= .str t) (y:= .str T) (aM (aT (aD rfl (aD rfl (aD (aM rfl m rfl) rfl))) qd) rfl (kE _ _)) rfl ?_)),_,rfl⟩
   show some (D.bl (decide (t=T)))=_
   rw [Z5 ne])
  exact bL (mS (ds:=eS 0 5) rfl e') ⟨_,bS rfl⟩
end
end My
namespace My
open PySem PySem.Spec PyProof.Rows L2 L3
variable{P:Program}{w:World}{K:tz0}{mg:tzA}{base:Heap}{U:tz9}
abbrev wW:List D->Option (List Int):=D.ints
theorem uT:∀ns:List Int,wW (ns.map .int)=some ns
 |[]=>rfl
 |n::ns=>by show(D.ints (ns.map .int)).map (n::·)=_;rw [show D.ints (ns.map .int)=some ns from uT ns];rfl
def yi1:tz6
 |[.con xs,.int k,.int s]=>match wW xs with
  |some ns=>if ns.length<=63/\(0<=k/\k<1000000)/\(0<=s/\s<1000000) then some (.int (vA ns k s)) else none
  |none=>none
 |_=>none
theorem yz9{ns:List Int}(h:ns.length<=63)(k s:Int)(hk:0<=k)(hk1:k<1000)(hs:0<=s)(hs1:s<1000):∃m,yi1 [.con (ns.map .int),.int k,.int s]=some (.int m)/\0<=m:=by
 refine⟨vA ns k s,?_,(zw9 ns k s).1⟩
 show(match wW (ns.map .int) with|some ns=>if ns.length<=63/\(0<=k/\k<1000000)/\(0<=s/\s<1000000) then some (D.int (vA ns k s)) else none|none=>none)=_
 rw [uT]
 exact if_pos ⟨h,⟨hk,by omega⟩,hs,by omega⟩
theorem xx5{k:Nat}{f:Addr}{fd:FuncData}{ps:List Str}(F:FnOk P w K mg base CX0 k f fd ps (yb8 K)):FnOk P w K mg base CX0 k f fd ps (SpP 3 K U yi1):=by
 refine F.imp fun vs H Q E ⟨_,ds,fp,d,r,e,q⟩=> ?_
 unfold yi1 at e
 split at e
 ·rename_i xs k s
  split at e
  ·rename_i ns hns
   obtain⟨hc,e⟩:=bQ e
   cases e
   obtain⟨v1,us,f,g,rfl,r1,r2,rfl⟩:=r.split
   obtain⟨v2,us2,f2,g2,rfl,r3,r4,rfl⟩:=r2.split
   obtain⟨v3,rfl,r5⟩:=r4.one_inv
   rw [r3.is_int,r5.is_int]
   obtain⟨a,vs,rfl,hS,hs⟩:=r1.con_inv
   rw [xD hs hns] at hS
   exact⟨a,ns,k,s,rfl,hS.l,hc.1,hc.2.1,hc.2.2,q _ H [] (SameK.refl H) (fun _ ha=>absurd ha (by simp)) Zf (.int _)⟩
  ·cases e
 ·cases e
def zn1(K:tz0):Sp:=fun vs H Q _=>∃(a:Addr) (ns:List Int),vs=[.ref a]/\SqF K H a (ns.map V.int)/\ns.length<=63/\∀H',Q (.bl true) H'
theorem zj1{H:Hp}:∀ns:List Int,Reps K U H (ns.map V.int) (ns.map .int) []
 |[]=> .nil
 |n::ns=> .cons (f:=[]) (g:=[]) (.int n) (zj1 ns)
theorem xx6{k:Nat}{f:Addr}{fd:FuncData}{ps:List Str}{g:tz6}(F:FnOk P w K mg base CX0 k f fd ps (SpP 1 K U g))(h:∀ns:List Int,ns.length<=63->g [.con (ns.map .int)]=some (.bl true)):FnOk P w K mg base CX0 k f fd ps (zn1 K):=
 F.imp fun vs H Q E ⟨a,ns,e,hS,hl,q⟩=>e▸⟨rfl,[.con (ns.map .int)],[],.bl true,.cons (f:=[]) (g:=[]) (.con hS (zj1 ns)) .nil,h ns hl,fun v H' fv _ _ _ r=>by cases r;exact q H'⟩
def Cur:Nat->(List Value->Prop)->Prop
 |0,P=>P []
 |n+1,P=>∀a,Cur n fun us=>P (a::us)
theorem ze3{n:Nat}:∀{P:List Value->Prop},Cur n P->∀us:List Value,us.length=n->P us:=by
 induction n with
 |zero=>intro P h us hl;cases Xj hl;exact h
 |succ n ih=>
  intro P h us hl
  cases us with
  |nil=>cases hl
  |cons a us=>exact ih (h a) us (Nat.succ.inj hl)
structure FzT(K:tz0)(x:Str)(st:Stmt)(f:Addr)(fd:FuncData):Prop where
 a:PySem.W.nsIn K mainGlobals x=some (some (.ref f))
 F:Fun K x x st f fd
structure MzT(K:tz0)(C:Addr)(m q:Str)(st:Stmt)(f:Addr)(fd:FuncData):Prop where
 i:PySem.W.findIn K (.ref C) m=some (some (.ref f))
 s:PySem.W.isFn K (.ref f)=true
 F:Fun K m q st f fd
structure CzT(K:tz0)(x:Str)(C:Addr):Prop where
 a:PySem.W.nsIn K mainGlobals x=some (some (.ref C))
 g:PySem.W.plainGet K C Str.empty=true
 d:PySem.W.hasDictIn K C=true
 o:PySem.W.plainOver K C=true
 s:PySem.W.findIn K (.ref C) "__setattr__"=some (some (.builtin "object.__setattr__"))
 m:PySem.W.makesIn K C=true
 k:PySem.W.keepIn K (.ref C)=true
abbrev BiT(x q:Str)(st:Stmt)(ps:List Str):Prop:=∀(kV doc pm:Value) (an:Option Addr) (cdv ct:Value) (us:List Value),us.length=ps.length->bindArgs (PySem.W.fnOf x q (tJ st) (mT st) (bE st) .none kV doc pm an cdv ct) ⟨us,[]⟩=pure (ps.zip us)
theorem eQ{N ps:List Str}{h:Heap}{x:Str}{st:Stmt}{f:Addr}{fd:FuncData}(_:FnScope N ps (bE st))(X:K.In h)(G:h.Ns mainGlobals mg)(a:FzT K x st f fd)(hb:BiT x x st ps:=by exact fun _ _ _ _ _ _=>ze3 (by(repeat intro _);exact rfl)):Dn K mg x st ps f fd:=
 ⟨a.F,a.F.binds hb,X5 X G a.a⟩
theorem zl1{x:Str}{C:Addr}(e:U x=C)(c:CzT K x C):Cls K (U x):=by rw [e];exact⟨c.g,c.d,c.o,c.s⟩
theorem zu3{x y:Str}{C:Addr}(e:U x=C)(h:PySem.W.findIn K (.ref C) y=some none):dJ K (U x) y:=by rw [e];exact h
theorem xa0{N ps:List Str}{x m q:Str}{C:Addr}{st:Stmt}{f:Addr}{fd:FuncData}(_:FnScope N ps (bE st))(e:U x=C)(c:CzT K x C)(a:MzT K C m q st f fd)(hb:BiT m q st ps:=by exact fun _ _ _ _ _ _=>ze3 (by(repeat intro _);exact rfl)):Mn K U x m q st ps f fd:=
 ⟨a.F,a.F.binds hb,zl1 e c,by rw [e];exact⟨a.i,a.s,a.F.kp⟩⟩
theorem xa1{N ps:List Str}{h:Heap}{x q:Str}{C:Addr}{st:Stmt}{f:Addr}{fd:FuncData}(_:FnScope N ps (bE st))(X:K.In h)(G:h.Ns mainGlobals mg)(e:U x=C)(c:CzT K x C)(a:MzT K C "__init__" q st f fd)(hb:BiT "__init__" q st ps:=by exact fun _ _ _ _ _ _=>ze3 (by(repeat intro _);exact rfl)):Kn K mg U x q st ps f fd:=
 ⟨a.F,a.F.binds hb,by rw [e];exact⟨c.m,a.i,a.s,c.k⟩,by rw [e];exact X5 X G c.a⟩
theorem _root_.L2.FnOk.up{CX:CXT}{k k':Nat}{f:Addr}{fd:FuncData}{ps:List Str}{sp:Sp}(h:FnOk P w K mg base CX k f fd ps sp)(hk:k<=k':=by decide):FnOk P w K mg base CX k' f fd ps sp:=h.mono hk
theorem xx7{l:PySem.W.OpenLaw}{q:Program}{loose:List Str}{XP:(tzA)->Heap->Prop}{YP:World->Heap->Prop}{d:DefRec}{K:Params->tz0}{lev:Nat}(hn:l.most=some 63)(hdf:d.params.defaults=[])(hr:Room lev callerA)
  (hY:∀(w:World) (h:Heap),YP w h->(K w.params).In h)
  (F:∀(w:World) (mg:tzA) (fa:Addr) (h:Heap),(K w.params).In h->h.Ns mainGlobals mg->mg d.name=some (.ref fa)->
   ∃fd:FuncData,(∀(s:Shared) (u:Value),BindsTo s fd ⟨[u],[]⟩ [("_law_script",u)])/\∀base:Heap,(K w.params).In base->base.Ns mainGlobals mg->FnOk l.prog w (K w.params) mg base CX0 lev fa fd ["_law_script"] (zn1 (K w.params))):
  PySem.W.WalkO q loose XP YP l.row.toRowW d [] (fun f vs=>PySem.call f vs):=
 L2.xf4 (n:=63) (k:=lev) (x:="_law_script") (CX:=fun _=>CX0) (sp:=fun w=>zn1 (K w.params)) hn (by decide) hdf hr hY F (fun _ H a ns hl hO hS=>⟨a,ns,rfl,by
  rcases hS with (h|h)|h
  ·rcases hO a with z|⟨o,xs,z⟩<;>rw [h] at z<;>cases z
  ·exact .inl h
  ·exact .inr h,hl,fun _=>rfl⟩) fun _ _ _ _ _ z=>z
end My
namespace My
open PySem PySem.Spec PyProof.Rows L2 L3
variable{P:Program}{w:World}{K:tz0}{mg:tzA}{base:Heap}{U:tz9}
def zn2:tz6
 |[.con xs,.int k]=>match wW xs with
  |some ns=>some (.int (oY ns k))
  |none=>none
 |_=>none
theorem yr7(ns:List Int)(k:Int):zn2 [.con (ns.map .int),.int k]=some (.int (oY ns k)):=by
 show(match wW (ns.map .int) with|some ns=>some (D.int (oY ns k))|none=>none)=_
 rw [uT]
theorem xv5{k:Nat}{f:Addr}{fd:FuncData}{ps:List Str}(F:FnOk P w K mg base CX0 k f fd ps (zv0 K)):FnOk P w K mg base CX0 k f fd ps (SpP 2 K U zn2):=by
 refine F.imp fun vs H Q E ⟨_,ds,fp,d,r,e,q⟩=> ?_
 unfold zn2 at e
 split at e
 ·rename_i xs k
  split at e
  ·rename_i ns hns
   cases e
   obtain⟨v1,us,f,g,rfl,r1,r2,rfl⟩:=r.split
   obtain⟨v3,rfl,r5⟩:=r2.one_inv
   rw [r5.is_int]
   obtain⟨a,vs,rfl,hS,hs⟩:=r1.con_inv
   rw [xD hs hns] at hS
   exact⟨a,ns,k,rfl,hS.l,q _ H [] (SameK.refl H) (fun _ ha=>absurd ha (by simp)) Zf (.int _)⟩
  ·cases e
 ·cases e
end My
namespace My
open PySem PySem.Spec PyProof.Rows L2 L3
theorem xr3{l:PySem.W.OpenLaw}{w:World}{K:tz0}{h:Heap}{mg:tzA}{fa:Addr}(X:K.In h)(G:h.Ns mainGlobals mg)(hfa:mg "law"=some (.ref fa))
  (lm:FzT K "first_place" jU jb iy)
  (l4:FzT K "holds_rows" kJ jo ja)
  (kq:FzT K "takes_choice" jA iq g6)
  (oe:FzT K "ways" oZ mw ma)
  (mm:FzT K "new_line" mD j6 jy)
  (m8:FzT K "writing" nL k8 kf)
  (l7:FzT K "ends_line" lQ jz jn)
  (kg:FzT K "column_behind" iT ib gy)
  (lp:FzT K "with_choice" jV i8 ir)
  (kr:FzT K "behind_plain" jB iw g8)
  (kh:FzT K "behind_holder" iU g7 gw)
  (l5:FzT K "behind_row" st_p_behind_row dj dc)
  (ki:FzT K "behind_pieces" iV ia gx)
  (mn:FzT K "lines_of" mE j7 j3)
  (l6:FzT K "choices_of" iW dk de)
  (m9:FzT K "_law_cell_at" kW kx j8)
  (nz:FzT K "_law_mixed" gA a7 au)
  (og:FzT K "_law_word" pD jr jc)
  (oh:FzT K "_law_leaf" pE jv jd)
  (oi:FzT K "_law_shut" sF mx me)
  (oo:FzT K "_law_row" vB nr my)
  (nq:FzT K "_law_choose" oK ls ky)
  (n0:FzT K "_law_inner" qE mf lu)
  (oq:FzT K "_law_set" st_l_set ik gn)
  (n6:FzT K "_law_drawn" nO je ii)
  (ou:FzT K "_law_by" tU l0 km)
  (n8:FzT K "_law_twins" qF mh lx)
  (na:FzT K "_law_wrapped" nQ kz kb)
  (oj:FzT K "_law_some" sG m7 mj)
  (lq:FzT K "_law_are_choices" iF df cw)
  (ng:FzT K "_law_changed" nR k7 ke)
  (ol:FzT K "_law_many" pI m6 mi)
  (nh:FzT K "law" zv3 pd o1)
  (z0:PySem.W.nsIn K mainGlobals "len"=some none)
  (z1:PySem.W.nsIn K mainGlobals "enumerate"=some none)
  (z2:PySem.W.nsIn K mainGlobals "max"=some none)
  (z3:PySem.W.nsIn K mainGlobals "range"=some none)
  (z4:PySem.W.nsIn K mainGlobals "tuple"=some none)
  (z5:PySem.W.nsIn K mainGlobals "min"=some none)
  (z6:PySem.W.nsIn K mainGlobals "isinstance"=some none)
  (z7:PySem.W.nsIn K mainGlobals "bool"=some none)
  (z8:PySem.W.nsIn K mainGlobals "int"=some none)
  (g0:PySem.W.nsIn K mainGlobals "HOLDERS"=some (some (.ref gv)))
  (n9:K.lookup gv=some ⟨.type "tuple",o3,.seq #[.str "group" o4,.str "hang" o5,.str "either" o6] o7,o8⟩)
  (nj:CzT K "Place" jq)
  (mo:MzT K jq "__init__" "Place.__init__" st_Place_init fj d8)
  (om:PySem.W.findIn K (.ref jq) "broken"=some none)
  (on:PySem.W.findIn K (.ref jq) "margin"=some none)
  (jw:CzT K "Front" gt)
  (mq:MzT K gt "__init__" "Front.__init__" st_Front_init bp be)
  (nk:MzT K gt "add" "Front.add" st_Front_add b8 bq)
  (lr:MzT K gt "add_all" "Front.add_all" st_Front_add_all i9 iu)
  (ot:PySem.W.findIn K (.ref gt) "steps"=some none)
  (ox:PySem.W.findIn K (.ref gt) "best"=some none)
  (i7:CzT K "AlongText" d7)
  (ku:MzT K d7 "__init__" "AlongText.__init__" st_AlongText_init i4 g9)
  (ij:MzT K d7 "state_behind" "AlongText.state_behind" st_AlongText_state_behind dg db)
  (oy:PySem.W.findIn K (.ref d7) "text"=some none)
  :∃fd:FuncData,(∀(s:Shared) (v:Value),BindsTo s fd ⟨[v],[]⟩ [("_law_script",v)])/\∀base:Heap,K.In base->base.Ns mainGlobals mg->FnOk l.prog w K mg base CX0 47 fa fd ["_law_script"] (zn1 K):=by
 have e:=hfa.symm.trans (X5 X G nh.a)
 cases e
 have bu:=eQ qW X G lm
 have ca:=eQ rR X G l4
 have bf:=eQ pS X G kq
 have gh:=eQ rS X G oe
 have cc:=eQ vF X G mm
 have c7:=eQ qX X G m8
 have cg:=eQ sY X G l7
 have ba:=eQ oQ X G kg
 have bv:=eQ iA X G lp
 have bi:=eQ fQ X G kr
 have bc:=eQ eG X G kh
 have ay:=eQ gM X G l5
 have bd:=eQ oR X G ki
 have ck:=eQ vG X G mn
 have ai:=eQ iP X G l6
 have ci:=eQ vU X G m9
 have af:=eQ jQ X G nz
 have cr:=eQ jJ X G og
 have cu:=eQ vY X G oh
 have eu:=eQ gC X G oi
 have gl:=eQ kP X G oo
 have cv:=eQ hV X G nq
 have ff:=eQ nD X G n0
 have bn:=eQ uE X G oq
 have b9:=eQ pY X G n6
 have ge:=eQ zd3 X G ou
 have fg:=eQ fL X G n8
 have c9:=eQ fM X G na
 have gq:=eQ zh4 X G oj
 have av:=eQ mL X G lq
 have da:=eQ jE X G ng
 have gs:=eQ oS X G ol
 have ny:=eQ sZ X G nh
 obtain⟨U,hU⟩:∃U,U=(kap [("Place",jq),("Front",gt),("AlongText",d7)]):=⟨_,rfl⟩
 have jx:U "Place"=jq:=by rw [hU];simp [kap,gN]
 have ar:=zl1 jx nj
 have c6:=xa1 vH X G jx nj mo
 have a0:=zu3 jx om
 have b7:=zu3 jx on
 have gu:U "Front"=gt:=by rw [hU];simp [kap,gN]
 have ae:=zl1 gu jw
 have bg:=xa1 vI X G gu jw mq
 have ak:=xa0 vZ gu jw nk
 have bw:=xa0 mM gu jw lr
 have bh:=zu3 gu ot
 have al:=zu3 gu ox
 have gf:U "AlongText"=d7:=by rw [hU];simp [kap,gN]
 have cp:=zl1 gf i7
 have c8:=xa1 pT X G gf i7 ku
 have am:=xa0 gX gf i7 ij
 have il:=zu3 gf oy
 have ac:=ZR X G z0
 have jf:=ZR X G z1
 have nu:=ZR X G z2
 have a8:=ZR X G z3
 have aw:=ZR X G z4
 have mr:=ZR X G z5
 have dh:=ZR X G z6
 have mz:=ZR X G z7
 have nv:=ZR X G z8
 have j4:=X5 X G g0
 have j5:∀H,Rep K U H (.ref gv) (.tup [(.str "group"),(.str "hang"),(.str "either")]) []:=fun H=>yv3 (ys:=[("group",_),("hang",_),("either",_)]) n9 (Z2 rfl) H
 obtain⟨oc,od,kV,doc,pm,an,cdv,ct,osl,el,_,_⟩:=nh.F.ex
 refine⟨o1,fun s v=>by rw [el];exact .of_eq rfl,fun base KB _=> ?_⟩
 have H1:=zq7 (P:=l.prog) (w:=w) (base:=base) (n:=0) ci ac
 have H2:=yf1 (n:=1) af ci H1 ac nu
 have ag:=xx5 (U:=U) H2
 have d6:=xv5 (U:=U) H1
 have ao:=zk0 (P:=l.prog) (w:=w) (base:=base) (U:=U) (n:=0) bg ae bh al
 have eo:=xU (P:=l.prog) (w:=w) (base:=base) (U:=U) (n:=0) c8 cp il
 have ax:=zr1 (P:=l.prog) (w:=w) (base:=base) (U:=U) (mg:=mg) (n:=0) ak ae al
 have gj:=zJ (P:=l.prog) (w:=w) (base:=base) (U:=U) (n:=0) ca j4 j5
 have fm:=zj7 (P:=l.prog) (w:=w) (base:=base) (U:=U) (n:=0) cc
 have jm:=zq8 (n:=1) c7 cc fm.up ar a0 b7
 have g5:=zd2 (P:=l.prog) (w:=w) (base:=base) (U:=U) (n:=0) cg
 have dw:=vV (n:=1) ba cg g5.up ac
 have cf:=pZ (n:=2) am c7 jm.up ba dw.up cp il ac
 have ej:=xT (n:=2) bi bg ao.up am cf.up ak ax.up ae al bh
 have cb:=zj9 (P:=l.prog) (w:=w) (base:=base) (U:=U) (n:=0) c6 ar a0 b7
 have lf:=yn9 (n:=1) gh c6 cb.up ar a0 b7
 have ee:=xS (P:=l.prog) (w:=w) (base:=base) (U:=U) (n:=0) bf ar a0
 have f9:=yG (n:=1) bv bg ao.up ak ax.up ae al bh
 have gb:=yI (n:=1) bw ak ax.up ae al
 have l9:∀n,FnOk l.prog w K mg base CX0 (3*n+4) _ _ ["front","row","place"] (SpP 3 K U (vC n)):=fun n=>by
  induction n with
  |zero=>exact FnOk.noneP (ps:=["front","row","place"])
  |succ n ih=>exact zK (n:=3*n+6) ay ca (gj.mono (by omega)) bc (vW (n:=3*n+4) bc bg (ao.mono (by omega)) gh (lf.mono (by omega)) bf (ee.mono (by omega)) bv (f9.mono (by omega)) bw (gb.mono (by omega)) ay (ih.mono (by omega)) ae bh jf) bi (ej.mono (by omega))
 have cj:=l9 13
 have gd:=yF (n:=1) bu c6 cb.up
 have dt:=vX (n:=43) bd ay cj.up bu gd.up
 have i5:=zj8 (P:=l.prog) (w:=w) (base:=base) (U:=U) (n:=0) ck
 have az:=zL (n:=43) ai bg ao.up c8 eo.up ak ax.up bd dt.up ck i5.up ae al ac
 have gk:=yo0 (P:=l.prog) (w:=w) (base:=base) (U:=U) (n:=0) cr a8
 have ig:=zx0 (n:=2) cv ci d6.up af ag.up ac
 have oz:∀n,FnOk l.prog w K mg base CX0 (2*n+3) _ _ ["_law_script","_law_row_here","_law_flat","_law_hang","_law_state"] (SpE 5 K U (cI [false,false,false,false,true]) (jZ (fR zn2 yi1) n)):=fun n=>by
  induction n with
  |zero=>exact FnOk.noneE (ps:=["_law_script","_law_row_here","_law_flat","_law_hang","_law_state"])
  |succ n ih=>exact yw6 (n:=2*n+4) bn ff (yf2 (n:=2*n+3) ff bn ih cv (ig.mono (by omega)) ac) ac
 have cm:=oz 13
 have di:=yf3 (n:=29) b9 bn cm.up aw
 have bz:=yH (P:=l.prog) (w:=w) (base:=base) (U:=U) (n:=0) av dh aw mz nv
 have jp:=xi4 (n:=29) ge bn cm.up ac
 have lj:=yo4 (n:=45) gs cr gk.up af ag.up b9 di.up ai az.up av bz.up ge jp.up aw a8
 have gm:=yo1 (n:=1) cu cr gk.up
 have ji:=zq9 (n:=2) c9 af ag.up cu gm.up a8
 have ju:=yo2 (P:=l.prog) (w:=w) (base:=base) (U:=U) (n:=0) eu aw ac
 have kl:=yw5 (n:=2) gl af ag.up eu ju.up cu gm.up a8 aw ac
 have kc:=yf4 (n:=2) fg af ag.up a8 aw ac
 have ll:=yo3 (n:=3) gq af ag.up c9 ji.up gl kl.up fg kc.up mr ac
 have jk:=zr0 (P:=l.prog) (w:=w) (base:=base) (U:=U) (n:=0) da ac
 have o9:=xp5 (n:=46) ny ai az.up af ag.up gs lj.up gq ll.up da jk.up b9 di.up av bz.up ge jp.up a8
 exact xx6 o9 fun ns hl=>yh2 (by decide) (by decide) (jL ns) (fun j s h0 h1 h2 h3=>yz9 hl j s h0 h1 h2 h3) (fun j _ _=>⟨_,yr7 ns j⟩)
end My
open PySem PySem.W PyProof.Rows
set_option maxRecDepth 100000 in
set_option maxHeartbeats 0 in
theorem PySem.Challenge.cw_linepress_k25_other_texts_holds : PySem.Challenge.rw_linepress_k25_other_texts.Holds := by
 w_on;o_law;k_head;(case hw=>w_witness2)
 k_fill
 refine My.xx7 (lev:=47) (l:=PySem.Challenge.rw_linepress_k25_other_texts) rfl rfl ⟨rfl,by decide,by decide⟩ (fun w h Y=>PySem.W.kIn_of Y) ?F
 case F=>
  intro w mg fa h KX G hmg
  apply My.xr3 KX G hmg
  all_goals first
   |(refine' My.FzT.mk ?a (L2.yl1 ?b ?c ?d);(case a=>k_is);(case b=>k_is);(case c=>k_is);(case d=>k_is))
   |(refine' My.MzT.mk ?a ?e (L2.yl1 ?b ?c ?d);(case a=>k_is);(case e=>k_is);(case b=>k_is);(case c=>k_is);(case d=>k_is))
   |(refine' My.CzT.mk ?a ?_ ?_ ?_ ?_ ?_ ?_;(case a=>k_is);all_goals k_is)
   |(refine' My.vz_mk ?a ?b;(case a=>k_is);(case b=>exact⟨_,rfl⟩))
   |k_is
   |rfl
   |kit_is
   |k_exc
   |kernel_rfl
#print axioms PySem.Challenge.cw_linepress_k25_other_texts_holds

