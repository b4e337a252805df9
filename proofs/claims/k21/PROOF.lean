import PyProof.Rows.All
import Wide.All
import OpenK.AllK
import Wide.FinOn
import Lean
import PyProof.EqAt
import PyProof.EqKinds
import PyProof.TupleCall
import PySem.Challenge.RW_linepress_k21_pressed_is_a_road
set_option Elab.async false
set_option genSizeOfSpec false
set_option genInjectivity false
def PySem.W.Fast.tw17526106821799087873:=()
def PySem.W.Fast.tw17972299510415143684:=()
def PySem.W.Fast.tw16865988243625625251:=()
def PySem.W.Fast.tw11384064495718502696:=()
def PySem.W.Fast.tw18061370573850683550:=()
def PySem.W.Fast.tw4635889477511718210:=()
def PySem.W.Fast.tw9046604240716866989:=()
def PySem.W.Fast.tw10731466698544873714:=()
def PySem.W.Fast.tw337162726111351879:=()
def PySem.W.Fast.tw13755887046062986186:=()
def PySem.W.Fast.tw6642293647502866763:=()
def PySem.W.Fast.tw15502479729029314741:=()
def PySem.W.Fast.tw4830696187226754577:=()
def PySem.W.Fast.tw6947491764575775737:=()
def PySem.W.Fast.tw10499522701699304398:=()
def PySem.W.Fast.tw13575373964454391704:=()
def PySem.W.Fast.tw15398812877238153408:=()
def PySem.W.Fast.tw1956054347911966345:=()
def PySem.W.Fast.tw10734083323437226112:=()
def PySem.W.Fast.tw5791122723069000866:=()
def PySem.W.Fast.tw9932098983788093094:=()
def PySem.W.Fast.tw11075517501154759958:=()
def PySem.W.Fast.tw9365588488213474155:=()
def PySem.W.Fast.tw14611203501960409257:=()
def PySem.W.Fast.tw5914208835337831117:=()
def PySem.W.Fast.tw16789013374684199997:=()
def PySem.W.Fast.tw14831033101557828837:=()
def PySem.W.Fast.tw13421375833307586211:=()
def PySem.W.Fast.tw10447364129952727469:=()
def PySem.W.Fast.tw15423508786007013985:=()
def PySem.W.Fast.tw14563835082471477675:=()
def PySem.W.Fast.tw3469462637437792552:=()
def PySem.W.Fast.tw17646037311584518234:=()
def PySem.W.Fast.tw13845855384268617762:=()
def PySem.W.Fast.tw18125550634338780512:=()
def PySem.W.Fast.tw571043417540934945:=()
def PySem.W.Fast.tw17596715724039938504:=()
def PySem.W.Fast.tw12167116507827085816:=()
def PySem.W.Fast.tw5577777360902152038:=()
def PySem.W.Fast.tw17584490886282439686:=()
def PySem.W.Fast.tw1454315479898818654:=()
def PySem.W.Fast.tw1231333213090715716:=()
def PySem.W.Fast.tw4209067690539119170:=()
def PySem.W.Fast.tw7791398217272146500:=()
def PySem.W.Fast.tw13509545698129062645:=()
def PySem.W.Fast.tw11451463576103864401:=()
def PySem.W.Fast.tw9404113776554234294:=()
def PySem.W.Fast.tw13554557709995785142:=()
def PySem.W.Fast.tw14617855066677442868:=()
def PySem.W.Fast.tw1924756962632589929:=()
set_option linter.all false
set_option maxRecDepth 100000
set_option maxHeartbeats 1000000
def Z0:=@List.mem_cons_self
def Z1:=@List.mem_cons_of_mem
def Z2:=@List.mem_cons
def Z3:=@Option.bind_some
def Z4:=@List.getElem?_eq_some_iff
def Z5:=@List.length_append
def Z6:=@List.length_cons
def Z7:=@List.mem_append_right
def Z8:=@List.length_map
def Z9:=@List.map_cons
def Za:=@Nat.le_of_ble_eq_true
def Zb:=@Bool.false_ne_true
def Zc:=@Nat.le_refl
def Zd:=@List.getElem?_map
def Ze:=@PySem.wpAny_bind
def Zf:=@PySem.Heap.get?_push_of_some
def Zg:=@List.mem_singleton
def Zh:=@decide_eq_false
def Zi:=@PySem.Heap.lt_size
def Zj:=@List.mem_append_left
def Zk:=@List.mem_append
def Zl:=@List.size_toArray
def Zm:=@List.not_mem_nil
def Zn:=@List.getElem?_eq_getElem
def Zo:=@decide_eq_true
def Zp:=@Option.map_eq_some_iff
def Zq:=@List.append_nil
def Zr:=@List.nodup_nil
def Zs:=@List.getElem?_set_ne
def Zt:=@List.append_assoc
def Zu:=@List.nodup_cons
def Zv:=@Nat.le_trans
def Zw:=@PySem.Heap.get?_push_size
def Zx:=@Nat.lt_of_lt_of_le
def Zy:=@List.getElem?_set_self
def Zz:=@Int.emod_lt_of_pos
def ZA:=@Bool.and_eq_true
def ZB:=@Option.some.inj
def ZC:=@List.lookup_cons
def ZD:=@Nat.le_add_right
def ZE:=@Int.emod_nonneg
def ZF:=@PySem.W.mg_none_of
def ZG:=@PySem.wpAny_pure
def ZH:=@Nat.ne_of_lt
def ZI:=@List.nodup_append
def ZJ:=@PySem.Paired.length
def ZK:=@congrArg
def ZL:=@PySem.PassesOwn.never
def ZM:=@List.mem_of_getElem?
def ZN:=@PySem.W.kia_one
def ZO:=@PySem.wpAny_mono
def ZP:=@List.cons_append
def ZQ:=@List.getElem?_append_left
def ZR:=@List.drop_eq_getElem_cons
def ZS:=@Array.length_toList
def ZT:=@Nat.zero_le
def ZU:=@PySem.boot_len
def ZV:=@List.length_nil
def ZW:=@or_false
def ZX:=@decide_eq_true_eq
def ZY:=@PySem.wpAny_truthy_bool
def ZZ:=@PySem.Heap.get?_update_other
def Y2:=@PySem.sizeLine_eq
def Y3:=@Nat.lt_irrefl
def Y4:=@PySem.wpAny_Call_Name_kw
def Y5:=@of_decide_eq_false
def Y6:=@Bool.false_eq_true
def Y7:=@Ne.symm
def Y8:=@List.nil_append
def Y9:=@if_true
def Ya:=@beq_eq_false_iff_ne
def Yb:=@PySem.W.hideAll_get
def Yc:=@PySem.mem_of_lookup
def Yd:=@List.getElem?_cons_succ
def Ye:=@List.zip_cons_cons
def Yf:=@PySem.W.sortI_perm
def Yg:=@PySem.F.plain_min_loop
def Yh:=@PySem.W.mg_of
def Yi:=@PyProof.Rows.callWith_type1
def Yj:=@PySem.wpAny_passesOwn
def Yk:=@List.mem_map
def Yl:=@Bool.eq_iff_iff
def Ym:=@List.find?_cons
def Yn:=@List.map_append
def Yo:=@eq_self
def Yp:=@PySem.W.callWith_K
def Yq:=@List.getElem?_replicate
def Yr:=@Int.le_refl
def Ys:=@PySem.wpAny_holding
def Yt:=@List.length_range
def Yu:=@List.map_map
def Yv:=@PySem.wpAny_loadPart'
def Yw:=@List.getElem?_eq_none
def Yx:=@List.perm_append_comm
def Yy:=@beq_iff_eq
def Yz:=@List.length_take
def YA:=@Bool.not_eq_true
def YB:=@decide_eq_decide
def YC:=@Option.join_some
def YD:=@PySem.W.hideAll_none
def YE:=@List.getElem?_of_mem
def YF:=@Nat.not_lt_zero
def YG:=@Nat.le_of_lt
def YH:=@PySem.wpAny_execs_cons
def YI:=@List.mem_filterMap
def YJ:=@List.getElem?_append_right
def YK:=@if_false
def YL:=@Nat.lt_of_le_of_lt
def YM:=@List.getD_eq_getElem?_getD
def YN:=@PySem.wpAny_execs_nil
def YO:=@Int.toNat_natCast
def YQ:=@PySem.F.args_tuple_add_2
def YR:=@List.any_cons
def YS:=@PyProof.Rows.boot_tuple
def YT:=@PySem.Calls.Name_function_global
def YU:=@PySem.Calls.spliced_cons
def YV:=@PySem.F.entry_tuple_add
def YW:=@Nat.le_max_right
def YX:=@PySem.F.slot_tuple_add
def YY:=@List.sublist_cons_self
def YZ:=@Nat.zero_add
def X0:=@PySem.F.slot_str_split
def X1:=@PySem.F.type_str_split
def X2:=@PySem.Calls.spliced_nil
def X3:=@PyProof.Rows.boot_isinstance
def X4:=@Nat.le_max_left
def X5:=@PySem.W.methodCall_KW
def X6:=@List.length_replicate
def X7:=@List.filterMap_cons
def X8:=@PySem.W.plainGet_of
def X9:=@PySem.codeAny_mono
def Xa:=@PySem.Calls.callWith_builtin
def Xb:=@ne_true_of_eq_false
def Xc:=@List.reverse_append
def Xd:=@List.length_reverse
def Xe:=@PySem.codeAny_builtin
def Xf:=@List.cons.inj
def Xg:=@PySem.W.of_hideAll
def Xh:=@PySem.Heap.get?_update_self
def Xi:=@List.zip_nil_left
def Xj:=@List.map_nil
def Xk:=@of_decide_eq_true
def Xl:=@Nat.add_zero
def Xm:=@PySem.Around.under_plainId
def Xn:=@PySem.wpAny_tryCatch
def Xo:=@Nat.lt_succ_self
def Xp:=@PyProof.Rows.callWith_builtin1
def Xq:=@List.length_drop
def Xr:=@List.nil_sublist
def Xs:=@List.drop_length
def Xt:=@Array.toList_inj
def Xu:=@PySem.plainId_quiet
def Xv:=@List.eq_nil_of_length_eq_zero
def Xw:=@List.of_mem_zip
def Xx:=@PySem.typeIs_str
def Xy:=@List.length_set
def Xz:=@PySem.call_meets
def XA:=@PySem.tupleKind_room_in1
def XB:=@PySem.F.args_str_split_2
def XC:=@List.takeWhile_append_of_pos
def XD:=@List.mem_range
def XE:=@Bool.false_and
def XF:=@Int.fdiv_eq_ediv_of_nonneg
def XG:=@PySem.F.entry_str_split
def XH:=@List.drop_zero
def XI:=@List.sublist_append_right
def XJ:=@Option.isSome_iff_exists
def XL:=@PySem.noFill_tuple_add
def XM:=@List.all_cons
def XN:=@PySem.F.slot_str_split
def XO:=@List.sublist_append_left
def XQ:=@List.set_eq_of_length_le
def XR:=@PySem.F.entry_min_loop
def XS:=@PySem.F.slot_dict_values
def XT:=@PySem.F.args_tuple_lt_2
def XU:=@PySem.F.plainAttrs_list
def XV:=@PySem.wpAny_letGo
def XW:=@Nat.ne_of_gt
def XX:=@PySem.W.cellsFrom_some
def XY:=@PySem.F.entry_tuple_lt
def XZ:=@List.take_of_length_le
def W0:=@List.append_eq_nil_iff
def W1:=@Option.map_eq_none_iff
def W2:=@PySem.W.funFrames_hide
def W3:=@PySem.W.funFrames_base
def W4:=@PySem.wpAny_updateSeq
def W5:=@Int.ofNat_le
def W6:=@PySem.F.slot_tuple_lt
def W7:=@List.length_singleton
def W8:=@Array.getElem?_toList
def W9:=@Sum.inl.inj
def Wa:=@PySem.wpAny_Name
def Wb:=@PySem.Heap.size_push
def Wc:=@PySem.wpAny_seqItems
def Wd:=@List.forall_mem_cons
def We:=@Int.le_of_lt_add_one
def Wf:=@PySem.W.callWith_K0
def Wg:=@List.dropLast_cons₂
def Wh:=@List.replicate_succ
def Wi:=@Int.toNat_of_nonneg
def Wj:=@List.mem_map_of_mem
def Wk:=@Array.append_assoc
def Wl:=@PySem.wpAny_standAt
def Wm:=@PySem.W.kitx_tuple
def Wn:=@PySem.AutoSeq1.sub_tuple_tuple
def Wo:=@List.zip_nil_right
def Wp:=@PySem.seq_tuple_add
def Wq:=@PySem.wpAny_pyNext_values_item
def Ws:=@PySem.Calls.loadGlobal_global
def Wt:=@PySem.W.kitx_list
def Wu:=@PySem.W.kitx_dict
def Wv:=@Option.isSome_map
def Ww:=@Nat.le_of_lt_succ
def Wx:=@Nat.le_succ_of_le
namespace L2
open PySem PySem.Spec PyProof.Rows
abbrev Key:=Sum Int Str
abbrev _root_.tz9:=Str->Addr
abbrev _root_.tz0:=PySem.W.Frag
abbrev _root_.tzA:=Str->Option Value
abbrev _root_.tzB:=List (Addr×Obj)
def yC:Key->Value->Bool
 | .inl k,v=>Value.isInt k v
 | .inr x,v=>Value.isStrOf x v
def ws9(w:World):Key->Int
 | .inl k=>hashInt k
 | .inr x=>hashStr w x
theorem fS:∀{k:Key} {v:Value},yC k v=true->(∃i t,k=Sum.inl i/\v=Value.int i t)\/(∃x t,k=Sum.inr x/\v=Value.str x t)
 | .inl i,v,h=>by
  obtain⟨t,e⟩:=Value.isInt_shape (k:=i) (v:=v) h
  exact .inl ⟨i,t,rfl,e⟩
 | .inr x,v,h=>by
  obtain⟨t,e⟩:=Value.isStrOf_shape (x:=x) (v:=v) h
  exact .inr ⟨x,t,rfl,e⟩
theorem yz7(i:Int)(t:Tok):yC (.inl i) (.int i t)=true:=by simp [yC,Value.isInt]
theorem yz8(x:Str)(t:Tok):yC (.inr x) (.str x t)=true:=by simp [yC,Value.isStrOf]
theorem wd9(a b:Int):decide ((Sum.inl a:Key)=Sum.inl b)=(a==b):=by
 by_cases e:a=b
 ·subst e;simp
 ·have h:¬(Sum.inl a:Key)=Sum.inl b:=fun q=>e (W9 q)
  rw [Zh h]
  exact(Ya.mpr e).symm
theorem we0(a b:Str):decide ((Sum.inr a:Key)=Sum.inr b)=decide (a=b):=by
 by_cases e:a=b
 ·subst e;simp
 ·have h:¬(Sum.inr a:Key)=Sum.inr b:=fun q=>e (Sum.inr.inj q)
  rw [Zh h,Zh e]
theorem we1(a:Int)(b:Str):decide ((Sum.inl a:Key)=Sum.inr b)=false:=Zh (fun q=>nomatch q)
theorem we2(a:Str)(b:Int):decide ((Sum.inr a:Key)=Sum.inl b)=false:=Zh (fun q=>nomatch q)
def eO(prog:Program)(w:World):PySem.KeyKind prog w Key where
 is:=yC
 hash:=ws9 w
 inj:=fun v a b ha hb=>by
  rcases fS ha with ⟨i,t,rfl,rfl⟩|⟨x,t,rfl,rfl⟩
  ·rcases fS hb with ⟨j,u,rfl,e⟩|⟨y,u,rfl,e⟩
   ·injection e with e1 _;rw [e1]
   ·exact nomatch e
  ·rcases fS hb with ⟨j,u,rfl,e⟩|⟨y,u,rfl,e⟩
   ·exact nomatch e
   ·injection e with e1 _;rw [e1]
 byValue:=fun k v h=>by
  rcases fS h with ⟨i,t,rfl,rfl⟩|⟨x,t,rfl,rfl⟩<;>rfl
 pyHash:=fun hv h=>by
  rcases fS hv with ⟨i,t,rfl,rfl⟩|⟨x,t,rfl,rfl⟩
  ·exact wpAny_pyHash_int h
  ·exact wpAny_pyHash_str h
 eqBool:=fun hu hv h=>by
  rcases fS hu with ⟨i,t,rfl,rfl⟩|⟨x,t,rfl,rfl⟩
  ·rcases fS hv with ⟨j,u,rfl,rfl⟩|⟨y,u,rfl,rfl⟩
   ·rw [wd9] at h;exact wpAny_eqBool_int h
   ·rw [we1] at h;exact SeqAt.EqAt.int_str i t y u _ _ _ _ h
  ·rcases fS hv with ⟨j,u,rfl,rfl⟩|⟨y,u,rfl,rfl⟩
   ·rw [we2] at h;exact SeqAt.EqAt.str_int x t j u _ _ _ _ h
   ·rw [we0] at h;exact wpAny_eqBool_str h
 «strs»:=fun k x t v h=>by
  rcases fS h with ⟨i,u,rfl,e⟩|⟨y,u,rfl,e⟩
  ·exact nomatch e
  ·injection e with e1 _
   subst e1
   cases v<;>rfl
theorem yl8(prog:Program)(w:World)(i:Int)(t:Tok):(eO prog w).is (.inl i) (.int i t)=true:=yz7 i t
theorem yl9(prog:Program)(w:World)(x:Str)(t:Tok):(eO prog w).is (.inr x) (.str x t)=true:=yz8 x t
set_option genInjectivity true in
inductive V where
 |non|bl (b:Bool)|int (i:Int)|str (x:Str)|byt (b:Array UInt8)|flt (b:UInt64)|ref (a:Addr)|ty (n:String)
 deriving DecidableEq
def cI:V->Value->Prop
 | .non,u=>u=Value.none
 | .bl b,u=>u=Value.bool b
 | .int i,u=>∃t,u=Value.int i t
 | .str x,u=>∃t,u=Value.str x t
 | .byt b,u=>∃t,u=Value.bytes b t
 | .flt b,u=>∃t,u=Value.float b t
 | .ref a,u=>u=Value.ref a
 | .ty n,u=>u=Value.type n
abbrev bQ:List V->List Value->Prop:=Paired cI
theorem bQ.length{xs:List V}{us:List Value}(r:bQ xs us):xs.length=us.length:=ZJ r
theorem bQ.get:∀{xs:List V} {us:List Value} {i:Nat} {x:V},bQ xs us->xs[i]? =some x->∃u,us[i]? =some u/\cI x u
 |_,_,_,_,.nil,e=>by simp at e
 |_,_,0,_,.cons r _,e=>by simp at e;subst e;exact⟨_,rfl,r⟩
 |_,_,i+1,x,.cons _ t,e=>by
  obtain⟨u,h1,h2⟩:=bQ.get (i:=i) (x:=x) t (by simpa using e)
  exact⟨u,by simpa using h1,h2⟩
theorem bQ.set{x:V}{u:Value}(r:cI x u):∀{xs:List V} {us:List Value} (i:Nat),bQ xs us->bQ (xs.set i x) (us.set i u)
 |_,_,_,.nil=> .nil
 |_,_,0,.cons _ t=> .cons r t
 |_,_,i+1,.cons q t=> .cons q (bQ.set r i t)
theorem bQ.append:∀{xs ys:List V} {us ws:List Value},bQ xs us->bQ ys ws->bQ (xs++ys) (us++ws)
 |_,_,_,_,.nil,s=>s
 |_,_,_,_,.cons r t,s=> .cons r (bQ.append t s)
theorem bQ.take:∀{xs:List V} {us:List Value} (n:Nat),bQ xs us->bQ (xs.take n) (us.take n)
 |_,_,0,_=> .nil
 |_,_,_+1,.nil=> .nil
 |_,_,n+1,.cons r t=> .cons r (bQ.take n t)
theorem bQ.drop:∀{xs:List V} {us:List Value} (n:Nat),bQ xs us->bQ (xs.drop n) (us.drop n)
 |_,_,0,r=>r
 |_,_,_+1,.nil=> .nil
 |_,_,n+1,.cons _ t=>bQ.drop n t
def kJ:Option V->Option Value->Prop
 |some v,some u=>cI v u
 |none,none=>True
 |_,_=>False
def KV{U:Type}:List (U×V)->List (U×Value)->Prop:=Paired fun(p:U×V) (q:U×Value)=>p.1=q.1/\cI p.2 q.2
def kV:Key->V
 | .inl i=> .int i
 | .inr x=> .str x
inductive HO where
 |lst (xs:List V)
 |tup (xs:List V)
 |dK (kvs:List (Key×V))|dT (kvs:List (List Key×V))
 |set (S:Int->Bool) (n:Nat)
 |ins (C dx:Addr) (fs:List (Str×V))
 |own (x:Addr)
 |xd (fs:List (Str×V))
 |met (f x:Addr)
 |rng (lo hi:Int)
 |frz (o:Obj) (u:HO)
 |tbl (ps:Array Value)
 |ext (φ:Heap->Prop)
abbrev Hp:=Addr->Option HO
def upd(H:Hp)(a:Addr)(o:HO):Hp:=fun b=>if b=a then some o else H b
theorem cX{H:Hp}{a:Addr}{o:HO}:upd H a o a=some o:=by unfold upd;rw [if_pos rfl]
theorem bK{H:Hp}{a b:Addr}{o:HO}(h:b≠a):upd H a o b=H b:=by unfold upd;rw [if_neg h]
theorem wn4{H:Hp}{a b:Addr}{o u:HO}(h:H a=some o)(h':H b=some u)(d:o≠u):a≠b:=by
 intro e;subst e;rw [h] at h';exact d (ZB h')
theorem mG{H:Hp}{a b:Addr}{o:HO}(h:H a=some o)(h':H b=none):a≠b:=by
 intro e;subst e;rw [h] at h';cases h'
section
variable(P:Program)(w:World)
def dL(H:Hp)(h:Heap)(a:Addr):HO->Prop
 | .lst xs=>xs.length<=sizeLine/\∃(its:List Value) (n:Nat),bQ xs its/\h.get? a=some {cls:= .type "list",data:= .seq its.toArray n}
 | .tup xs=>xs.length<=sizeLine/\∃its:List Value,bQ xs its/\IsTup h a its.toArray
 | .dK kvs=>kvs.length<=sizeLine/\(a==sysModules)=false/\∃vs,KV kvs vs/\h.DictOf (eO P w) a vs
 | .dT kvs=>kvs.length<=sizeLine/\(a==sysModules)=false/\∃xs:List (List Key×Addr×Value),
   Paired (fun(p:List Key×V) (q:List Key×Addr×Value)=>p.1=q.1/\H q.2.1=some (.tup (p.1.map kV))/\cI p.2 q.2.2) kvs xs/\
   ∃o es ep,h.get? a=some o/\o.ExactDict/\o.data= .dict es ep/\es.toList=xs.map (entryOfKey (tupleKind (eO P w)))/\(xs.map (·.1)).Nodup
 | .set S n=>h.SetOf (intKind P w) a S n
 | .ins C dx fs=>H dx=some (.own a)/\fs.length<=1000/\dx≠a/\h.get? a=some (PySem.W.instObj C dx)/\
   ∃mA,h.Ns1 dx mA/\(∀f,kJ (fs.lookup f) (mA f))/\PySem.Within mA (fs.map (·.1))
 | .own _=>∃o,h.get? a=some o
 | .xd fs=>∃mA,h.Ns1 a mA/\∀f,kJ (fs.lookup f) (mA f)
 | .rng lo hi=>∃t u v,h.get? a=some {cls:= .type "range",data:= .fields #[.int lo t,.int hi u,.int 1 v]}
 | .frz o u=>h.get? a=some o/\dL H h a u
 | .tbl ps=>h.get? a=some {cls:= .none,data:= .fields ps}
 | .met f x=>h.get? a=some (PySem.W.methodObj (.ref f) (.ref x))
 | .ext φ=>φ h/\(∃o,h.get? a=some o)/\∀h1 h2:Heap,φ h1->(∀o,h1.get? a=some o->h2.get? a=some o)->φ h2
def HOk(H:Hp)(h:Heap):Prop:=∀a o,H a=some o->dL P w H h a o
end
section
variable{P:Program}{w:World}{H H':Hp}{h h':Heap}{a:Addr}{o:HO}
theorem dL.lt(x:dL P w H h a o):a<h.objs.size:=by
 cases o with
 |lst xs=>obtain⟨_,_,_,_,e⟩:=x;exact Zi e
 |tup xs=>obtain⟨_,_,_,p⟩:=x;exact p.lt
 |dK kvs=>obtain⟨_,_,_,_,o,_,_,e,_⟩:=x;exact Zi e
 |dT kvs=>obtain⟨_,_,_,_,o,_,_,e,_⟩:=x;exact Zi e
 |set S n=>obtain⟨o,_,_,_,e,_⟩:=x;exact Zi e
 |ins C dx fs=>obtain⟨_,_,_,e,_⟩:=x;exact Zi e
 |own y=>obtain⟨_,e⟩:=x;exact Zi e
 |xd fs=>obtain⟨_,⟨_,_,_,e,_⟩,_⟩:=x;exact Zi e
 |rng lo hi=>obtain⟨_,_,_,e⟩:=x;exact Zi e
 |frz ob u=>obtain⟨e,_⟩:=x;exact Zi e
 |tbl ps=>exact Zi (show h.get? a=some _ from x)
 |met f y=>exact Zi (show h.get? a=some _ from x)
 |ext φ=>obtain⟨_,⟨_,e⟩,_⟩:=x;exact Zi e
theorem Paired.mapP{α β:Type}{F G:α->β->Prop}:∀{l₁:List α} {l₂:List β},Paired F l₁ l₂->(∀a b,F a b->G a b)->Paired G l₁ l₂
 |_,_,.nil,_=> .nil
 |_,_,.cons r t,f=> .cons (f _ _ r) (Paired.mapP t f)
theorem dL.stay(x:dL P w H h a o)(k:∀b u,(b=a\/H b=some (.own a))->h.get? b=some u->h'.get? b=some u)
  (ho:∀b,H b=some (.own a)->H' b=some (.own a)) (ht:∀b xs,H b=some (.tup xs)->H' b=some (.tup xs)):dL P w H' h' a o:=by
 induction o with
 |lst xs=>obtain⟨z,its,n,r,e⟩:=x;exact⟨z,its,n,r,k _ _ (.inl rfl) e⟩
 |tup xs=>obtain⟨z,its,r,ob,e,c⟩:=x;exact⟨z,its,r,ob,k _ _ (.inl rfl) e,c⟩
 |dK kvs=>obtain⟨z,y,vs,r,ob,es,ep,e,c⟩:=x;exact⟨z,y,vs,r,ob,es,ep,k _ _ (.inl rfl) e,c⟩
 |dT kvs=>
  obtain⟨z,y,xs,r,ob,es,ep,e,c⟩:=x
  exact⟨z,y,xs,Paired.mapP r fun p q z=>⟨z.1,ht _ _ z.2.1,z.2.2⟩,ob,es,ep,k _ _ (.inl rfl) e,c⟩
 |set S n=>obtain⟨ob,es,ep,t,e,c⟩:=x;exact⟨ob,es,ep,t,k _ _ (.inl rfl) e,c⟩
 |ins C dx fs=>
  obtain⟨d,z,ne,e,mA,⟨od,es,ep,e2,c⟩,r⟩:=x
  exact⟨ho _ d,z,ne,k _ _ (.inl rfl) e,mA,⟨od,es,ep,k _ _ (.inr d) e2,c⟩,r⟩
 |own y=>obtain⟨ob,e⟩:=x;exact⟨ob,k _ _ (.inl rfl) e⟩
 |xd fs=>obtain⟨mA,⟨od,es,ep,e,c⟩,r⟩:=x;exact⟨mA,⟨od,es,ep,k _ _ (.inl rfl) e,c⟩,r⟩
 |rng lo hi=>obtain⟨t,u,v,e⟩:=x;exact⟨t,u,v,k _ _ (.inl rfl) e⟩
 |frz ob u ih=>obtain⟨e,q⟩:=x;exact⟨k _ _ (.inl rfl) e,ih q⟩
 |tbl ps=>
  have e:h.get? a=some {cls:= .none,data:= .fields ps}:=x
  show h'.get? a=some {cls:= .none,data:= .fields ps}
  exact k a _ (.inl rfl) e
 |met f y=>
  have e:h.get? a=some (PySem.W.methodObj (.ref f) (.ref y)):=x
  show h'.get? a=some (PySem.W.methodObj (.ref f) (.ref y))
  exact k a _ (.inl rfl) e
 |ext φ=>obtain⟨p,⟨o,e⟩,st⟩:=x;exact⟨st _ _ p fun o q=>k _ _ (.inl rfl) q,⟨o,k _ _ (.inl rfl) e⟩,st⟩
theorem HOk.lt(x:HOk P w H h)(e:H a=some o):a<h.objs.size:=(x a o e).lt
theorem HOk.fresh(x:HOk P w H h)(e:h.objs.size<=a):H a=none:=by
 cases q:H a with
 |none=>rfl
 |some u=>exact absurd (Zx (x.lt q) e) (Y3 _)
theorem HOk.kept(x:HOk P w H h)(k:∀b u,h.get? b=some u->h'.get? b=some u):HOk P w H h':=fun a o e=>
 (x a o e).stay (fun b u _ q=>k b u q) (fun _ q=>q) fun _ _ q=>q
theorem HOk.laid(x:HOk P w H h)(k:∀b u,h.get? b=some u->h'.get? b=some u)(hp:h.objs.size<=a)(new:dL P w (upd H a o) h' a o):HOk P w (upd H a o) h':=fun b u e=>by
 have hn:=x.fresh hp
 by_cases hb:b=a
 ·subst hb;rw [cX] at e;cases e;exact new
 ·rw [bK hb] at e
  exact(x b u e).stay (fun c v _ q=>k c v q) (fun c q=>by rw [bK (mG q hn)];exact q) fun c xs q=>by rw [bK (mG q hn)];exact q
end
def Rd(H:Hp)(a:Addr)(u:HO):Prop:=H a=some u\/∃o,H a=some (.frz o u)
theorem Rd.ok{P:Program}{w:World}{H:Hp}{h:Heap}{a:Addr}{u:HO}(r:Rd H a u)(x:HOk P w H h):dL P w H h a u:=by
 rcases r with r|⟨o,r⟩
 ·exact x a u r
 ·obtain⟨_,q⟩:=x a _ r
  exact q
def Mut:Option HO->Prop
 |some (.lst _)=>True
 |some (.dK _)=>True
 |some (.dT _)=>True
 |some (.set _ _)=>True
 |some (.ins _ _ _)=>True
 |some (.ext _)=>True
 |_=>False
section
variable{P:Program}{w:World}{H:Hp}{h h':Heap}{x e:Addr}{o':HO}
theorem HOk.write(ok:HOk P w H h)(mu:Mut (H x))(he:e=x\/H e=some (.own x))(k:∀b u,b≠e->h.get? b=some u->h'.get? b=some u)(heo:∃u,h'.get? e=some u)
  (new:dL P w (upd H x o') h' x o'):HOk P w (upd H x o') h':=fun b u q=>by
 have nown:∀c y,H c=some (.own y)->c≠x:=fun c y r z=>by subst z;rw [r] at mu;exact mu
 have ntup:∀c xs,H c=some (.tup xs)->c≠x:=fun c xs r z=>by subst z;rw [r] at mu;exact mu
 by_cases hb:b=x
 ·subst hb;rw [cX] at q;cases q;exact new
 ·rw [bK hb] at q
  by_cases hbe:b=e
  ·have q':H b=some (.own x):=by
    rcases he with z|z
    ·exact absurd (hbe.trans z) hb
    ·rw [hbe];exact z
   rw [q] at q';cases q'
   obtain⟨v,hv⟩:=heo
   exact⟨v,by rw [hbe];exact hv⟩
  ·refine(ok b u q).stay (fun c v hc r=>k c v ?_ r) (fun c r=>by rw [bK (nown c b r)];exact r) fun c xs r=>by rw [bK (ntup c xs r)];exact r
   rcases hc with rfl|hc
   ·exact hbe
   ·rintro rfl
    rcases he with z|z
    ·exact nown c b hc z
    ·rw [hc] at z;cases z;exact hb rfl
end
structure Un(fs ex:List Addr)(H H':Hp)(h h':Heap):Prop where
 keep:∀b o,h.get? b=some o->H b=none->b∉fs->b∉ex->h'.get? b=some o
 slot:∀b o,h.get? b=some o->H b=none->b∈fs->b∉ex->∃sl,h'.get? b=some {o with slots:=sl}
 free:∀b o,h.get? b=some o->H b=none->b∉ex->H' b=none
 there:∀b o,h.get? b=some o->b∉ex->∃o',h'.get? b=some o'
 tups:∀b xs,H b=some (.tup xs)->H' b=some (.tup xs)
 frzs:∀b o u,H b=some (.frz o u)->H' b=some (.frz o u)
 tbls:∀b ps,H b=some (.tbl ps)->∃more,H' b=some (.tbl (ps++more))
section
variable{fs fs' ex ex':List Addr}{H H1 H2:Hp}{h h1 h2 h':Heap}{a x e:Addr}{o:HO}
theorem Un.any(u:Un fs ex H H1 h h1){b:Addr}{ob:Obj}(q:h.get? b=some ob)(n:H b=none)(hx:b∉ex):∃sl,h1.get? b=some {ob with slots:=sl}:=by
 by_cases hb:b∈fs
 ·exact u.slot b ob q n hb hx
 ·exact⟨ob.slots,u.keep b ob q n hb hx⟩
theorem Un.trans(a:Un fs ex H H1 h h1)(b:Un fs ex H1 H2 h1 h2):Un fs ex H H2 h h2 where
 keep:=fun c ob q n hc hx=>b.keep c ob (a.keep c ob q n hc hx) (a.free c ob q n hx) hc hx
 slot:=fun c ob q n hc hx=>by
  obtain⟨sl,e1⟩:=a.slot c ob q n hc hx
  obtain⟨sl',e2⟩:=b.slot c _ e1 (a.free c ob q n hx) hc hx
  exact⟨sl',e2⟩
 free:=fun c ob q n hx=>by
  obtain⟨o',e1⟩:=a.there c ob q hx
  exact b.free c o' e1 (a.free c ob q n hx) hx
 there:=fun c ob q hx=>by
  obtain⟨o',e1⟩:=a.there c ob q hx
  exact b.there c o' e1 hx
 tups:=fun c xs q=>b.tups c xs (a.tups c xs q)
 frzs:=fun c ob xs q=>b.frzs c ob xs (a.frzs c ob xs q)
 tbls:=fun c ps q=>by
  obtain⟨m1,e1⟩:=a.tbls c ps q
  obtain⟨m2,e2⟩:=b.tbls c _ e1
  exact⟨m1++m2,by rw [e2,Wk]⟩
theorem Un.kept(k:∀b u,h.get? b=some u->h'.get? b=some u):Un fs ex H H h h':=
 ⟨fun b ob q _ _ _=>k b ob q,fun b ob q _ _ _=>⟨ob.slots,k b ob q⟩,fun _ _ _ n _=>n,fun b ob q _=>⟨ob,k b ob q⟩,fun _ _ q=>q,fun _ _ _ q=>q,fun _ ps q=>⟨#[],by rw [q];simp⟩⟩
theorem Un.refl:Un fs ex H H h h:=Un.kept fun _ _ q=>q
theorem Un.laid(k:∀b u,h.get? b=some u->h'.get? b=some u)(hp:h.objs.size<=a)(hn:H a=none):Un fs ex H (upd H a o) h h' where
 keep:=fun b u q _ _ _=>k b u q
 slot:=fun b u q _ _ _=>⟨u.slots,k b u q⟩
 free:=fun b u q n _=>by rw [bK (ZH (Zx (Zi q) hp))];exact n
 there:=fun b u q _=>⟨u,k b u q⟩
 tups:=fun b xs q=>by rw [bK (mG q hn)];exact q
 frzs:=fun b u xs q=>by rw [bK (mG q hn)];exact q
 tbls:=fun b ps q=>⟨#[],by rw [bK (mG q hn),q];simp⟩
theorem Un.write(mu:Mut (H x))(he:e=x\/H e=some (.own x))(k:∀b u,b≠e->h.get? b=some u->h'.get? b=some u)(heo:∃u,h'.get? e=some u):Un fs ex H (upd H x o) h h':=by
 have hx:∀b,H b=none->b≠x:=fun b n z=>by subst z;rw [n] at mu;exact mu
 have hb:∀b,H b=none->b≠e:=fun b n z=>by
  subst z
  rcases he with r|r
  ·exact hx b n r
  ·rw [n] at r;cases r
 have hm:∀b u,H b=some u->¬Mut (some u)->b≠x:=fun b u q nm z=>by subst z;rw [q] at mu;exact nm mu
 refine⟨fun b u q n _ _=>k b u (hb b n) q,fun b u q n _ _=>⟨u.slots,k b u (hb b n) q⟩,fun b u q n _=>by rw [bK (hx b n)];exact n,fun b u q _=> ?_,
  fun b xs q=>by rw [bK (hm b _ q fun z=>z)];exact q,fun b u xs q=>by rw [bK (hm b _ q fun z=>z)];exact q,fun b ps q=>⟨#[],by rw [bK (hm b _ q fun z=>z),q];simp⟩⟩
 by_cases hbe:b=e
 ·subst hbe;exact heo
 ·exact⟨u,k b u hbe q⟩
theorem Un.mono(u:Un fs ex H H1 h h1)(hs:∀b∈fs,b∈fs')(hx:∀b∈ex,b∈ex'):Un fs' ex' H H1 h h1:=
 ⟨fun b ob q n hb he=>u.keep b ob q n (fun z=>hb (hs b z)) fun z=>he (hx b z),fun _ _ q n _ he=>u.any q n fun z=>he (hx _ z),fun b ob q n he=>u.free b ob q n fun z=>he (hx b z),fun b ob q he=>u.there b ob q fun z=>he (hx b z),u.tups,u.frzs,u.tbls⟩
end
def trk(h:Heap)(H:Hp):List Addr:=(List.range h.objs.size).filter fun a=>(H a).isSome
def yD(h:Heap)(H:Hp):Heap:=PySem.W.hideAll h (trk h H)
theorem yz9(h:Heap)(H:Hp):(yD h H).objs.size=h.objs.size:=PySem.W.hideAll_size _ _
theorem xl5{h:Heap}{H:Hp}{b:Addr}{o:Obj}(e:h.get? b=some o)(n:H b=none):(yD h H).get? b=some o:=
 Yb _ e fun hm=>by
  have q:(H b).isSome=true:=(List.mem_filter.mp hm).2
  rw [n] at q;simp at q
theorem xw9{h:Heap}{H:Hp}{b:Addr}{o:Obj}(e:(yD h H).get? b=some o):h.get? b=some o/\H b=none:=by
 have e':h.get? b=some o:=Xg (trk h H) e
 refine⟨e',?_⟩
 cases q:H b with
 |none=>rfl
 |some x=>
  have hm:b∈trk h H:=List.mem_filter.mpr ⟨XD.mpr (Zi e'),by simp [q]⟩
  have z:(yD h H).get? b=none:=YD (trk h H) hm
  rw [z] at e;cases e
structure Mod(K:tz0)(mg:tzA)(base:Heap):Prop where
 kin:K.In base
 glob:base.Ns mainGlobals mg
 blt:∃mb,base.Ns builtinsNs mb/\∀x:Str,x≠"__name__"->mb x=bootBuiltins x
 nolimit:base.NoLimit
structure Cx where
 prog:Program
 w:World
 K:tz0
 mg:tzA
 base:Heap
 A:Around
 N:List Str
 s₀:Shared
 H₀:Hp
 env:Env
 outer:List Env
 stack:List Env
 ex:List Addr
 fn:Str->Bool
 calm:Bool
 pn:tzB
 xe:Value->Shared->Prop
def frs(l:List Env):List Addr:=l.filterMap (·.frame)
abbrev Cx.fs(X:Cx):List Addr:=frs X.outer
def Vis(sc:Scope)(x:Str):Prop:=sc.names.lookup x=some .local\/sc.names.lookup x=some .cell\/sc.names.lookup x=some .free
def Loc(sc:Scope)(x:Str):Prop:=sc.names.lookup x=some .local\/sc.names.lookup x=some .cell
def wk5(env:Env)(h:Heap)(m:tzA)(x:Str)(u:Value):Prop:=
 (env.kindOf x=some .local/\m x=some u)\/((env.kindOf x=some .cell\/env.kindOf x=some .free)/\∃c,env.cells.lookup x=some c/\h.IsCell c (some u))
structure Cx.Ok(X:Cx):Prop where
 mod:Mod X.K X.mg X.base
 kind:X.env.scope.kind= .function
 glob:X.env.globals=mainGlobals
 blt:X.env.builtins=builtinsNs
 above:X.s₀.heap.objs.size<=X.env.locals
 inj:∀x y c,X.env.cells.lookup x=some c->X.env.cells.lookup y=some c->x=y
 has:∀x,(X.env.kindOf x=some .cell\/X.env.kindOf x=some .free)->∃c,X.env.cells.lookup x=some c
 cab:∀x c,X.fn x=true->X.env.cells.lookup x=some c->X.s₀.heap.objs.size<=c
 hd:X.calm=true->X.A.handled=none
 frames:X.A.frames=some X.stack
 stk:X.stack=X.outer\/(X.stack=X.env::X.outer/\X.env.frame=some X.env.locals)
 exf:∀b∈X.ex,b≠X.env.locals/\∀x c,X.env.cells.lookup x=some c->c≠b
 bs:∀b o,X.base.get? b=some o->X.s₀.heap.get? b=some o/\X.H₀ b=none
 bsz:X.base.objs.size<=X.s₀.heap.objs.size
 noex:∀b o,X.base.get? b=some o->b∉X.ex
 exfs:∀b∈X.ex,b∉X.fs
 funs:X.s₀.heap.FunFrames X.base X.outer
 frf:∀b∈X.fs,X.H₀ b=none
structure Inv(X:Cx)(pins:tzB)(σ:List (Option V))(H:Hp)(s:Shared):Prop where
 ok:X.Ok
 os:s.os=X.s₀.os
 bare:AllBare s.gens
 base:Un X.fs X.ex X.H₀ H X.s₀.heap s.heap
 loc:∃m,s.heap.Ns X.env.locals m/\∀(i:Nat) (x:Str) (v:V),X.N[i]? =some x->σ[i]? =some (some v)->Vis X.env.scope x->∃u,cI v u/\wk5 X.env s.heap m x u
 cell:∀x c,X.env.cells.lookup x=some c->∃v,s.heap.IsCell c v
 free:H X.env.locals=none
 freeC:∀x c,X.env.cells.lookup x=some c->H c=none
 pin:∀p∈X.pn++pins,s.heap.get? p.1=some p.2/\H p.1=none/\p.1≠X.env.locals/\p.1∉X.fs/\∀v,p.2.data≠ .cell v
 hok:HOk X.prog X.w H s.heap
 len:σ.length=X.N.length
section
variable{X:Cx}{pins:tzB}{σ:List (Option V)}{H H':Hp}{s:Shared}{h':Heap}
theorem Cx.Ok.nofr(ok:X.Ok){b:Addr}{o:Obj}(e:X.base.get? b=some o):b∉X.fs:=fun hb=>by
 have:=(ok.funs.mem hb).1
 rw [e] at this;cases this
theorem Inv.bs(I:Inv X pins σ H s):∀b o,X.base.get? b=some o->s.heap.get? b=some o/\H b=none:=fun b o e=>
 ⟨I.base.keep b o (I.ok.bs b o e).1 (I.ok.bs b o e).2 (I.ok.nofr e) (I.ok.noex b o e),I.base.free b o (I.ok.bs b o e).1 (I.ok.bs b o e).2 (I.ok.noex b o e)⟩
theorem Inv.bk(I:Inv X pins σ H s):∀b o,X.base.get? b=some o->s.heap.get? b=some o:=fun b o e=>(I.bs b o e).1
theorem Inv.mod(I:Inv X pins σ H s):Mod X.K X.mg X.base:=I.ok.mod
theorem Inv.kIn(I:Inv X pins σ H s):X.K.In s.heap:=I.ok.mod.kin.keeps I.bk
theorem Inv.lt(I:Inv X pins σ H s):X.env.locals<s.heap.objs.size:=let ⟨_,hn,_⟩:=I.loc;hn.lt
theorem Inv.sz(I:Inv X pins σ H s):X.s₀.heap.objs.size<=s.heap.objs.size:=Zv I.ok.above (YG I.lt)
theorem Inv.nofs(I:Inv X pins σ H s){a:Addr}(h:s.heap.objs.size<=a):a∉X.fs:=fun hb=>by
 obtain⟨_,o,ho,_⟩:=I.ok.funs.mem hb
 exact absurd (Zx (Zi ho) (Zv I.sz h)) (Y3 _)
theorem Inv.cne(I:Inv X pins σ H s):∀x c,X.env.cells.lookup x=some c->c≠X.env.locals:=fun x c e z=>by
 obtain⟨v,o,ho,hd⟩:=I.cell x c e
 obtain⟨m,⟨o',es,ep,ho',hd',_⟩,_⟩:=I.loc
 rw [z,ho'] at ho;cases ho;rw [hd'] at hd;cases hd
theorem Inv.funs(I:Inv X pins σ H s):s.heap.FunFrames X.base X.outer:=by
 have all:∀(l:List Env),(∀b∈frs l,b∈X.fs)->X.s₀.heap.FunFrames X.base l->s.heap.FunFrames X.base l:=by
  intro l
  induction l with
  |nil=>intro _ _;trivial
  |cons env r ih=>
   intro hs hl
   obtain⟨hk,⟨L,o,hf,hn,ho,hd⟩,hr⟩:=hl
   have hL:L∈X.fs:=hs L (by unfold frs;rw [X7,hf];exact Z0)
   obtain⟨sl,e⟩:=I.base.slot L o ho (I.ok.frf L hL) hL fun z=>I.ok.exfs L z hL
   exact⟨hk,⟨L,_,hf,hn,e,hd⟩,ih (fun b hb=>hs b (by unfold frs;rw [X7,hf];exact Z1 _ hb)) hr⟩
 exact all X.outer (fun _ hb=>hb) I.ok.funs
theorem Inv.stack(I:Inv X pins σ H s):s.heap.FunFrames X.base X.stack:=by
 rcases I.ok.stk with e|⟨e,hf⟩
 ·rw [e];exact I.funs
 ·rw [e]
  obtain⟨m,hn,_⟩:=I.loc
  refine .cons (by rw [I.ok.kind];decide) hf hn ?_ I.funs
  exact Heap.get?_none_of_le (Zv I.ok.bsz I.ok.above)
theorem Inv.stkSub(I:Inv X pins σ H s):∀b∈frs X.stack,b∈X.env.locals::X.fs:=fun b hb=>by
 rcases I.ok.stk with e|⟨e,hf⟩
 ·rw [e] at hb;exact Z1 _ hb
 ·rw [e] at hb
  unfold frs at hb
  rw [X7,hf] at hb
  exact hb
theorem Inv.stkFree(I:Inv X pins σ H s):∀b∈frs X.stack,H b=none:=fun b hb=>by
 rcases Z2.mp (I.stkSub b hb) with e|hb
 ·rw [e];exact I.free
 ·obtain⟨_,o,ho,_⟩:=I.ok.funs.mem hb
  exact I.base.free b o ho (I.ok.frf b hb) fun z=>I.ok.exfs b z hb
theorem Inv.step{g':Array GenState}{t':Nat}{d':Drawn}{ch:List Addr}(I:Inv X pins σ H s)
  (hch:∀b∈ch,(b∈X.ex\/X.s₀.heap.objs.size<=b)/\b≠X.env.locals/\(∀x c,X.env.cells.lookup x=some c->c≠b)/\∀p∈X.pn++pins,p.1≠b)
  (keep:∀b o,b≠X.env.locals->b∉X.fs->b∉ch->s.heap.get? b=some o->H b=none->h'.get? b=some o)
  (slot:∀b o,b≠X.env.locals->b∈X.fs->b∉ch->s.heap.get? b=some o->H b=none->∃sl,h'.get? b=some {o with slots:=sl}) (free:∀b o,b∉ch->s.heap.get? b=some o->H b=none->H' b=none)
  (there:∀b o,b∉ch->s.heap.get? b=some o->∃o',h'.get? b=some o')
  (tups:∀b xs,H b=some (.tup xs)->H' b=some (.tup xs)) (frzs:∀b o u,H b=some (.frz o u)->H' b=some (.frz o u)) (tbls:∀b ps,H b=some (.tbl ps)->∃more,H' b=some (.tbl (ps++more)))
  (ns:∀m,s.heap.Ns X.env.locals m->h'.Ns X.env.locals m) (hok:HOk X.prog X.w H' h') (hg:AllBare g'):
  Inv X pins σ H' {s with heap:=h',gens:=g',drawn:=d',toks:=t'}:=by
 have neL:∀b o,X.s₀.heap.get? b=some o->b≠X.env.locals:=fun b o e=>ZH (Zx (Zi e) I.ok.above)
 have neC:∀b o,X.s₀.heap.get? b=some o->b∉X.ex->b∉ch:=fun b o e hx hb=>by
  rcases(hch b hb).1 with z|z
  ·exact hx z
  ·exact absurd (Zx (Zi e) z) (Y3 _)
 have cellK:∀x c,X.env.cells.lookup x=some c->∀v,s.heap.IsCell c v->h'.IsCell c v:=fun x c e v ⟨o,ho,hd⟩=>by
  have nch:c∉ch:=fun z=>(hch c z).2.2.1 x c e rfl
  by_cases hc:c∈X.fs
  ·obtain⟨sl,q⟩:=slot c o (I.cne x c e) hc nch ho (I.freeC x c e)
   exact⟨_,q,hd⟩
  ·exact⟨o,keep c o (I.cne x c e) hc nch ho (I.freeC x c e),hd⟩
 refine⟨I.ok,I.os,hg,⟨fun b o e n hb hx=> ?_,fun b o e n hb hx=> ?_,fun b o e n hx=> ?_,fun b o e hx=> ?_,fun b xs e=>tups b xs (I.base.tups b xs e),fun b o xs e=>frzs b o xs (I.base.frzs b o xs e),fun b ps e=> ?_⟩,?_,fun x c e=> ?_,?_,fun x c e=> ?_,fun p hp=> ?_,hok,I.len⟩
 ·exact keep b o (neL b o e) hb (neC b o e hx) (I.base.keep b o e n hb hx) (I.base.free b o e n hx)
 ·obtain⟨sl,e1⟩:=I.base.slot b o e n hb hx
  obtain⟨sl',e2⟩:=slot b _ (neL b o e) hb (neC b o e hx) e1 (I.base.free b o e n hx)
  exact⟨sl',e2⟩
 ·obtain⟨o',e1⟩:=I.base.there b o e hx
  exact free b o' (neC b o e hx) e1 (I.base.free b o e n hx)
 ·obtain⟨o',e1⟩:=I.base.there b o e hx
  exact there b o' (neC b o e hx) e1
 ·obtain⟨m1,e1⟩:=I.base.tbls b ps e
  obtain⟨m2,e2⟩:=tbls b _ e1
  exact⟨m1++m2,by rw [e2,Wk]⟩
 ·obtain⟨m,hn,hl⟩:=I.loc
  refine⟨m,ns m hn,fun i x v e1 e2 e3=> ?_⟩
  obtain⟨u,r,l⟩:=hl i x v e1 e2 e3
  refine⟨u,r,?_⟩
  rcases l with l|⟨k,c,e,z⟩
  ·exact .inl l
  ·exact .inr ⟨k,c,e,cellK x c e _ z⟩
 ·obtain⟨v,z⟩:=I.cell x c e
  exact⟨v,cellK x c e v z⟩
 ·obtain⟨m,⟨o,_,_,ho,_⟩,_⟩:=I.loc
  exact free _ o (fun z=>(hch _ z).2.1 rfl) ho I.free
 ·obtain⟨v,o,ho,hd⟩:=I.cell x c e
  exact free c o (fun z=>(hch c z).2.2.1 x c e rfl) ho (I.freeC x c e)
 ·obtain⟨e,n,ne,nf,d⟩:=I.pin p hp
  have nch:p.1∉ch:=fun z=>(hch p.1 z).2.2.2 p hp rfl
  exact⟨keep p.1 p.2 ne nf nch e n,free p.1 p.2 nch e n,ne,nf,d⟩
theorem Inv.un{t':Nat}(I:Inv X pins σ H s)(u:Un X.fs [] H H' s.heap h')(hok:HOk X.prog X.w H' h'):Inv X pins σ H' {s with heap:=h',toks:=t'}:=by
 obtain⟨m,⟨o,es,ep,ho,r⟩,_⟩:=id I.loc
 obtain⟨sl,hL⟩:=u.any ho I.free (by simp)
 exact I.step (g':=s.gens) (d':=s.drawn) (ch:=[]) (fun _ z=>nomatch z) (fun b o _ hb _ e n=>u.keep b o e n hb (by simp)) (fun b o _ hb _ e n=>u.slot b o e n hb (by simp)) (fun b o _ e n=>u.free b o e n (by simp)) (fun b o _ e=>u.there b o e (by simp)) u.tups u.frzs u.tbls (fun m' hm=>by
  obtain⟨o',es',ep',ho',r'⟩:=hm
  rw [ho] at ho';cases ho'
  exact⟨_,es',ep',hL,r'⟩) hok I.bare
theorem Inv.call{g':Array GenState}{t':Nat}{d':Drawn}{ch:List Addr}(I:Inv X pins σ H s)(u:Un (frs X.stack) ch H H' s.heap h')(hok:HOk X.prog X.w H' h')(hg:AllBare g')
  (hch:∀b∈ch,(b∈X.ex\/X.s₀.heap.objs.size<=b)/\b≠X.env.locals/\(∀x c,X.env.cells.lookup x=some c->c≠b)/\∀p∈X.pn++pins,p.1≠b):
  Inv X pins σ H' {s with heap:=h',gens:=g',drawn:=d',toks:=t'}:=by
 obtain⟨m,⟨o,es,ep,ho,r⟩,_⟩:=id I.loc
 obtain⟨sl,hL⟩:=u.any ho I.free fun z=>(hch _ z).2.1 rfl
 exact I.step (ch:=ch) hch (fun b o hL hb hc e n=>u.keep b o e n (fun z=>(Z2.mp (I.stkSub b z)).elim hL hb) hc) (fun b o _ _ hc e n=>u.any e n hc) (fun b o hc e n=>u.free b o e n hc) (fun b o hc e=>u.there b o e hc) u.tups u.frzs u.tbls (fun m' hm=>by
  obtain⟨o',es',ep',ho',r'⟩:=hm
  rw [ho] at ho';cases ho'
  exact⟨_,es',ep',hL,r'⟩) hok hg
theorem Inv.turned{t':Nat}{it:Addr}(I:Inv X pins σ H s)(k:∀b o,b≠it->s.heap.get? b=some o->h'.get? b=some o)(hn:H it=none)(hL:it≠X.env.locals)
  (h1:it∈X.ex\/X.s₀.heap.objs.size<=it) (h2:∀x c,X.env.cells.lookup x=some c->c≠it) (h3:∀p∈X.pn++pins,p.1≠it):Inv X pins σ H {s with heap:=h',toks:=t'}:=by
 have nit:∀b u,H b=some u->b≠it:=fun b u e z=>by rw [z,hn] at e;cases e
 refine I.step (g':=s.gens) (d':=s.drawn) (ch:=[it]) (fun b hb=> ?_) (fun b o _ _ hc e _=>k b o (fun z=>hc (by simp [z])) e) (fun b o _ _ hc e _=>⟨o.slots,k b o (fun z=>hc (by simp [z])) e⟩) (fun _ _ _ _ n=>n)
  (fun b o hc e=>⟨o,k b o (fun z=>hc (by simp [z])) e⟩) (fun _ _ e=>e) (fun _ _ _ e=>e) (fun b ps e=>⟨#[],by rw [e];simp⟩) (fun m hm=> ?_) (fun b u e=> ?_) I.bare
 ·have e:b=it:=by simpa using hb
  subst e
  exact⟨h1,hL,h2,h3⟩
 ·obtain⟨o,es,ep,ho,r⟩:=hm
  exact⟨o,es,ep,k _ o (Y7 hL) ho,r⟩
 ·refine(I.hok b u e).stay (fun c v hc q=>k c v ?_ q) (fun _ q=>q) fun _ _ q=>q
  rcases hc with z|z
  ·rw [z];exact nit b u e
  ·exact nit c _ z
theorem Inv.tok(I:Inv X pins σ H s)(t:Nat):Inv X pins σ H {s with toks:=t}:=I.un (h':=s.heap) (t':=t) Un.refl I.hok
theorem Inv.kept{t':Nat}(I:Inv X pins σ H s)(k:∀b u,s.heap.get? b=some u->h'.get? b=some u):Inv X pins σ H {s with heap:=h',toks:=t'}:=I.un (Un.kept k) (I.hok.kept k)
theorem Inv.laid{a:Addr}{o:HO}{t':Nat}(I:Inv X pins σ H s)(k:∀b u,s.heap.get? b=some u->h'.get? b=some u)(hp:s.heap.objs.size<=a)(new:dL X.prog X.w (upd H a o) h' a o):
  Inv X pins σ (upd H a o) {s with heap:=h',toks:=t'}:=I.un (Un.laid k hp (I.hok.fresh hp)) (I.hok.laid k hp new)
theorem Inv.write{x e:Addr}{o:HO}{t':Nat}(I:Inv X pins σ H s)(mu:Mut (H x))(he:e=x\/H e=some (.own x))(k:∀b u,b≠e->s.heap.get? b=some u->h'.get? b=some u)(heo:∃u,h'.get? e=some u)
  (new:dL X.prog X.w (upd H x o) h' x o):Inv X pins σ (upd H x o) {s with heap:=h',toks:=t'}:=I.un (Un.write mu he k heo) (I.hok.write mu he k heo new)
theorem Inv.pins_of{pins':tzB}(I:Inv X pins σ H s)(h:∀p∈pins',s.heap.get? p.1=some p.2/\H p.1=none/\p.1≠X.env.locals/\p.1∉X.fs/\∀v,p.2.data≠ .cell v):Inv X pins' σ H s:=
 ⟨I.ok,I.os,I.bare,I.base,I.loc,I.cell,I.free,I.freeC,fun p hp=>(Zk.mp hp).elim (fun z=>I.pin p (Zj _ z)) (h p),I.hok,I.len⟩
theorem yc8{N:List Str}(hN:N.Nodup){i j:Nat}{x:Str}(a:N[i]? =some x)(b:N[j]? =some x):i=j:=by
 obtain⟨h1,e1⟩:=Z4.mp a
 obtain⟨h2,e2⟩:=Z4.mp b
 exact(List.getElem_inj hN).mp (e1.trans e2.symm)
theorem xa0{M:Model}{A:Around}{E:Value->Shared->Prop}{i:Nat}{x:Str}{v:V}{u:Value}{Q:Unit->Shared->Prop}(I:Inv X pins σ H s)(hN:X.N.Nodup)(hi:X.N[i]? =some x)(hx:Loc X.env.scope x)(r:cI v u)
  (h:∀s',Inv X pins (σ.set i (some v)) H s'->(∃a,Heap.SameBut a s.heap s'.heap/\(a=X.env.locals\/X.env.cells.lookup x=some a))->Q () s') (hf:X.fn x=true\/X.env.scope.names.lookup x=some .local:=by first|exact .inl rfl|exact .inr rfl|assumption):wpAny M A (storeName X.env x u) Q E s:=by
 obtain⟨m,hn,hl⟩:=id I.loc
 have hcls:(X.env.scope.kind== .class||(X.env.scope.kind== .module&&X.env.locals !=X.env.globals))=false:=by rw [I.ok.kind];rfl
 have hiσ:i<σ.length:=by rw [I.len];exact(Z4.mp hi).1
 have cne:=I.cne
 have tracked:∀{a:Addr} {h':Heap},(∃o,s.heap.get? a=some o/\H a=none)->Heap.SameBut a s.heap h'->HOk X.prog X.w H h':=fun {a h'} ha hs b ob e=>by
  obtain⟨_,_,hfree⟩:=ha
  refine(I.hok b ob e).stay (fun c w' hc q=>(hs.2 c ?_).trans q) (fun _ q=>q) fun _ _ q=>q
  rintro rfl
  rcases hc with rfl|hc
  ·rw [hfree] at e;cases e
  ·rw [hfree] at hc;cases hc
 rcases hx with hk|hk
 ·refine wpAny_storeName_local hk hn (fun h' hn' hs=> ?_) hcls
  obtain⟨oL,_,_,hoL,_⟩:=id hn
  refine h _ ⟨I.ok,I.os,I.bare,⟨fun b o e n hb hx=> ?_,fun b o e n hb hx=> ?_,I.base.free,fun b o e hx=> ?_,I.base.tups,I.base.frzs,I.base.tbls⟩,⟨_,hn',fun j y v' e1 e2 e3=> ?_⟩,fun y c e=> ?_,I.free,I.freeC,fun p hp=> ?_,tracked ⟨oL,hoL,I.free⟩ hs,by simpa using I.len⟩ ⟨_,hs,.inl rfl⟩
  ·exact(hs.2 b (ZH (Zx (Zi e) I.ok.above))).trans (I.base.keep b o e n hb hx)
  ·obtain⟨sl,e1⟩:=I.base.slot b o e n hb hx
   exact⟨sl,(hs.2 b (ZH (Zx (Zi e) I.ok.above))).trans e1⟩
  ·obtain⟨o',e1⟩:=I.base.there b o e hx
   exact⟨o',(hs.2 b (ZH (Zx (Zi e) I.ok.above))).trans e1⟩
  ·by_cases hj:j=i
   ·subst hj
    rw [hi] at e1;cases e1
    rw [Zy hiσ] at e2
    cases e2
    exact⟨u,r,.inl ⟨hk,by simp⟩⟩
   ·rw [Zs (Y7 hj)] at e2
    obtain⟨u',r',q⟩:=hl j y v' e1 e2 e3
    refine⟨u',r',?_⟩
    rcases q with ⟨k,e⟩|⟨k,c,e,z⟩
    ·refine .inl ⟨k,?_⟩
     have:y≠x:=fun e=>hj (yc8 hN e1 (e▸hi))
     simp [this,e]
    ·exact .inr ⟨k,c,e,z.sameBut hs (cne y c e)⟩
  ·obtain⟨w',z⟩:=I.cell y c e
   exact⟨w',z.sameBut hs (cne y c e)⟩
  ·obtain⟨e,n,ne,nf,d⟩:=I.pin p hp
   exact⟨(hs.2 p.1 ne).trans e,n,ne,nf,d⟩
 ·have hfn:X.fn x=true:=by
   rcases hf with z|z
   ·exact z
   ·rw [z] at hk;cases hk
  obtain⟨c,hc⟩:=I.ok.has x (.inl hk)
  obtain⟨w',z⟩:=I.cell x c hc
  refine wpAny_storeName_cell I.ok.kind hk hc z (fun h' hc' hs=> ?_)
  obtain⟨oc,hoc,hocd⟩:=id z
  refine h {s with heap:=h'} ⟨I.ok,I.os,I.bare,⟨fun b o e n hb hx=> ?_,fun b o e n hb hx=> ?_,I.base.free,fun b o e hx=> ?_,I.base.tups,I.base.frzs,I.base.tbls⟩,⟨m,hn.sameBut hs (Y7 (cne x c hc)),fun j y v' e1 e2 e3=> ?_⟩,fun y c' e=> ?_,I.free,I.freeC,fun p hp=> ?_,tracked ⟨oc,hoc,I.freeC x c hc⟩ hs,by simpa using I.len⟩ ⟨c,hs,.inr hc⟩
  ·exact(hs.2 b (ZH (Zx (Zi e) (I.ok.cab x c hfn hc)))).trans (I.base.keep b o e n hb hx)
  ·obtain⟨sl,e1⟩:=I.base.slot b o e n hb hx
   exact⟨sl,(hs.2 b (ZH (Zx (Zi e) (I.ok.cab x c hfn hc)))).trans e1⟩
  ·obtain⟨o',e1⟩:=I.base.there b o e hx
   exact⟨o',(hs.2 b (ZH (Zx (Zi e) (I.ok.cab x c hfn hc)))).trans e1⟩
  ·by_cases hj:j=i
   ·subst hj
    rw [hi] at e1;cases e1
    rw [Zy hiσ] at e2
    cases e2
    exact⟨u,r,.inr ⟨.inl hk,c,hc,hc'⟩⟩
   ·rw [Zs (Y7 hj)] at e2
    obtain⟨u',r',q⟩:=hl j y v' e1 e2 e3
    refine⟨u',r',?_⟩
    rcases q with q|⟨k,c',e,z'⟩
    ·exact .inl q
    ·refine .inr ⟨k,c',e,z'.sameBut hs ?_⟩
     rintro rfl
     exact hj (yc8 hN e1 (I.ok.inj _ _ _ e hc▸hi))
  ·by_cases hcc:c'=c
   ·subst hcc;exact⟨_,hc'⟩
   ·obtain⟨w2,z2⟩:=I.cell y c' e
    exact⟨w2,z2.sameBut hs hcc⟩
  ·obtain⟨e,n,ne,nf,d⟩:=I.pin p hp
   refine⟨(hs.2 p.1 ?_).trans e,n,ne,nf,d⟩
   intro q
   rw [q,hoc] at e
   have q':oc=p.2:=ZB e
   exact d w' (by rw [<-q'];exact hocd)
theorem xD{M:Model}{A:Around}{E:Value->Shared->Prop}{i:Nat}{x:Str}{v:V}{u:Value}{Q:Unit->Shared->Prop}(I:Inv X pins σ H s)(hN:X.N.Nodup)(hi:X.N[i]? =some x)(hx:Loc X.env.scope x)(r:cI v u)
  (h:∀s',Inv X pins (σ.set i (some v)) H s'->Q () s') (hf:X.fn x=true\/X.env.scope.names.lookup x=some .local:=by first|exact .inl rfl|exact .inr rfl|assumption):wpAny M A (storeName X.env x u) Q E s:=
 xa0 I hN hi hx r (fun s' I' _=>h s' I') hf
theorem Inv.call'{s':Shared}{ch:List Addr}(I:Inv X pins σ H s)(ho:s'.os=s.os)(u:Un (frs X.stack) ch H H' s.heap s'.heap)(hok:HOk X.prog X.w H' s'.heap)(hg:AllBare s'.gens)
  (hch:∀b∈ch,(b∈X.ex\/X.s₀.heap.objs.size<=b)/\b≠X.env.locals/\(∀x c,X.env.cells.lookup x=some c->c≠b)/\∀p∈X.pn++pins,p.1≠b):Inv X pins σ H' s':=by
 obtain⟨h',g',d',t',o'⟩:=s'
 have e:o'=s.os:=ho
 subst e
 exact I.call (g':=g') (t':=t') (d':=d') u hok hg hch
end
abbrev XK:=Value->Option Addr->Hp->Prop
abbrev St:=List (Option V)
abbrev VK:=V->Hp->Prop
abbrev TE:=St->Hp->VK->Prop
abbrev TT:=St->Hp->(Bool->Hp->Prop)->Prop
abbrev TA:=St->Hp->(List V->Hp->Prop)->Prop
structure Ends where
 nx:St->Hp->Prop
 rt:VK
 bk:St->Hp->Prop:=fun _ _=>False
 ct:St->Hp->Prop:=fun _ _=>False
abbrev TS:=Ends->St->Hp->Prop
def EP(X:Cx)(pins:tzB)(σ:St)(Q:VK)(u:Value)(s':Shared):Prop:=∃v H',Inv X pins σ H' s'/\cI v u/\Q v H'
def TP(X:Cx)(pins:tzB)(σ:St)(Q:Bool->Hp->Prop)(b:Bool)(s':Shared):Prop:=∃H',Inv X pins σ H' s'/\Q b H'
def AP(X:Cx)(pins:tzB)(σ:St)(Q:List V->Hp->Prop)(us:List Value)(s':Shared):Prop:=∃vs H',Inv X pins σ H' s'/\bQ vs us/\Q vs H'
def SP(X:Cx)(pins:tzB)(D:Ends)(f:Flow)(s':Shared):Prop:=
 match f with
 | .next=>∃σ' H',Inv X pins σ' H' s'/\D.nx σ' H'
 | .brk=>∃σ' H',Inv X pins σ' H' s'/\D.bk σ' H'
 | .cont=>∃σ' H',Inv X pins σ' H' s'/\D.ct σ' H'
 | .ret u=>∃v σ' H',Inv X pins σ' H' s'/\cI v u/\D.rt v H'
def PEd(X:Cx)(e:Expr)(t:TE):Prop:=
 ∀(pins:tzB) (s:Shared) (σ:St) (H:Hp) (Q:VK),Inv X pins σ H s->t σ H Q->wpAny (model X.prog X.w) X.A (eval e X.env) (EP X pins σ Q) X.xe s
structure PE(X:Cx)(e:Expr)(t:TE):Prop where
 go:PEd X e t
instance {X:Cx} {e:Expr} {t:TE}:CoeFun (PE X e t) fun _=>PEd X e t:=⟨PE.go⟩
def PTd(X:Cx)(e:Expr)(t:TT):Prop:=
 ∀(pins:tzB) (s:Shared) (σ:St) (H:Hp) (Q:Bool->Hp->Prop),Inv X pins σ H s->t σ H Q->wpAny (model X.prog X.w) X.A (isTrue e X.env (eval e X.env)) (TP X pins σ Q) X.xe s
structure PT(X:Cx)(e:Expr)(t:TT):Prop where
 go:PTd X e t
instance {X:Cx} {e:Expr} {t:TT}:CoeFun (PT X e t) fun _=>PTd X e t:=⟨PT.go⟩
def PWd(X:Cx)(e:Expr)(t:TT):Prop:=
 ∀(whole:Sem Value) (pins:tzB) (s:Shared) (σ:St) (H:Hp) (Q:Bool->Hp->Prop),Inv X pins σ H s->t σ H Q->wpAny (model X.prog X.w) X.A (isTrue e X.env whole) (TP X pins σ Q) X.xe s
structure PW(X:Cx)(e:Expr)(t:TT):Prop where
 go:PWd X e t
instance {X:Cx} {e:Expr} {t:TT}:CoeFun (PW X e t) fun _=>PWd X e t:=⟨PW.go⟩
theorem PW.pt{X:Cx}{e:Expr}{t:TT}(h:PW X e t):PT X e t:=⟨h _⟩
def PAd(X:Cx)(es:List Expr)(t:TA):Prop:=
 ∀(pos:Pos) (pins:tzB) (s:Shared) (σ:St) (H:Hp) (Q:List V->Hp->Prop),Inv X pins σ H s->t σ H Q->wpAny (model X.prog X.w) X.A (spliced (backTo pos (starEach es X.env))) (AP X pins σ Q) X.xe s
structure PA(X:Cx)(es:List Expr)(t:TA):Prop where
 go:PAd X es t
instance {X:Cx} {es:List Expr} {t:TA}:CoeFun (PA X es t) fun _=>PAd X es t:=⟨PA.go⟩
def PSd(X:Cx)(st:Stmt)(t:TS):Prop:=
 ∀(pins:tzB) (s:Shared) (σ:St) (H:Hp) (D:Ends),Inv X pins σ H s->t D σ H->wpAny (model X.prog X.w) X.A (exec st X.env) (SP X pins D) X.xe s
structure PS(X:Cx)(st:Stmt)(t:TS):Prop where
 go:PSd X st t
instance {X:Cx} {st:Stmt} {t:TS}:CoeFun (PS X st t) fun _=>PSd X st t:=⟨PS.go⟩
def wk6(X:Cx)(st:List Stmt)(t:TS):Prop:=
 ∀(pins:tzB) (s:Shared) (σ:St) (H:Hp) (D:Ends),Inv X pins σ H s->t D σ H->wpAny (model X.prog X.w) X.A (execs st X.env) (SP X pins D) X.xe s
structure PSs(X:Cx)(st:List Stmt)(t:TS):Prop where
 go:wk6 X st t
instance {X:Cx} {st:List Stmt} {t:TS}:CoeFun (PSs X st t) fun _=>wk6 X st t:=⟨PSs.go⟩
theorem thn{α:Type}{t:Sem α}{Q Q':α->Shared->Prop}{M:Model}{A:Around}{E:Value->Shared->Prop}{s:Shared}(h:wpAny M A t Q E s)(hQ:∀a s,Q a s->Q' a s):wpAny M A t Q' E s:=ZO h hQ fun _ _ x=>x
section
variable{X:Cx}
def wk7(i:Nat):TE:=fun σ H Q=>∃v,σ[i]? =some (some v)/\Q v H
def tC(v:V):TE:=fun _ H Q=>Q v H
theorem qP{i:Nat}{x:Str}{pos:Pos}(hN:X.N[i]? =some x)(hv:Vis X.env.scope x)(hd:(x==("__debug__":Str))=false:=by decide)(hcd:(x==("__classdict__":Str))=false:=by decide):PE X (.Name x pos) (wk7 i):=⟨by
 intro pins s σ H Q I h
 obtain⟨v,e,h⟩:=h
 obtain⟨m,hn,hl⟩:=I.loc
 obtain⟨u,r,l⟩:=hl i x v hN e hv
 have fin:EP X pins σ Q u s:=⟨v,H,I,r,h⟩
 rcases l with ⟨hk,hm⟩|⟨hk,c,hc,hcell⟩
 ·exact Wa (wpAny_loadName_local I.ok.kind hk hn hm fin) hd
 ·rcases hk with hk|hk
  ·exact Wa (wpAny_loadName_cell I.ok.kind hk hc hcell fin) hd
  ·exact Wa (wpAny_loadName_free I.ok.kind hk hc hcell fin hcd) hd⟩
theorem iR{i j pos}:PE X (.Constant (.int i) j pos) (tC (.int i)):=⟨fun _ _ _ H _ I h=>wpAny_Constant_int ⟨.int i,H,I.tok _,⟨_,rfl⟩,h⟩⟩
theorem xu8{b j pos}:PE X (.Constant (.bool b) j pos) (tC (.bl b)):=⟨fun _ _ _ H _ I h=>Constant_bool ⟨.bl b,H,I,rfl,h⟩⟩
theorem xa1{j pos}:PE X (.Constant .none j pos) (tC .non):=⟨fun _ _ _ H _ I h=>Constant_none ⟨.non,H,I,rfl,h⟩⟩
theorem xa2{x j pos}:PE X (.Constant (.str x) j pos) (tC (.str x)):=⟨fun _ _ _ H _ I h=>Calls.Constant_str ⟨.str x,H,I.tok _,⟨_,rfl⟩,h⟩⟩
def Gl(X:Cx)(x:Str):Prop:=X.env.kindOf x=some .globalImplicit
theorem sY{E:Value->Shared->Prop}{pins:tzB}{s:Shared}{σ:St}{H:Hp}{x:Str}{u:Value}{pos:Pos}{Q:Value->Shared->Prop}(I:Inv X pins σ H s)(hg:Gl X x)(hm:X.mg x=some u)(h:Q u s)
  (hd:(x==("__debug__":Str))=false:=by decide):wpAny (model X.prog X.w) X.A (eval (.Name x pos) X.env) Q E s:=
 YT I.ok.kind hg (Ws (by rw [I.ok.glob];exact I.mod.glob.keeps I.bk) hm h) hd
theorem tR{E:Value->Shared->Prop}{pins:tzB}{s:Shared}{σ:St}{H:Hp}{x:Str}{u:Value}{pos:Pos}{Q:Value->Shared->Prop}(I:Inv X pins σ H s)(hg:Gl X x)(hm:X.mg x=none)(hv:bootBuiltins x=some u)(h:Q u s)
  (hn:x≠"__name__":=by decide) (hd:(x==("__debug__":Str))=false:=by decide):wpAny (model X.prog X.w) X.A (eval (.Name x pos) X.env) Q E s:=by
 obtain⟨mb,h1,h2⟩:=I.mod.blt
 exact YT I.ok.kind hg (Calls.loadGlobal_builtin (by rw [I.ok.glob];exact I.mod.glob.keeps I.bk) hm (by rw [I.ok.blt];exact h1.keeps I.bk) ((h2 x hn).trans hv) h) hd
theorem zc3{x:Str}{v:V}{u:Value}{pos:Pos}(hg:Gl X x)(hm:X.mg x=some u)(r:cI v u)(hd:(x==("__debug__":Str))=false:=by decide):PE X (.Name x pos) (tC v):=
 ⟨fun _ _ _ H _ I h=>sY I hg hm ⟨v,H,I,r,h⟩ hd⟩
theorem yn2{x:Str}{v:V}{u:Value}{pos:Pos}(hg:Gl X x)(hm:X.mg x=none)(hv:bootBuiltins x=some u)(r:cI v u)(hn:x≠"__name__":=by decide)(hd:(x==("__debug__":Str))=false:=by decide):PE X (.Name x pos) (tC v):=
 ⟨fun _ _ _ H _ I h=>tR I hg hm hv ⟨v,H,I,r,h⟩ hn hd⟩
variable{a b:Expr}{ta tb:TE}{pos:Pos}
def PC(X:Cx)(op:CmpOp)(a b:Expr)(t:TE):Prop:=
 ∀(pins:tzB) (s:Shared) (σ:St) (H:Hp) (Q:VK),Inv X pins σ H s->t σ H Q->
  wpAny (model X.prog X.w) X.A (eval a X.env) (fun v s₁=>wpAny (model X.prog X.w) X.A (eval b X.env) (fun u s₂=>wpAny (model X.prog X.w) X.A (compareOp op v u) (EP X pins σ Q) X.xe s₂) X.xe s₁) X.xe s
def tB(t:TE):TT:=fun σ H Q=>t σ H fun x H1=>∃c,x= .bl c/\Q c H1
theorem we3{op:CmpOp}{t:TE}(h:PC X op a b t)(h1:behindInMarks op b=false:=by first|exact nobehind _ (by decide) (by decide)|rfl):PT X (.Compare a [op] [b] pos) (tB t):=⟨by
 intro pins s σ H Q I hw
 refine wpAny_isTrue_Compare1 (thn (h pins s σ H _ I hw) fun v s1 h1=>thn h1 fun u s2 h2=>thn h2 fun c s3 ⟨x,H1,I1,r1,q1⟩=> ?_) h1
 obtain⟨d,rfl,q⟩:=q1
 cases r1
 exact ZY ⟨H1,I1,q⟩⟩
theorem xa3{e:Expr}{t:TE}(h:PE X e t)(he:∀whole,isTrue e X.env whole=(do let v<-whole;standAt e.pos;holding [v] (truthy v)):=by intro _;rfl):PT X e (tB t):=⟨by
 intro pins s σ H Q I hw
 refine isTrue_plain (thn (h pins s σ H _ I hw) fun v s1 ⟨x,H1,I1,r1,q1⟩=> ?_) (he _)
 obtain⟨d,rfl,q⟩:=q1
 cases r1
 exact ZY ⟨H1,I1,q⟩⟩
variable{tA tB':TT}{rest:List Expr}
def wt0(t u:TT):TT:=fun σ H Q=>t σ H fun c H1=>if c=true then u σ H1 Q else Q false H1
def tOr(t u:TT):TT:=fun σ H Q=>t σ H fun c H1=>if c=true then Q true H1 else u σ H1 Q
def wt1(t:TT):TT:=fun σ H Q=>t σ H fun c H1=>Q (!c) H1
theorem xx0(ha:PT X a tA):PW X (.BoolOp .And [a] pos) tA:=⟨by
 intro wh pins s σ H Q I h
 refine isTrue_and (thn (ha pins s σ H Q I h) fun c s1 e=> ?_)
 cases c with
 |true=>exact isTrue_and_nil e
 |false=>exact e⟩
theorem xa4(ha:PT X a tA):PW X (.BoolOp .Or [a] pos) tA:=⟨by
 intro wh pins s σ H Q I h
 refine isTrue_or (thn (ha pins s σ H Q I h) fun c s1 e=> ?_)
 cases c with
 |false=>exact isTrue_or_nil e
 |true=>exact e⟩
theorem we4(ha:PT X a tA)(hb:PW X (.BoolOp .And (b::rest) pos) tB'):PW X (.BoolOp .And (a::b::rest) pos) (wt0 tA tB'):=⟨by
 intro wh pins s σ H Q I h
 refine isTrue_and (thn (ha pins s σ H _ I h) fun c s1 ⟨H1,I1,q1⟩=> ?_)
 cases c with
 |true=>exact hb wh pins s1 σ H1 Q I1 q1
 |false=>exact⟨H1,I1,q1⟩⟩
theorem xu9(ha:PT X a tA)(hb:PW X (.BoolOp .Or (b::rest) pos) tB'):PW X (.BoolOp .Or (a::b::rest) pos) (tOr tA tB'):=⟨by
 intro wh pins s σ H Q I h
 refine isTrue_or (thn (ha pins s σ H _ I h) fun c s1 ⟨H1,I1,q1⟩=> ?_)
 cases c with
 |true=>exact⟨H1,I1,q1⟩
 |false=>exact hb wh pins s1 σ H1 Q I1 q1⟩
theorem yc9(ha:PT X a tA):PT X (.UnaryOp .Not a pos) (wt1 tA):=⟨by
 intro pins s σ H Q I h
 exact isTrue_not (ha pins s σ H (fun c H1=>Q (!c) H1) I h)⟩
def wq4(ta tb:TE):TE:=fun σ H Q=>ta σ H fun x H1=>∃c,x= .bl c/\if c=true then tb σ H1 Q else Q (.bl false) H1
def wt2(ta tb:TE):TE:=fun σ H Q=>ta σ H fun x H1=>∃c,x= .bl c/\if c=true then Q (.bl true) H1 else tb σ H1 Q
def wq5(ta:TE):TE:=fun σ H Q=>ta σ H fun x H1=>∃c,x= .bl c/\Q (.bl (!c)) H1
theorem we5{op}{t:TE}(h:PE X a t):PE X (.BoolOp op [a] pos) t:=⟨fun pins s σ H Q I hw=>BoolOp_one (h pins s σ H Q I hw)⟩
theorem we6(ha:PE X a ta)(hb:PE X (.BoolOp .And (b::rest) pos) tb):PE X (.BoolOp .And (a::b::rest) pos) (wq4 ta tb):=⟨by
 intro pins s σ H Q I h
 refine BoolOp_and (thn (ha pins s σ H _ I h) fun v s1 ⟨x,H1,I1,r1,q1⟩=> ?_)
 obtain⟨c,rfl,q1⟩:=q1
 cases r1
 refine ZY ?_
 cases c with
 |true=>exact hb pins s1 σ H1 Q I1 q1
 |false=>exact⟨.bl false,H1,I1,rfl,q1⟩⟩
theorem wn5(ha:PE X a ta)(hb:PE X (.BoolOp .Or (b::rest) pos) tb):PE X (.BoolOp .Or (a::b::rest) pos) (wt2 ta tb):=⟨by
 intro pins s σ H Q I h
 refine BoolOp_or (thn (ha pins s σ H _ I h) fun v s1 ⟨x,H1,I1,r1,q1⟩=> ?_)
 obtain⟨c,rfl,q1⟩:=q1
 cases r1
 refine ZY ?_
 cases c with
 |false=>exact hb pins s1 σ H1 Q I1 q1
 |true=>exact⟨.bl true,H1,I1,rfl,q1⟩⟩
theorem xa5(ha:PE X a ta):PE X (.UnaryOp .Not a pos) (wq5 ta):=⟨by
 intro pins s σ H Q I h
 refine UnaryOp_ (thn (ha pins s σ H _ I h) fun v s1 ⟨x,H1,I1,r1,q1⟩=> ?_)
 obtain⟨c,rfl,q1⟩:=q1
 cases r1
 exact not_of (ZY ⟨.bl (!c),H1,I1,rfl,q1⟩)⟩
end
def SqL(K:tz0)(H:Hp)(a:Addr)(xs:List V):Prop:=
 Rd H a (.lst xs)\/
  ∃(o:Obj) (its:Array Value) (n:Nat),K.lookup a=some o/\o.cls= .type "list"/\o.dict=none/\o.data= .seq its n/\its.size<=sizeLine/\bQ xs its.toList
def SqT(K:tz0)(H:Hp)(a:Addr)(xs:List V):Prop:=
 Rd H a (.tup xs)\/
  ∃(o:Obj) (its:Array Value) (n:Nat),K.lookup a=some o/\o.cls= .type "tuple"/\o.data= .seq its n/\its.size<=sizeLine/\bQ xs its.toList
def wt3:Value->Option V
 | .none=>some .non
 | .bool b=>some (.bl b)
 | .int i _=>some (.int i)
 | .str x _=>some (.str x)
 | .bytes b _=>some (.byt b)
 | .float b _=>some (.flt b)
 | .ref a=>some (.ref a)
 | .type n=>some (.ty n)
 |_=>none
theorem cI.abs{x:V}{u:Value}(r:cI x u):wt3 u=some x:=by
 cases x with
 |non=>cases r;rfl
 |bl _=>cases r;rfl
 |int _=>obtain⟨t,rfl⟩:=r;rfl
 |str _=>obtain⟨t,rfl⟩:=r;rfl
 |byt _=>obtain⟨t,rfl⟩:=r;rfl
 |flt _=>obtain⟨t,rfl⟩:=r;rfl
 |ref _=>cases r;rfl
 |ty _=>cases r;rfl
theorem cI.inj{x y:V}{u:Value}(r:cI x u)(q:cI y u):x=y:=ZB (r.abs.symm.trans q.abs)
theorem bQ.inj:∀{xs ys:List V} {us:List Value},bQ xs us->bQ ys us->xs=ys
 |_,_,_,.nil,.nil=>rfl
 |_,_,_,.cons r t,.cons r' t'=>by rw [r.inj r',bQ.inj t t']
section
variable{X:Cx}{pins:tzB}{σ:St}{H:Hp}{s:Shared}{a:Addr}{xs ys:List V}
theorem Inv.list(I:Inv X pins σ H s)(h:SqL X.K H a xs):∃its:List Value,bQ xs its/\PlainL s.heap a its.toArray/\xs.length<=sizeLine:=by
 rcases h with h|⟨o,its,n,hk,hc,hd,hs,hz,r⟩
 ·obtain⟨z,its,n,r,e⟩:=h.ok I.hok
  exact⟨its,r,⟨_,n,e,rfl,rfl,rfl⟩,z⟩
 ·refine⟨its.toList,r,⟨o,n,I.kIn a o hk,hc,hd,by simpa using hs⟩,?_⟩
  have e:=r.length
  simp only [ZS] at e
  omega
theorem Inv.tuple(I:Inv X pins σ H s)(h:SqT X.K H a xs):∃its:List Value,bQ xs its/\IsTup s.heap a its.toArray/\xs.length<=sizeLine:=by
 rcases h with h|⟨o,its,n,hk,hc,hs,hz,r⟩
 ·obtain⟨z,its,r,p⟩:=h.ok I.hok
  exact⟨its,r,p,z⟩
 ·refine⟨its.toList,r,⟨o,I.kIn a o hk,hc,n,by simpa using hs⟩,?_⟩
  have e:=r.length
  simp only [ZS] at e
  omega
theorem Inv.list_inj(I:Inv X pins σ H s)(h:SqL X.K H a xs)(h':SqL X.K H a ys):xs=ys:=by
 obtain⟨its,r,⟨o,n,e,_,_,d⟩,_⟩:=I.list h
 obtain⟨its',r',⟨o',n',e',_,_,d'⟩,_⟩:=I.list h'
 rw [e] at e';cases e'
 rw [d] at d'
 injection d' with d1 _
 have:its=its':=by simpa using ZK Array.toList d1
 subst this
 exact r.inj r'
theorem Inv.tuple_inj(I:Inv X pins σ H s)(h:SqT X.K H a xs)(h':SqT X.K H a ys):xs=ys:=by
 obtain⟨its,r,⟨o,e,_,n,d⟩,_⟩:=I.tuple h
 obtain⟨its',r',⟨o',e',_,n',d'⟩,_⟩:=I.tuple h'
 rw [e] at e';cases e'
 rw [d] at d'
 injection d' with d1 _
 have:its=its':=by simpa using ZK Array.toList d1
 subst this
 exact r.inj r'
end
abbrev Cx.wish(X:Cx)(E:Value->Shared->Prop):Cx:={X with xe:=E}
abbrev Cx.nox(X:Cx):Cx:=X.wish fun _ _=>False
theorem Cx.Ok.wish{X:Cx}(ok:X.Ok)(E:Value->Shared->Prop):(X.wish E).Ok:=
 ⟨ok.mod,ok.kind,ok.glob,ok.blt,ok.above,ok.inj,ok.has,ok.cab,ok.hd,ok.frames,ok.stk,ok.exf,ok.bs,ok.bsz,ok.noex,ok.exfs,ok.funs,ok.frf⟩
theorem Cx.Ok.unwish{X:Cx}{E:Value->Shared->Prop}(ok:(X.wish E).Ok):X.Ok:=
 ⟨ok.mod,ok.kind,ok.glob,ok.blt,ok.above,ok.inj,ok.has,ok.cab,ok.hd,ok.frames,ok.stk,ok.exf,ok.bs,ok.bsz,ok.noex,ok.exfs,ok.funs,ok.frf⟩
section
variable{X:Cx}{pins:tzB}{σ:St}{H:Hp}{s:Shared}{E:Value->Shared->Prop}
theorem Inv.wish(I:Inv X pins σ H s)(E:Value->Shared->Prop):Inv (X.wish E) pins σ H s:=⟨I.ok.wish E,I.os,I.bare,I.base,I.loc,I.cell,I.free,I.freeC,I.pin,I.hok,I.len⟩
theorem Inv.unwish(I:Inv (X.wish E) pins σ H s):Inv X pins σ H s:=⟨I.ok.unwish,I.os,I.bare,I.base,I.loc,I.cell,I.free,I.freeC,I.pin,I.hok,I.len⟩
theorem SP.unwish{D:Ends}{f:Flow}{s':Shared}(h:SP (X.wish E) pins D f s'):SP X pins D f s':=by
 cases f with
 |next=>obtain⟨σ',H',I,q⟩:=h;exact⟨σ',H',I.unwish,q⟩
 |brk=>obtain⟨σ',H',I,q⟩:=h;exact⟨σ',H',I.unwish,q⟩
 |cont=>obtain⟨σ',H',I,q⟩:=h;exact⟨σ',H',I.unwish,q⟩
 |ret u=>obtain⟨v,σ',H',I,r,q⟩:=h;exact⟨v,σ',H',I.unwish,r,q⟩
theorem PT.nox{e:Expr}{t:TT}(h:PT X.nox e t):PT X e t:=⟨fun pins s σ H Q I hw=>
 ZO (h pins s σ H Q (I.wish _) hw) (fun _ _ ⟨H',I',q⟩=>⟨H',I'.unwish,q⟩) fun _ _ z=>False.elim z⟩
theorem PSs.nox{st:List Stmt}{t:TS}(h:PSs X.nox st t):PSs X st t:=⟨fun pins s σ H D I hw=>
 ZO (h pins s σ H D (I.wish _) hw) (fun _ _ q=>q.unwish) fun _ _ z=>False.elim z⟩
end
section
variable{X:Cx}{st:Stmt}{rest:List Stmt}{t u:TS}{e:Expr}{te:TE}{pos:Pos}
def wq6:TS:=fun D σ H=>D.nx σ H
def wt4(t u:TS):TS:=fun D σ H=>t {D with nx:=u D} σ H
theorem zq2:PSs X [] wq6:=⟨fun _ _ σ H _ I h=>YN ⟨σ,H,I,h⟩⟩
theorem kD(h1:PS X st t)(h2:PSs X rest u):PSs X (st::rest) (wt4 t u):=⟨by
 intro pins s σ H D I h
 refine YH (thn (h1 pins s σ H {D with nx:=u D} I h) fun f s1 q=> ?_)
 cases f with
 |next=>
  obtain⟨σ',H',I',q⟩:=q
  exact h2 pins s1 σ' H' D I' q
 |ret v=>exact q
 |brk=>exact q
 |cont=>exact q⟩
theorem wE(h1:PS X st t):PSs X [st] t:=⟨by
 intro pins s σ H D I h
 refine YH (thn (h1 pins s σ H D I h) fun f s1 q=> ?_)
 cases f with
 |next=>exact YN q
 |ret v=>exact q
 |brk=>exact q
 |cont=>exact q⟩
theorem Inv.quiet{pins:tzB}{σ:St}{H:Hp}{s:Shared}(I:Inv X pins σ H s):interactive X.env=false:=by simp [interactive,I.ok.kind]
def wq7(te:TE):TS:=fun D σ H=>te σ H fun _ H1=>D.nx σ H1
theorem xx1(he:PE X e te)(hs:swapsWith e none pos.line X.env=pure false:=by rfl):PS X (.Expr e pos) (wq7 te):=⟨by
 intro pins s σ H D I h
 exact wpAny_Expr_any (thn (he pins s σ H _ I h) fun v s1 ⟨x,H1,I1,r1,q1⟩=>⟨σ,H1,I1,q1⟩) I.quiet hs⟩
def wt5(te:TE):TS:=fun D σ H=>te σ H D.rt
theorem wH(he:PE X e te):PS X (.Return (some e) pos) (wt5 te):=⟨by
 intro pins s σ H D I h
 exact wpAny_Return_some (thn (he pins s σ H _ I h) fun v s1 ⟨x,H1,I1,r1,q1⟩=>⟨x,σ,H1,I1,r1,q1⟩)⟩
def wt6(c:TT)(t u:TS):TS:=fun D σ H=>c σ H fun b H1=>if b=true then t D σ H1 else u D σ H1
theorem ya4{c:Expr}{a b:List Stmt}{tc:TT}(hc:PT X c tc)(ha:PSs X a t)(hb:PSs X b u):PS X (.If c a b pos) (wt6 tc t u):=⟨by
 intro pins s σ H D I h
 refine wpAny_If (thn (hc pins s σ H _ I h) fun d s1 ⟨H1,I1,q1⟩=> ?_)
 cases d with
 |true=>exact ha pins s1 σ H1 D I1 q1
 |false=>exact hb pins s1 σ H1 D I1 q1⟩
def wk8:TS:=fun _ _ _=>False
theorem xl6:PS X st wk8:=⟨fun _ _ _ _ _ _ h=>h.elim⟩
end
abbrev TG:=V->St->Hp->(St->Hp->Prop)->Prop
abbrev TGs:=List V->St->Hp->(St->Hp->Prop)->Prop
def PGd(X:Cx)(target:Expr)(t:TG):Prop:=
 ∀(pins:tzB) (s:Shared) (σ:St) (H:Hp) (v:V) (u:Value) (Q:St->Hp->Prop),Inv X pins σ H s->cI v u->t v σ H Q->
  wpAny (model X.prog X.w) X.A (assign target X.env u) (fun _ s'=>∃σ' H',Inv X pins σ' H' s'/\Q σ' H') X.xe s
structure PG(X:Cx)(target:Expr)(t:TG):Prop where
 go:PGd X target t
instance {X:Cx} {target:Expr} {t:TG}:CoeFun (PG X target t) fun _=>PGd X target t:=⟨PG.go⟩
def wk9(X:Cx)(ts:List Expr)(t:TGs):Prop:=
 ∀(pins:tzB) (s:Shared) (σ:St) (H:Hp) (vs:List V) (us:List Value) (Q:St->Hp->Prop),Inv X pins σ H s->bQ vs us->t vs σ H Q->
  wpAny (model X.prog X.w) X.A (assignInOrder ((assignEach ts X.env).map (·.2)) us) (fun _ s'=>∃σ' H',Inv X pins σ' H' s'/\Q σ' H') X.xe s
structure PGs(X:Cx)(ts:List Expr)(t:TGs):Prop where
 go:wk9 X ts t
instance {X:Cx} {ts:List Expr} {t:TGs}:CoeFun (PGs X ts t) fun _=>wk9 X ts t:=⟨PGs.go⟩
abbrev xt3:=V->V->V->Hp->(Hp->Prop)->Prop
def wl0(X:Cx)(t:xt3):Prop:=
 ∀(pins:tzB) (s:Shared) (σ:St) (H:Hp) (o i v:V) (ov iv u:Value) (Q:Hp->Prop),Inv X pins σ H s->cI o ov->cI i iv->cI v u->t o i v H Q->
  wpAny (model X.prog X.w) X.A (setItem ov iv u) (fun _ s'=>∃H',Inv X pins σ H' s'/\Q H') X.xe s
section
variable{X:Cx}{pos:Pos}
def yE(i:Nat):TG:=fun v σ H Q=>Q (σ.set i (some v)) H
theorem iA{i:Nat}{x:Str}(hN:X.N.Nodup)(hi:X.N[i]? =some x)(hx:Loc X.env.scope x)(hf:X.fn x=true\/X.env.scope.names.lookup x=some .local:=by first|exact .inl rfl|exact .inr rfl|assumption):PG X (.Name x pos) (yE i):=⟨by
 intro pins s σ H v u Q I r h
 exact wpAny_assign_Name (xD I hN hi hx r (fun s' I'=>⟨_,H,I',h⟩) hf)⟩
def wl1:TGs:=fun vs σ H Q=>vs=[]/\Q σ H
def xv9(t:TG)(u:TGs):TGs:=fun vs σ H Q=>∃v r,vs=v::r/\t v σ H fun σ' H'=>u r σ' H' Q
theorem yn3:PGs X [] wl1:=⟨by
 intro pins s σ H vs us Q I r h
 obtain⟨e,h⟩:=h
 subst e
 cases r
 exact assignInOrder_nil ⟨σ,H,I,h⟩⟩
theorem pK{e:Expr}{es:List Expr}{t:TG}{u:TGs}(h1:PG X e t)(h2:PGs X es u)
  (hs:(assignEach (e::es) X.env).map (·.2)=assign e X.env::(assignEach es X.env).map (·.2):=by rfl):PGs X (e::es) (xv9 t u):=⟨by
 intro pins s σ H vs us Q I r h
 obtain⟨v,vr,e1,h⟩:=h
 subst e1
 cases r with
 |cons r rr=>
  rw [hs]
  refine assignInOrder_cons (thn (h1 pins s σ H _ _ _ I r h) fun _ s1 ⟨σ1,H1,I1,q1⟩=> ?_)
  exact h2 pins s1 σ1 H1 _ _ Q I1 rr q1⟩
def xt4(K:tz0)(n:Nat)(t:TGs):TG:=fun v σ H Q=>∃a xs,v= .ref a/\SqT K H a xs/\xs.length=n/\t xs σ H Q
theorem we7{es:List Expr}{k:Nat}{t:TGs}{n:Nat}(hc:X.calm=true)(h:PGs X es t)
  (hn:(assignEach es X.env).length=n:=by rfl) (hst:(assignEach es X.env).findIdx? (·.1)=none:=by rfl):PG X (.Tuple es k pos) (xt4 X.K n t):=⟨by
 intro pins s σ H v u Q I r hw
 obtain⟨a,xs,e1,hq,hl,hw⟩:=hw
 subst e1
 cases r
 obtain⟨its,rv,ht,hz⟩:=I.tuple hq
 refine assign_Tuple_tuple (I.ok.hd hc) ht (by simp [hn,<-hl,rv.length]) hst fun h' hx=> ?_
 have I1:Inv X pins σ H {s with heap:=h'}:=I.kept (t':=s.toks) fun b o e=>hx b o (ZH (Zi e)) e
 exact h pins _ σ H xs _ Q I1 (by simpa using rv) hw⟩
def wt7(to ti:TE)(t:xt3):TG:=fun v σ H Q=>to σ H fun o H1=>ti σ H1 fun i H2=>t o i v H2 fun H3=>Q σ H3
theorem we8{o i:Expr}{to ti:TE}{t:xt3}(ho:PE X o to)(hi:PE X i ti)(hs:wl0 X t)
  (ha:∀v,assign (.Subscript o i pos) X.env v=(do
   let ov<-holding [v] (eval o X.env)
   let iv<-holding [v,ov] (eval i X.env)
   standAt pos
   holding [v,ov,iv] (setItem ov iv v)
   release [v,ov,iv] []):=by intro _;rfl):PG X (.Subscript o i pos) (wt7 to ti t):=⟨by
 intro pins s σ H v u Q I r h
 rw [ha]
 refine Ze (Ys (thn (ho pins s σ H _ I h) fun ov s1 ⟨x,H1,I1,r1,q1⟩=> ?_))
 refine Ze (Ys (thn (hi pins s1 σ H1 _ I1 q1) fun iv s2 ⟨y,H2,I2,r2,q2⟩=> ?_))
 refine Ze (Wl (Ze (Ys (thn (hs pins s2 σ H2 x y v ov iv u _ I2 r1 r2 r q2) fun _ s3 ⟨H3,I3,q3⟩=> ?_))))
 exact wpAny_release ⟨σ,H3,I3,q3⟩⟩
def wl2(te:TE)(g:TG):TS:=fun D σ H=>te σ H fun x H1=>g x σ H1 D.nx
theorem xa6{tg e:Expr}{te:TE}{g:TG}(he:PE X e te)(hg:PG X tg g)(hs:swapsWithSole [tg] e pos.line X.env=pure false:=by rfl)(hw:swappedStores [tg] e X.env=pure none:=by rfl)
  (h1:(assignEach [tg] X.env).map (·.2)=[assign tg X.env]:=by rfl):PS X (.Assign [tg] e pos) (wl2 te g):=⟨by
 intro pins s σ H D I h
 refine wpAny_Assign_stores (thn (he pins s σ H _ I h) fun v s1 ⟨x,H1,I1,r1,q1⟩=> ?_) hs hw
 rw [h1]
 exact thn (hg pins s1 σ H1 x v _ I1 r1 q1) fun _ s2 q=>q⟩
theorem tT{i:Nat}{x:Str}{e:Expr}{te:TE}{pos':Pos}(hN:X.N.Nodup)(hi:X.N[i]? =some x)(hx:Loc X.env.scope x)(he:PE X e te)(hs:swapsWith e (some (.Name x pos')) pos.line X.env=pure false:=by rfl)(hf:X.fn x=true\/X.env.scope.names.lookup x=some .local:=by first|exact .inl rfl|exact .inr rfl|assumption):
  PS X (.Assign [.Name x pos'] e pos) (wl2 te (yE i)):=⟨by
 intro pins s σ H D I h
 refine wpAny_Assign_Name (thn (he pins s σ H _ I h) fun v s1 ⟨y,H1,I1,r1,q1⟩=> ?_) hs
 exact xD I1 hN hi hx r1 (fun s2 I2=>⟨_,H1,I2,q1⟩) hf⟩
def wl3(c:TT)(tb:TS):TS:=fun D σ H=>∃W:Nat->St->Hp->Prop,(∃m,W m σ H)/\∀m σ H,W m σ H->
 c σ H fun b H1=>if b=true then ∃N:St->Hp->Prop,(∀σ' H',N σ' H'->∃m',m'<m/\W m' σ' H')/\tb {D with nx:=N,ct:=N,bk:=D.nx} σ H1 else D.nx σ H1
theorem xl7{c:Expr}{body:List Stmt}{tc:TT}{tb:TS}(hp:PassesOwn (model X.prog X.w) X.A X.env X.xe)(hc:PT X c tc)(hb:PSs X body tb):PS X (.While c body [] pos) (wl3 tc tb):=⟨by
 intro pins s σ H D I h
 obtain⟨W,⟨m0,w0⟩,turn⟩:=h
 refine wpAny_While (codeAny_whileLoop (fun n s'=>∃σ' H',Inv X pins σ' H' s'/\W n σ' H') ?_ m0 ⟨σ,H,I,w0⟩)
 rintro n s1 ⟨σ1,H1,I1,w1⟩
 refine Yj hp (thn (hc pins s1 σ1 H1 _ I1 (turn n σ1 H1 w1)) fun b s2 ⟨H2,I2,q2⟩=> ?_)
 cases b with
 | true=>
  obtain⟨N,hN,q2⟩:=q2
  rw [if_pos rfl]
  refine Yj hp (thn (hb pins s2 σ1 H2 _ I2 q2) fun f s3 q3=> ?_)
  cases f with
  |next=>
   obtain⟨σ3,H3,I3,n3⟩:=q3
   obtain⟨m',hm,w3⟩:=hN σ3 H3 n3
   exact⟨m',hm,σ3,H3,I3,w3⟩
  |cont=>
   obtain⟨σ3,H3,I3,n3⟩:=q3
   obtain⟨m',hm,w3⟩:=hN σ3 H3 n3
   exact⟨m',hm,σ3,H3,I3,w3⟩
  |brk=>exact q3
  |ret v=>exact q3
 |false=>
  rw [if_neg Zb]
  exact YN ⟨σ1,H2,I2,q2⟩⟩
end
structure It where
 go:Nat->Hp->Prop
 yld:Nat->Hp->V->Hp->Prop
 stop:Nat->Hp->Prop
def oM(X:Cx)(pins:tzB)(H:Hp)(b:Addr):Prop:=
 H b=none/\b≠X.env.locals/\b∉X.fs/\(b∈X.ex\/X.s₀.heap.objs.size<=b)/\(∀x c,X.env.cells.lookup x=some c->c≠b)/\∀p∈X.pn++pins,p.1≠b
theorem Inv.fpOk{X:Cx}{pins:tzB}{σ:St}{H H':Hp}{s:Shared}{b:Addr}(I:Inv X pins σ H s)(hb:s.heap.objs.size<=b)(hn:H' b=none):oM X pins H' b:=by
 refine⟨hn,XW (Zx I.lt hb),I.nofs hb,.inr (Zv I.sz hb),fun x c e z=> ?_,fun p hp z=> ?_⟩
 ·obtain⟨v,q⟩:=I.cell x c e
  exact absurd (Zx q.lt (by rw [z];exact hb)) (Y3 _)
 ·exact absurd (Zx (Zi (I.pin p hp).1) (by rw [z];exact hb)) (Y3 _)
structure Turn(P:Program)(w:World)(K:tz0)(tg:Expr)(J:It)(fp:List Addr)(it:Addr)(tn:Nat->Heap->Prop):Prop where
 mem:it∈fp
 obj:∀i h,tn i h->∀b∈fp,∃o,h.get? b=some o/\∀v,o.data≠ .cell v
 keep:∀i h h',tn i h->(∀b∈fp,∀o,h.get? b=some o->h'.get? b=some o)->tn i h'
 item:∀(X:Cx),X.prog=P->X.w=w->X.K=K->X.calm=true->∀(i:Nat) (pins:tzB) (s:Shared) (σ:St) (H:Hp) (E:Value->Shared->Prop),Inv X pins σ H s->(∀b∈fp,oM X pins H b)->tn i s.heap->J.go i H->
  wpAny (model P w) X.A (pyNext (.ref it)) (fun r s1=>∃u,r=some u/\
   wpAny (model P w) X.A (letOwnedTupleGo tg (.ref it) u) (fun _ s2=>∃x H',Inv X pins σ H' s2/\cI x u/\J.yld i H x H'/\tn (i+1) s2.heap/\∀b∈fp,H' b=none) E s1) E s
 done:∀(X:Cx),X.prog=P->X.w=w->X.K=K->X.calm=true->∀(i:Nat) (pins:tzB) (s:Shared) (σ:St) (H:Hp) (E:Value->Shared->Prop),Inv X pins σ H s->(∀b∈fp,oM X pins H b)->tn i s.heap->J.stop i H->
  wpAny (model P w) X.A (pyNext (.ref it)) (fun r s1=>r=none/\Inv X pins σ H s1) E s
 self:∀(A:Around) (i:Nat) (s:Shared) (Q:Value->Shared->Prop) (E:Value->Shared->Prop),tn i s.heap->Q (.ref it) s->wpAny (model P w) A (pyIter (.ref it)) Q E s
abbrev TI:=St->Hp->(It->Hp->Prop)->Prop
def PIE(X:Cx)(pins:tzB)(σ:St)(tg:Expr)(R:It->Hp->Prop)(itv:Value)(s2:Shared):Prop:=
 ∃(it:Addr) (fp:List Addr) (tn:Nat->Heap->Prop) (J:It) (H':Hp),itv= .ref it/\Inv X pins σ H' s2/\Turn X.prog X.w X.K tg J fp it tn/\tn 0 s2.heap/\(∀b∈fp,oM X pins H' b)/\R J H'
def PId(X:Cx)(tg iter:Expr)(wi:TI):Prop:=
 ∀(pins:tzB) (s:Shared) (σ:St) (H:Hp) (R:It->Hp->Prop),Inv X pins σ H s->wi σ H R->
  wpAny (model X.prog X.w) X.A (eval iter X.env) (fun v s1=>wpAny (model X.prog X.w) X.A (pyIter v) (PIE X pins σ tg R) X.xe s1) X.xe s
structure PI(X:Cx)(tg iter:Expr)(wi:TI):Prop where
 go:PId X tg iter wi
instance {X:Cx} {tg iter:Expr} {wi:TI}:CoeFun (PI X tg iter wi) fun _=>PId X tg iter wi:=⟨PI.go⟩
theorem ya5{M:Model}{A:Around}{E:Value->Shared->Prop}{s:Shared}{tg:Expr}{it:Addr}{u:Value}{o:Obj}{n:String}{vs:Array Value}{Q:Unit->Shared->Prop}(ho:s.heap.get? it=some o)(hc:o.cls= .type n)(hd:o.data= .fields vs)
  (hn:["enumerate","zip","dict_itemiterator","dict_reverseitemiterator","odict_iterator","itertools.zip_longest","itertools.pairwise"].contains n=false) (hQ:Q () s):wpAny M A (letOwnedTupleGo tg (.ref it) u) Q E s:=by
 unfold letOwnedTupleGo
 cases tg<;>first
  |exact ZG hQ
  | (cases u<;>first
    |exact ZG hQ
    | (refine Ze (wpAny_load ho ?_)
       rw [hc,hd]
       show wpAny M A (if (["enumerate","zip","dict_itemiterator","dict_reverseitemiterator","odict_iterator","itertools.zip_longest","itertools.pairwise"].contains n&&vs[0]? ==some (rawInt _))=true then _ else _) Q E s
       rw [if_neg (by intro h;rw [hn,XE] at h;cases h)]
       exact ZG hQ))
def Itl(K:tz0)(a:Addr):It:=
 ⟨fun i H=>∃xs x,SqL K H a xs/\xs[i]? =some x,fun i H x H'=>H'=H/\∀xs,SqL K H a xs->xs[i]? =some x,fun i H=>∃xs,SqL K H a xs/\xs.length<=i⟩
def Itt(K:tz0)(a:Addr):It:=
 ⟨fun i H=>∃xs x,SqT K H a xs/\xs[i]? =some x,fun i H x H'=>H'=H/\∀xs,SqT K H a xs->xs[i]? =some x,fun i H=>∃xs,SqT K H a xs/\xs.length<=i⟩
def Itr(lo:Int)(n:Nat):It:=⟨fun i _=>i<n,fun i H x H'=>H'=H/\x= .int (lo+i),fun i _=>n<=i⟩
theorem xa7{P:Program}{w:World}{K:tz0}{tg:Expr}(a it:Addr):Turn P w K tg (Itl K a) [it] it (fun i h=>h.IsListIter it a i) where
 mem:=by simp
 obj:=fun i h st b hb=>by
  have e:b=it:=by simpa using hb
  subst e
  obtain⟨o,e,c,d⟩:=st
  exact⟨o,e,fun v z=>by rw [d] at z;cases z⟩
 keep:=fun i h h' st k=>st.at fun o e=>k it (by simp) o e
 item:=by
  intro X hP hw hK hc i pins s σ H E I hf st hg
  subst hP hw hK
  obtain⟨xs,x,hq,hx⟩:=hg
  obtain⟨its,rv,p,hz⟩:=I.list hq
  obtain⟨u,hu,ru⟩:=rv.get hx
  obtain⟨f0,f1,f2,f3,f4,f5⟩:=hf it (by simp)
  refine wpAny_pyNext_list_item st p.isList (x:=u) (by simpa using hu) fun h' st' sb=> ?_
  have I1:Inv X pins σ H {s with heap:=h'}:=I.turned (t':=s.toks) (fun b o hb e=>(sb.2 b hb).trans e) f0 f1 f3 f4 f5
  obtain⟨o,e,c,d⟩:=id st'
  exact⟨u,rfl,ya5 (s:={s with heap:=h'}) e c d (by decide) ⟨x,H,I1,ru,⟨rfl,fun ys hy=>by rw [I.list_inj hy hq];exact hx⟩,st',fun b hb=>(hf b hb).1⟩⟩
 done:=by
  intro X hP hw hK hc i pins s σ H E I hf st hg
  subst hP hw hK
  obtain⟨xs,hq,hx⟩:=hg
  obtain⟨its,rv,p,hz⟩:=I.list hq
  obtain⟨f0,f1,f2,f3,f4,f5⟩:=hf it (by simp)
  have hl:=rv.length
  exact wpAny_pyNext_list_end (I.ok.hd hc) st p.isList (by simp;omega) fun h' eb=>⟨rfl,I.turned (t':=s.toks) (fun b o hb e=>eb b o hb e) f0 f1 f3 f4 f5⟩
 self:=fun _ _ _ _ _ st h=>wpAny_pyIter_listiter st h
theorem ys7{P:Program}{w:World}{K:tz0}{tg:Expr}(a it:Addr):Turn P w K tg (Itt K a) [it] it (fun i h=>h.IsTupleIter it a i) where
 mem:=by simp
 obj:=fun i h st b hb=>by
  have e:b=it:=by simpa using hb
  subst e
  obtain⟨o,e,c,d⟩:=st
  exact⟨o,e,fun v z=>by rw [d] at z;cases z⟩
 keep:=fun i h h' st k=>st.at fun o e=>k it (by simp) o e
 item:=by
  intro X hP hw hK hc i pins s σ H E I hf st hg
  subst hP hw hK
  obtain⟨xs,x,hq,hx⟩:=hg
  obtain⟨its,rv,p,hz⟩:=I.tuple hq
  obtain⟨u,hu,ru⟩:=rv.get hx
  obtain⟨f0,f1,f2,f3,f4,f5⟩:=hf it (by simp)
  refine wpAny_pyNext_tuple_item st (show s.heap.IsTuple a its.toArray from p) (x:=u) (by simpa using hu) fun h' st' sb=> ?_
  have I1:Inv X pins σ H {s with heap:=h'}:=I.turned (t':=s.toks) (fun b o hb e=>(sb.2 b hb).trans e) f0 f1 f3 f4 f5
  obtain⟨o,e,c,d⟩:=id st'
  exact⟨u,rfl,ya5 (s:={s with heap:=h'}) e c d (by decide) ⟨x,H,I1,ru,⟨rfl,fun ys hy=>by rw [I.tuple_inj hy hq];exact hx⟩,st',fun b hb=>(hf b hb).1⟩⟩
 done:=by
  intro X hP hw hK hc i pins s σ H E I hf st hg
  subst hP hw hK
  obtain⟨xs,hq,hx⟩:=hg
  obtain⟨its,rv,p,hz⟩:=I.tuple hq
  obtain⟨f0,f1,f2,f3,f4,f5⟩:=hf it (by simp)
  have hl:=rv.length
  exact wpAny_pyNext_tuple_end (I.ok.hd hc) st (show s.heap.IsTuple a its.toArray from p) (by simp;omega) fun h' eb=>⟨rfl,I.turned (t':=s.toks) (fun b o hb e=>eb b o hb e) f0 f1 f3 f4 f5⟩
 self:=fun _ _ _ _ _ st h=>wpAny_pyIter_tupleiter st h
theorem ys8{P:Program}{w:World}{K:tz0}{tg:Expr}(it:Addr)(lo:Int)(n:Nat):Turn P w K tg (Itr lo n) [it] it (fun i h=>IsRangeIter h it (lo+(i:Nat)*1) ((n:Int)-(i:Nat)) 1) where
 mem:=by simp
 obj:=fun i h st b hb=>by
  have e:b=it:=by simpa using hb
  subst e
  exact⟨_,st,fun v z=>by
   have z':Data.fields _=Data.cell v:=z
   cases z'⟩
 keep:=fun i h h' st k=>k it (by simp) _ st
 item:=by
  intro X hP hw hK hc i pins s σ H E I hf st hg
  subst hP hw hK
  obtain⟨f0,f1,f2,f3,f4,f5⟩:=hf it (by simp)
  have W:=Walks.range (prog:=X.prog) (w:=X.w) (I.ok.hd hc) it lo 1 n
  refine W.item i s _ _ hg st fun v h' tk hv st' kk=> ?_
  obtain⟨t,rfl⟩:=hv
  have I1:Inv X pins σ H {s with heap:=h',toks:=tk}:=I.turned (fun b o hb e=>kk b o (by simpa using hb) e) f0 f1 f3 f4 f5
  refine⟨_,rfl,ya5 (s:={s with heap:=h',toks:=tk}) (n:="range_iterator") st' rfl rfl (by decide) ⟨.int (lo+i),H,I1,⟨t,?_⟩,⟨rfl,rfl⟩,st',fun b hb=>(hf b hb).1⟩⟩
  rw [Int.mul_one]
 done:=by
  intro X hP hw hK hc i pins s σ H E I hf st hg
  subst hP hw hK
  obtain⟨f0,f1,f2,f3,f4,f5⟩:=hf it (by simp)
  exact wpAny_pyNext_range_end (I.ok.hd hc) st (by have:n<=i:=hg;omega) fun h' eb=>⟨rfl,I.turned (t':=s.toks) (fun b o hb e=>eb b o hb e) f0 f1 f3 f4 f5⟩
 self:=fun _ _ _ _ _ st h=>wpAny_pyIter_rangeiter st h
section
variable{X:Cx}{tg:Expr}
theorem yd0{pins:tzB}{σ:St}{H:Hp}{s:Shared}{R:It->Hp->Prop}{E:Value->Shared->Prop}{lo hi:Int}{t u v:Tok}{tk:Nat}(I:Inv X pins σ H s)(h1: -(2^62)<=lo)(h2:lo<2^62)(h3: -(2^62)<=hi)(h4:hi<2^62)
  (q:R (Itr lo (hi-lo).toNat) H):wpAny (model X.prog X.w) X.A (pyIter (.ref s.heap.objs.size)) (PIE X pins σ tg R) E {s with heap:=s.heap.push {cls:= .type "range",data:= .fields #[.int lo t,.int hi u,.int 1 v]},toks:=tk}:=by
 refine wpAny_pyIter_range (IsRange.new ..) (small_one h1 h2 h3 h4) ?_
 have I1:Inv X pins σ H {s with heap:=s.heap.push {cls:= .type "range",data:= .fields #[.int lo t,.int hi u,.int 1 v]},toks:=tk}:=I.kept fun b o e=>Zf _ e
 refine⟨(s.heap.push {cls:= .type "range",data:= .fields #[.int lo t,.int hi u,.int 1 v]}).objs.size,[(s.heap.push {cls:= .type "range",data:= .fields #[.int lo t,.int hi u,.int 1 v]}).objs.size],_,_,H,rfl,
  I1.kept (t':=tk) fun b o e=>Zf _ e,ys8 _ lo (hi-lo).toNat,?_,fun b hb=> ?_,q⟩
 ·have e1:lo+((0:Nat):Int)*1=lo:=by simp
  have e2:(((hi-lo).toNat:Nat):Int)-((0:Nat):Int)=Builtin.Range.rangeSize lo hi 1:=by rw [rangeSize_one];split<;>omega
  show IsRangeIter _ _ (lo+((0:Nat):Int)*1) ((((hi-lo).toNat:Nat):Int)-((0:Nat):Int)) 1
  rw [e1,e2]
  exact Zw _ rfl
 ·have e:b=(s.heap.push {cls:= .type "range",data:= .fields #[.int lo t,.int hi u,.int 1 v]}).objs.size:=by simpa using hb
  subst e
  exact I1.fpOk (Zc _) (I1.hok.fresh (Zc _))
def wq8(ta:TA):TI:=fun σ H R=>ta σ H fun vs H1=>∃j:Int,vs=[.int j]/\ -(2^62)<=j/\j<2^62/\R (Itr 0 j.toNat) H1
def wq9(ta:TA):TI:=fun σ H R=>ta σ H fun vs H1=>∃i j:Int,vs=[.int i,.int j]/\(-(2^62)<=i/\i<2^62/\ -(2^62)<=j/\j<2^62)/\R (Itr i (j-i).toNat) H1
theorem xa8{a:Expr}{ta:TA}{p pos:Pos}(hg:Gl X "range")(hm:X.mg "range"=none)(ha:PA X [a] ta)(hs:starEach [a] X.env=[(false,eval a X.env)]:=by rfl):PI X tg (.Call (.Name "range" p) [a] [] pos) (wq8 ta):=⟨by
 intro pins s σ H R I h
 refine Call_ (tR I hg hm boot_range (Yi (thn (ha pos pins s σ H _ I h) fun us s1 ⟨vs,H1,I1,r1,q1⟩=> ?_) hs rfl))
 obtain⟨j,e,q1,q2,q⟩:=q1
 subst e
 cases r1 with
 |cons r rr=>
  cases rr
  obtain⟨t,rfl⟩:=r
  exact call_range_1 (yd0 I1 (by omega) (by omega) q1 q2 (by simpa using q))⟩
theorem xa9{a b:Expr}{ta:TA}{p pos:Pos}(hg:Gl X "range")(hm:X.mg "range"=none)(ha:PA X [a,b] ta)(hs:starEach [a,b] X.env=[(false,eval a X.env),(false,eval b X.env)]:=by rfl)(hs2:starEach [b] X.env=[(false,eval b X.env)]:=by rfl):
  PI X tg (.Call (.Name "range" p) [a,b] [] pos) (wq9 ta):=⟨by
 intro pins s σ H R I h
 refine Call_ (tR I hg hm boot_range (Yi (thn (ha pos pins s σ H _ I h) fun us s1 ⟨vs,H1,I1,r1,q1⟩=> ?_) (by rw [hs,hs2]) (by rw [hs2];rfl)))
 obtain⟨i,j,e,⟨q1,q2,q3,q4⟩,q⟩:=q1
 subst e
 cases r1 with
 | cons r rr=>
  cases rr with
  |cons r' rr=>
   cases rr
   obtain⟨t,rfl⟩:=r
   obtain⟨t',rfl⟩:=r'
   exact call_range_2 (yd0 I1 q1 q2 q3 q4 q)⟩
def wt8(wi:TI)(g:TG)(tb:TS):TS:=fun D σ H=>wi σ H fun J H1=>∃W:Nat->Nat->St->Hp->Prop,(∃m,W 0 m σ H1)/\∀i m σ H,W i m σ H->
 (J.stop i H/\D.nx σ H)\/(J.go i H/\∃N:St->Hp->Prop,(∀σ' H',N σ' H'->∃m',m'<m/\W (i+1) m' σ' H')/\∀x H',J.yld i H x H'->g x σ H' fun σ2 H2=>tb {D with nx:=N,ct:=N,bk:=D.nx} σ2 H2)
def wV(fp:List Addr)(h:Heap):tzB:=fp.filterMap fun b=>(h.get? b).map fun o=>(b,o)
theorem sG{fp:List Addr}{h:Heap}{b:Addr}{o:Obj}(hb:b∈fp)(e:h.get? b=some o):(b,o)∈wV fp h:=YI.mpr ⟨b,hb,by rw [e];rfl⟩
theorem xb0{fp:List Addr}{h:Heap}{p:Addr×Obj}(hp:p∈wV fp h):p.1∈fp/\h.get? p.1=some p.2:=by
 obtain⟨b,hb,e⟩:=YI.mp hp
 cases q:h.get? b with
 |none=>rw [q] at e;cases e
 |some o=>
  rw [q] at e
  have e':(b,o)=p:=ZB e
  subst e'
  exact⟨hb,q⟩
theorem Inv.pinned{pins:tzB}{σ:St}{H:Hp}{s:Shared}{fp:List Addr}(I:Inv X pins σ H s)(hf:∀b∈fp,oM X pins H b)(ho:∀b∈fp,∃o,s.heap.get? b=some o/\∀v,o.data≠ .cell v):Inv X (pins++wV fp s.heap) σ H s:=
 I.pins_of fun p hp=>(Zk.mp hp).elim (fun z=>I.pin p (Z7 _ z)) fun z=>by
  obtain⟨hb,e⟩:=xb0 z
  obtain⟨f0,f1,f2,_⟩:=hf p.1 hb
  obtain⟨o,e',d⟩:=ho p.1 hb
  rw [e] at e';cases e'
  exact⟨e,f0,f1,f2,d⟩
theorem Inv.unpinned{pins pl:tzB}{σ:St}{H:Hp}{s:Shared}(I:Inv X (pins++pl) σ H s):Inv X pins σ H s:=I.pins_of fun p hp=>I.pin p (Z7 _ (Zj _ hp))
theorem yd1{iter:Expr}{body:List Stmt}{wi:TI}{g:TG}{tb:TS}{pos:Pos}(hp:PassesOwn (model X.prog X.w) X.A X.env X.xe)(hc:X.calm=true)(hi:PI X tg iter wi)(hg:PG X tg g)(hb:PSs X body tb)
  (hs:∀x,foldedSetIterable iter X.env x=pure x:=by intro _;rfl):PS X (.For tg iter body [] pos) (wt8 wi g tb):=⟨by
 intro pins s σ H D I h
 refine wpAny_For (thn (hi pins s σ H _ I h) fun v s1 h1=>thn h1 fun itv s2 h2=> ?_) hs
 obtain⟨it,fp,tn,J,H2,e,I2,T,st2,f2,W,⟨m0,w0⟩,turn⟩:=h2
 subst e
 have stat:∀{H':Hp},(∀b∈fp,H' b=none)->∀b∈fp,oM X pins H' b:=fun hn b hb=>⟨hn b hb,(f2 b hb).2⟩
 refine codeAny_forLoop_any (fun n s'=>∃i σ' H',Inv X pins σ' H' s'/\tn i s'.heap/\(∀b∈fp,H' b=none)/\W i n σ' H') ?_ m0 ⟨0,σ,H2,I2,st2,fun b hb=>(f2 b hb).1,w0⟩
 rintro n s3 ⟨i,σ3,H3,I3,st3,fr3,w3⟩
 rcases turn i n σ3 H3 w3 with ⟨stop,qn⟩|⟨go,N,hN,step⟩
 ·refine Yj hp (thn (T.done X rfl rfl rfl hc i pins s3 σ3 H3 X.xe I3 (stat fr3) st3 stop) fun r s4 ⟨hr,I4⟩=> ?_)
  subst hr
  exact YN ⟨σ3,H3,I4,qn⟩
 ·refine Yj hp (thn (T.item X rfl rfl rfl hc i pins s3 σ3 H3 X.xe I3 (stat fr3) st3 go) fun r s4 ⟨u,hr,h4⟩=> ?_)
  subst hr
  refine Yj hp (thn h4 fun _ s5 ⟨x,H5,I5,r5,y5,st5,fr5⟩=> ?_)
  have I5':=I5.pinned (stat fr5) (T.obj _ _ st5)
  refine Yj hp (thn (hg _ s5 σ3 H5 x u _ I5' r5 (step x H5 y5)) fun _ s6 ⟨σ6,H6,I6,q6⟩=> ?_)
  refine Yj hp (thn (hb _ s6 σ6 H6 _ I6 q6) fun f s7 q7=> ?_)
  have again:∀{σ7:St} {H7:Hp},Inv X (pins++wV fp s5.heap) σ7 H7 s7->N σ7 H7->∃m,m<n/\∃i σ' H',Inv X pins σ' H' s7/\tn i s7.heap/\(∀b∈fp,H' b=none)/\W i m σ' H':=fun {σ7 H7} I7 n7=>by
   obtain⟨m',hm,w7⟩:=hN σ7 H7 n7
   refine⟨m',hm,i+1,σ7,H7,I7.unpinned,T.keep _ _ _ st5 fun b hb o e=>(I7.pin (b,o) (Z7 _ (Z7 _ (sG hb e)))).1,fun b hb=> ?_,w7⟩
   obtain⟨o,e,d⟩:=T.obj _ _ st5 b hb
   exact(I7.pin (b,o) (Z7 _ (Z7 _ (sG hb e)))).2.1
  cases f with
  |next=>obtain⟨σ7,H7,I7,n7⟩:=q7;exact again I7 n7
  |cont=>obtain⟨σ7,H7,I7,n7⟩:=q7;exact again I7 n7
  |brk=>obtain⟨σ7,H7,I7,q7⟩:=q7;exact⟨σ7,H7,I7.unpinned,q7⟩
  |ret v=>obtain⟨x7,σ7,H7,I7,r7,q7⟩:=q7;exact⟨x7,σ7,H7,I7.unpinned,r7,q7⟩⟩
end
abbrev R2:=V->V->Hp->VK->Prop
def wl4(X:Cx)(f:Value->Value->Sem Value)(r:R2):Prop:=
 ∀(pins:tzB) (s:Shared) (σ:St) (H:Hp) (x y:V) (v u:Value) (Q:VK),Inv X pins σ H s->cI x v->cI y u->r x y H Q->
  wpAny (model X.prog X.w) X.A (f v u) (EP X pins σ Q) X.xe s
structure OpR(X:Cx)(f:Value->Value->Sem Value)(r:R2):Prop where
 go:wl4 X f r
instance {X:Cx} {f:Value->Value->Sem Value} {r:R2}:CoeFun (OpR X f r) fun _=>wl4 X f r:=⟨OpR.go⟩
def UnR(X:Cx)(f:Value->Sem Value)(r:V->Hp->VK->Prop):Prop:=
 ∀(pins:tzB) (s:Shared) (σ:St) (H:Hp) (x:V) (v:Value) (Q:VK),Inv X pins σ H s->cI x v->r x H Q->
  wpAny (model X.prog X.w) X.A (f v) (EP X pins σ Q) X.xe s
def xl2(X:Cx)(f:Value)(r:List V->Hp->VK->Prop):Prop:=
 ∀(pins:tzB) (s:Shared) (σ:St) (H:Hp) (xs:List V) (us:List Value) (Q:VK),Inv X pins σ H s->bQ xs us->r xs H Q->
  wpAny (model X.prog X.w) X.A (call f us) (EP X pins σ Q) X.xe s
structure CallR(X:Cx)(f:Value)(r:List V->Hp->VK->Prop):Prop where
 go:xl2 X f r
instance {X:Cx} {f:Value} {r:List V->Hp->VK->Prop}:CoeFun (CallR X f r) fun _=>xl2 X f r:=⟨CallR.go⟩
def wt9(X:Cx)(r:V->Hp->(Bool->Hp->Prop)->Prop):Prop:=
 ∀(pins:tzB) (s:Shared) (σ:St) (H:Hp) (x:V) (v:Value) (Q:Bool->Hp->Prop),Inv X pins σ H s->cI x v->r x H Q->
  wpAny (model X.prog X.w) X.A (truthy v) (TP X pins σ Q) X.xe s
def tOp(r:R2)(ta tb:TE):TE:=fun σ H Q=>ta σ H fun x H1=>tb σ H1 fun y H2=>r x y H2 Q
def tUn(r:V->Hp->VK->Prop)(ta:TE):TE:=fun σ H Q=>ta σ H fun x H1=>r x H1 Q
def rI(C:Int->Int->Prop)(g:Int->Int->V):R2:=fun x y H Q=>∃i j,x= .int i/\y= .int j/\C i j/\Q (g i j) H
def rI0(g:Int->Int->V):R2:=fun x y H Q=>∃i j,x= .int i/\y= .int j/\Q (g i j) H
def rU(g:Int->V):V->Hp->VK->Prop:=fun x H Q=>∃i,x= .int i/\Q (g i) H
section
variable{X:Cx}{a b c:Expr}{ta tb tc:TE}{pos:Pos}
theorem xl8(ha:PE X a ta)(hb:PE X b tb){pins:tzB}{s:Shared}{σ:St}{H:Hp}{R:V->V->Hp->Prop}(I:Inv X pins σ H s)
  (h:ta σ H fun x H1=>tb σ H1 fun y H2=>R x y H2) {Q:Value->Shared->Prop} {f:Value->Value->Sem Value}
  (hf:∀v u s2 x y H2,Inv X pins σ H2 s2->cI x v->cI y u->R x y H2->wpAny (model X.prog X.w) X.A (f v u) Q X.xe s2):
  wpAny (model X.prog X.w) X.A (eval a X.env) (fun v s₁=>wpAny (model X.prog X.w) X.A (eval b X.env) (fun u s₂=>wpAny (model X.prog X.w) X.A (f v u) Q X.xe s₂) X.xe s₁) X.xe s:=by
 refine thn (ha pins s σ H _ I h) fun v s1 ⟨x,H1,I1,r1,q1⟩=> ?_
 refine thn (hb pins s1 σ H1 _ I1 q1) fun u s2 ⟨y,H2,I2,r2,q2⟩=> ?_
 exact hf v u s2 x y H2 I2 r1 r2 q2
theorem gL{op:Operator}{r:R2}(ho:OpR X (binaryOp op) r)(ha:PE X a ta)(hb:PE X b tb):PE X (.BinOp a op b pos) (tOp r ta tb):=⟨by
 intro pins s σ H Q I h
 exact wpAny_BinOp (xl8 ha hb I h fun v u s2 x y H2 I2 rx ry q=>ho pins s2 σ H2 x y v u Q I2 rx ry q)⟩
theorem wn6{op:UnaryOp}{r:V->Hp->VK->Prop}(ho:UnR X (unaryOp op) r)(ha:PE X a ta):PE X (.UnaryOp op a pos) (tUn r ta):=⟨by
 intro pins s σ H Q I h
 exact UnaryOp_ (thn (ha pins s σ H _ I h) fun v s1 ⟨x,H1,I1,r1,q1⟩=>ho pins s1 σ H1 x v Q I1 r1 q1)⟩
theorem opI{f:Value->Value->Sem Value}{C:Int->Int->Prop}{g:Int->Int->Int}
  (rule:∀(i j:Int) (t u:Tok) (s:Shared) (Q:Value->Shared->Prop) (E:Value->Shared->Prop),C i j->Q (.int (g i j) s.toks) {s with toks:=s.toks+1}->wpAny (model X.prog X.w) X.A (f (.int i t) (.int j u)) Q E s):
  OpR X f (rI C fun i j=> .int (g i j)):=⟨by
 intro pins s σ H x y v u Q I rx ry h
 obtain⟨i,j,rfl,rfl,hc,q⟩:=h
 obtain⟨t,rfl⟩:=rx
 obtain⟨t',rfl⟩:=ry
 exact rule i j t t' s _ _ hc ⟨.int (g i j),H,I.tok _,⟨_,rfl⟩,q⟩⟩
theorem xl9{f:Value->Value->Sem Value}{g:Int->Int->Int}
  (rule:∀(i j:Int) (t u:Tok) (s:Shared) (Q:Value->Shared->Prop) (E:Value->Shared->Prop),Q (.int (g i j) s.toks) {s with toks:=s.toks+1}->wpAny (model X.prog X.w) X.A (f (.int i t) (.int j u)) Q E s):
  OpR X f (rI0 fun i j=> .int (g i j)):=⟨by
 intro pins s σ H x y v u Q I rx ry h
 obtain⟨i,j,rfl,rfl,q⟩:=h
 obtain⟨t,rfl⟩:=rx
 obtain⟨t',rfl⟩:=ry
 exact rule i j t t' s _ _ ⟨.int (g i j),H,I.tok _,⟨_,rfl⟩,q⟩⟩
theorem ys9{f:Value->Value->Sem Value}{g:Int->Int->Bool}
  (rule:∀(i j:Int) (t u:Tok) (s:Shared) (Q:Value->Shared->Prop) (E:Value->Shared->Prop),Q (.bool (g i j)) s->wpAny (model X.prog X.w) X.A (f (.int i t) (.int j u)) Q E s):
  OpR X f (rI0 fun i j=> .bl (g i j)):=⟨by
 intro pins s σ H x y v u Q I rx ry h
 obtain⟨i,j,rfl,rfl,q⟩:=h
 obtain⟨t,rfl⟩:=rx
 obtain⟨t',rfl⟩:=ry
 exact rule i j t t' s _ _ ⟨.bl (g i j),H,I,rfl,q⟩⟩
def wu0(i j:Int):Prop:=0<j/\j<1073741824
def xt5(i j:Int):Prop:=(-(2^64)<i/\i<2^64)\/(-(2^64)<j/\j<2^64)
theorem xt5.ok{i j:Int}(h:xt5 i j):IntMulOk i j:=by
 rcases h with ⟨h1,h2⟩|⟨h1,h2⟩
 ·exact .of_left (intBits_le_64 h1 h2)
 ·exact .of_right (intBits_le_64 h1 h2)
theorem yt0(k:Nat):(0:Int)<=2^k:=by
 rw [two_pow_cast]
 exact Int.natCast_nonneg _
theorem wI:OpR X (binaryOp .Add) (rI0 fun i j=> .int (i+j)):=xl9 fun _ _ _ _ _ _ _ q=>add_int q
theorem we9:OpR X (binaryOp .Sub) (rI0 fun i j=> .int (i-j)):=xl9 fun _ _ _ _ _ _ _ q=>sub_int q
theorem nZ:OpR X (binaryOp .Mult) (rI xt5 fun i j=> .int (i*j)):=opI fun _ _ _ _ _ _ _ hc q=>mul_int q hc.ok
theorem yn4:OpR X (binaryOp .FloorDiv) (rI wu0 fun i j=> .int (i/j)):=opI fun i j _ _ _ _ _ hc q=>by
 have h1:(0:Int)<j:=hc.1
 have h2:j<1073741824:=hc.2
 exact floordiv_int (by omega) (by rw [XF i (by omega)];exact q) (.inl (PyProof.noPylong_small (by omega)))
theorem zj3:OpR X (binaryOp .Mod) (rI (fun _ j=>0<j) fun i j=> .int (i % j)):=opI fun i j _ _ _ _ _ hc q=>by
 have h1:(0:Int)<j:=hc
 exact mod_int' (by omega) (by rw [Int.fmod_eq_emod_of_nonneg i (by omega)];exact q)
theorem wf0:OpR X (binaryOp .RShift) (rI (fun _ j=>0<=j) fun i j=> .int (i/2^j.toNat)):=opI fun i j _ _ _ _ _ hc q=>
 rshift_int hc (by rw [XF i (yt0 _)];exact q)
theorem xb1:OpR X (binaryOp .BitAnd) (rI0 fun i j=> .int (Builtin.bitAnd i j)):=xl9 fun _ _ _ _ _ _ _ q=>and_int q
theorem unI{f:Value->Sem Value}{g:Int->Int}
  (rule:∀(i:Int) (t:Tok) (s:Shared) (Q:Value->Shared->Prop) (E:Value->Shared->Prop),Q (.int (g i) s.toks) {s with toks:=s.toks+1}->wpAny (model X.prog X.w) X.A (f (.int i t)) Q E s):
  UnR X f (rU fun i=> .int (g i)):=by
 intro pins s σ H x v Q I rx h
 obtain⟨i,rfl,q⟩:=h
 obtain⟨t,rfl⟩:=rx
 exact rule i t s _ _ ⟨.int (g i),H,I.tok _,⟨_,rfl⟩,q⟩
theorem wf1:UnR X (unaryOp .USub) (rU fun i=> .int (-i)):=unI fun _ _ _ _ _ q=>neg_int q
end
def wl5:V->V->Bool
 | .non,.non=>true| .non,.int _=>true| .int _,.non=>true| .non,.bl _=>true| .bl _,.non=>true| .non,.str _=>true| .str _,.non=>true
 | .int _,.int _=>true| .bl _,.bl _=>true| .str _,.str _=>true| .byt _,.byt _=>true
 | .int _,.str _=>true| .str _,.int _=>true| .bl _,.str _=>true| .str _,.bl _=>true
 |_,_=>false
def rEq:R2:=fun x y H Q=>wl5 x y=true/\Q (.bl (decide (x=y))) H
def rNe:R2:=fun x y H Q=>wl5 x y=true/\Q (.bl (!decide (x=y))) H
theorem yn5{i j:Int}:decide (V.int i=V.int j)=(i==j):=by
 rw [Yl]
 simp
theorem xb2{i j:Bool}:decide (V.bl i=V.bl j)=(i==j):=by
 rw [Yl]
 simp
theorem yn6{i j:Str}:decide (V.str i=V.str j)=(i==j):=by
 rw [Yl]
 simp
theorem yn7{i j:Array UInt8}:decide (V.byt i=V.byt j)=(i.toList==j.toList):=by
 rw [Yl]
 cases i
 cases j
 simp
section
variable{X:Cx}{a b c:Expr}{ta tb tc:TE}{pos:Pos}
theorem dI{pins:tzB}{σ:St}{H:Hp}{s:Shared}{Q:VK}{k k':Bool}(I:Inv X pins σ H s)(q:Q (.bl k) H)(e:k=k'):EP X pins σ Q (.bool k') s:=by
 subst e
 exact⟨.bl k,H,I,rfl,q⟩
theorem yt1:OpR X (compareOp .Eq) rEq:=⟨by
 intro pins s σ H x y v u Q I rx ry h
 obtain⟨hs,q⟩:=h
 cases x with
 |non=>
  cases rx
  cases y with
  |non=>cases ry;exact PySem.EqNone.eq_none_none (dI I q (by simp))
  |bl j=>cases ry;exact PySem.EqNone.eq_none_bool (dI I q (by simp))
  |int j=>obtain⟨t',rfl⟩:=ry;exact PySem.EqNone.eq_none_int (dI I q (by simp))
  |str j=>obtain⟨t',rfl⟩:=ry;exact PySem.EqNone.eq_none_str (dI I q (by simp))
  |_=>exact absurd (show false=true from hs) Zb
 |bl i=>
  cases rx
  cases y with
  |non=>cases ry;exact PySem.EqNone.eq_bool_none (dI I q (by simp))
  |bl j=>cases ry;exact eq_bool (dI I q xb2)
  |str j=>obtain⟨t',rfl⟩:=ry;exact PySem.EqMixed.eq_bool_str (dI I q (by simp))
  |_=>exact absurd (show false=true from hs) Zb
 |int i=>
  obtain⟨t,rfl⟩:=rx
  cases y with
  |non=>cases ry;exact PySem.EqNone.eq_int_none (dI I q (by simp))
  |int j=>obtain⟨t',rfl⟩:=ry;exact eq_int (dI I q yn5)
  |str j=>obtain⟨t',rfl⟩:=ry;exact PySem.EqMixed.eq_int_str (dI I q (by simp))
  |_=>exact absurd (show false=true from hs) Zb
 |str i=>
  obtain⟨t,rfl⟩:=rx
  cases y with
  |non=>cases ry;exact PySem.EqNone.eq_str_none (dI I q (by simp))
  |bl j=>cases ry;exact PySem.EqMixed.eq_str_bool (dI I q (by simp))
  |int j=>obtain⟨t',rfl⟩:=ry;exact PySem.EqMixed.eq_str_int (dI I q (by simp))
  |str j=>obtain⟨t',rfl⟩:=ry;exact eq_str (dI I q yn6)
  |_=>exact absurd (show false=true from hs) Zb
 |byt i=>
  obtain⟨t,rfl⟩:=rx
  cases y with
  |byt j=>obtain⟨t',rfl⟩:=ry;exact PySem.W.eq_bytes (dI I q yn7)
  |_=>exact absurd (show false=true from hs) Zb
 |_=>cases y<;>exact absurd (show false=true from hs) Zb⟩
theorem xv0:OpR X (compareOp .NotEq) rNe:=⟨by
 intro pins s σ H x y v u Q I rx ry h
 obtain⟨hs,q⟩:=h
 cases x with
 |non=>
  cases rx
  cases y with
  |non=>cases ry;exact PySem.EqNone.ne_none_none (dI I q (by simp))
  |bl j=>cases ry;exact PySem.EqNone.ne_none_bool (dI I q (by simp))
  |int j=>obtain⟨t',rfl⟩:=ry;exact PySem.EqNone.ne_none_int (dI I q (by simp))
  |str j=>obtain⟨t',rfl⟩:=ry;exact PySem.EqNone.ne_none_str (dI I q (by simp))
  |_=>exact absurd (show false=true from hs) Zb
 |bl i=>
  cases rx
  cases y with
  |non=>cases ry;exact PySem.EqNone.ne_bool_none (dI I q (by simp))
  |bl j=>cases ry;exact ne_bool (dI I q (ZK not xb2))
  |str j=>obtain⟨t',rfl⟩:=ry;exact PySem.EqMixed.ne_bool_str (dI I q (by simp))
  |_=>exact absurd (show false=true from hs) Zb
 |int i=>
  obtain⟨t,rfl⟩:=rx
  cases y with
  |non=>cases ry;exact PySem.EqNone.ne_int_none (dI I q (by simp))
  |int j=>obtain⟨t',rfl⟩:=ry;exact ne_int (dI I q (ZK not yn5))
  |str j=>obtain⟨t',rfl⟩:=ry;exact PySem.EqMixed.ne_int_str (dI I q (by simp))
  |_=>exact absurd (show false=true from hs) Zb
 |str i=>
  obtain⟨t,rfl⟩:=rx
  cases y with
  |non=>cases ry;exact PySem.EqNone.ne_str_none (dI I q (by simp))
  |bl j=>cases ry;exact PySem.EqMixed.ne_str_bool (dI I q (by simp))
  |int j=>obtain⟨t',rfl⟩:=ry;exact PySem.EqMixed.ne_str_int (dI I q (by simp))
  |str j=>obtain⟨t',rfl⟩:=ry;exact ne_str (dI I q (ZK not yn6))
  |_=>exact absurd (show false=true from hs) Zb
 |byt i=>
  obtain⟨t,rfl⟩:=rx
  cases y with
  |byt j=>obtain⟨t',rfl⟩:=ry;exact PySem.W.ne_bytes (dI I q (ZK not yn7))
  |_=>exact absurd (show false=true from hs) Zb
 |_=>cases y<;>exact absurd (show false=true from hs) Zb⟩
theorem wn7:OpR X (compareOp .Lt) (rI0 fun i j=> .bl (decide (i<j))):=ys9 fun _ _ _ _ _ _ _ q=>lt_int q
theorem wn8:OpR X (compareOp .LtE) (rI0 fun i j=> .bl (decide (i<=j))):=ys9 fun _ _ _ _ _ _ _ q=>le_int q
theorem wn9:OpR X (compareOp .Gt) (rI0 fun i j=> .bl (decide (j<i))):=ys9 fun _ _ _ _ _ _ _ q=>gt_int q
theorem wo0:OpR X (compareOp .GtE) (rI0 fun i j=> .bl (decide (j<=i))):=ys9 fun _ _ _ _ _ _ _ q=>ge_int q
theorem wf2:OpR X (compareOp .Is) (fun x y H Q=>y= .non/\Q (.bl (decide (x= .non))) H):=⟨by
 intro pins s σ H x y v u Q I rx ry h
 obtain⟨rfl,q⟩:=h
 cases ry
 refine is_none_gen (dI I q ?_)
 cases x<;>first
  |(cases rx;rfl)
  |(obtain⟨t,rfl⟩:=rx;rfl)⟩
theorem xx2:OpR X (compareOp .IsNot) (fun x y H Q=>y= .non/\Q (.bl (!decide (x= .non))) H):=⟨by
 intro pins s σ H x y v u Q I rx ry h
 obtain⟨rfl,q⟩:=h
 cases ry
 refine isnot_none_gen (dI I q ?_)
 cases x<;>first
  |(cases rx;rfl)
  |(obtain⟨t,rfl⟩:=rx;rfl)⟩
theorem bR(b:Expr){op:CmpOp}(h:op≠ .In:=by decide)(h2:op≠ .NotIn:=by decide):behindInMarks op b=false:=by
 have e1:(op==CmpOp.In)=false:=by cases op<;>first|rfl|exact absurd rfl h
 have e2:(op==CmpOp.NotIn)=false:=by cases op<;>first|rfl|exact absurd rfl h2
 cases b<;>simp [behindInMarks,e1,e2]
theorem yn8{op:CmpOp}{r:R2}(ho:OpR X (compareOp op) r)(ha:PE X a ta)(hb:PE X b tb)(hm:behindInMarks op b=false):PE X (.Compare a [op] [b] pos) (tOp r ta tb):=⟨by
 intro pins s σ H Q I h
 exact wpAny_Compare1 (xl8 ha hb I h fun v u s2 x y H2 I2 rx ry q=>ho pins s2 σ H2 x y v u Q I2 rx ry q) hm⟩
def wr0(t:TE):TT:=fun σ H Q=>t σ H fun x H'=>∃k,x= .bl k/\Q k H'
theorem yn9{op:CmpOp}{r:R2}(ho:OpR X (compareOp op) r)(ha:PE X a ta)(hb:PE X b tb)(hm:behindInMarks op b=false):PT X (.Compare a [op] [b] pos) (wr0 (tOp r ta tb)):=⟨by
 intro pins s σ H Q I h
 refine wpAny_isTrue_Compare1 (thn (ha pins s σ H _ I h) fun v s1 ⟨x,H1,I1,r1,q1⟩=>thn (hb pins s1 σ H1 _ I1 q1) fun u s2 ⟨y,H2,I2,r2,q2⟩=>
  thn (ho pins s2 σ H2 x y v u _ I2 r1 r2 q2) fun c s3 ⟨z,H3,I3,r3,k,e,q3⟩=> ?_) hm
 subst e
 cases r3
 exact ZY ⟨H3,I3,q3⟩⟩
def xt6(K:tz0)(x:V)(H:Hp)(k:Bool):Prop:=
 match x with
 | .non=>k=false
 | .bl b=>k=b
 | .int i=>k=(i !=0)
 | .str y=>y.length<=sizeLine/\k=((y.length:Int) !=0)
 | .byt y=>y.size<=sizeLine/\k=((y.size:Int) !=0)
 | .ref p=>(∃xs,SqL K H p xs/\k= !xs.isEmpty)\/(∃xs,SqT K H p xs/\k= !xs.isEmpty)\/∃kvs,H p=some (.dK kvs)/\k= !kvs.isEmpty
 |_=>False
theorem yt2{U:Type}{kvs:List (U×V)}{vs:List (U×Value)}(r:KV kvs vs):(!vs.isEmpty)= !kvs.isEmpty:=by
 cases r<;>rfl
theorem zj4{xs:List V}{its:List Value}(r:bQ xs its):(!its.toArray.isEmpty)= !xs.isEmpty:=by
 cases r<;>simp
theorem tU:(sizeLine:Nat)<2^63:=by rw [Y2];decide
theorem wf3:wt9 X (fun x H Q=>∃k,xt6 X.K x H k/\Q k H):=by
 intro pins s σ H x v Q I rx h
 obtain⟨k,e,q⟩:=h
 have hl:=tU
 have hs:sizeLine=16777216:=Y2
 cases x with
 |non=>
  cases rx
  have e':k=false:=e
  subst e'
  exact truthy_none ⟨H,I,q⟩
 |bl b=>
  cases rx
  have e':k=b:=e
  subst e'
  exact ZY ⟨H,I,q⟩
 |int i=>
  obtain⟨t,rfl⟩:=rx
  have e':k=(i !=0):=e
  subst e'
  exact PySem.P.truthy_int ⟨H,I,q⟩
 |str y=>
  obtain⟨t,rfl⟩:=rx
  obtain⟨hy,e'⟩:y.length<=sizeLine/\k=((y.length:Int) !=0):=e
  subst e'
  exact PySem.P.truthy_str (by omega) ⟨H,I.tok _,q⟩
 |byt y=>
  obtain⟨t,rfl⟩:=rx
  obtain⟨hy,e'⟩:y.size<=sizeLine/\k=((y.size:Int) !=0):=e
  subst e'
  exact PySem.W.truthy_bytes (by omega) ⟨H,I.tok _,q⟩
 | ref p=>
  cases rx
  have e':(∃xs,SqL X.K H p xs/\k= !xs.isEmpty)\/(∃xs,SqT X.K H p xs/\k= !xs.isEmpty)\/∃kvs,H p=some (.dK kvs)/\k= !kvs.isEmpty:=e
  rcases e' with ⟨xs,hx,e'⟩|⟨xs,hx,e'⟩|⟨kvs,hx,e'⟩
  ·subst e'
   obtain⟨its,r,pl,hz⟩:=I.list hx
   have hlen:=r.length
   exact wpAny_truthy_list pl.isList (by simp only [Zl];omega) ⟨H,I.tok _,by rw [zj4 r];exact q⟩
  ·subst e'
   obtain⟨its,r,pl,hz⟩:=I.tuple hx
   have hlen:=r.length
   exact truthy_tuple pl (by simp only [Zl];omega) ⟨H,I.tok _,by rw [zj4 r];exact q⟩
  ·subst e'
   obtain⟨hz,hS,vs,r,m⟩:kvs.length<=sizeLine/\(p==sysModules)=false/\∃vs,KV kvs vs/\s.heap.DictOf (eO X.prog X.w) p vs:=I.hok p _ hx
   have hlen:kvs.length=vs.length:=ZJ r
   exact wpAny_truthy_dict hS m (by omega) ⟨H,I.tok _,by rw [yt2 r];exact q⟩
 |_=>exact(show False from e).elim
theorem yd2(ha:PE X a ta)(he:∀whole,isTrue a X.env whole=(do let v<-whole;standAt a.pos;holding [v] (truthy v))):
  PT X a (fun σ H Q=>ta σ H fun x H'=>∃k,xt6 X.K x H' k/\Q k H'):=⟨by
 intro pins s σ H Q I h
 exact isTrue_plain (thn (ha pins s σ H _ I h) fun v s1 ⟨x,H1,I1,r1,q1⟩=>wf3 pins s1 σ H1 x v Q I1 r1 q1) (he _)⟩
theorem yt3:OpR X (binaryOp .Add) (fun x y H Q=>∃i j,x= .str i/\y= .str j/\i.length+j.length<=sizeLine/\Q (.str (i++j)) H):=⟨by
 intro pins s σ H x y v u Q I rx ry h
 obtain⟨i,j,rfl,rfl,hz,q⟩:=h
 obtain⟨t,rfl⟩:=rx
 obtain⟨t',rfl⟩:=ry
 exact add_str (fun t' tk=>⟨.str (i++j),H,I.tok _,⟨_,rfl⟩,q⟩) hz⟩
theorem mH{x:V}{us:List Value}(r:bQ [x] us):∃u,us=[u]/\cI x u:=by
 cases r with
 |cons r1 r2=>cases r2;exact⟨_,rfl,r1⟩
theorem ya6{x y:V}{us:List Value}(r:bQ [x,y] us):∃u w',us=[u,w']/\cI x u/\cI y w':=by
 cases r with
 |cons r1 r2=>
  cases r2 with
  |cons r3 r4=>cases r4;exact⟨_,_,rfl,r1,r3⟩
theorem zu2(hc:X.calm=true):CallR X (.builtin "max") (fun xs H Q=>∃i j,xs=[.int i,.int j]/\Q (.int (if j>i then j else i)) H):=⟨by
 intro pins s σ H xs us Q I r h
 obtain⟨i,j,rfl,q⟩:=h
 obtain⟨u,w',rfl,⟨t,rfl⟩,⟨t',rfl⟩⟩:=ya6 r
 refine max_two_ints (I.ok.hd hc) fun h' tk k=>⟨_,H,I.kept k,?_,q⟩
 by_cases hj:j>i
 ·rw [if_pos hj,if_pos hj];exact⟨_,rfl⟩
 ·rw [if_neg hj,if_neg hj];exact⟨_,rfl⟩⟩
theorem xb3(hc:X.calm=true):CallR X (.builtin "min") (fun xs H Q=>∃i j,xs=[.int i,.int j]/\Q (.int (if j<i then j else i)) H):=⟨by
 intro pins s σ H xs us Q I r h
 obtain⟨i,j,rfl,q⟩:=h
 obtain⟨u,w',rfl,⟨t,rfl⟩,⟨t',rfl⟩⟩:=ya6 r
 refine min_two_ints (I.ok.hd hc) fun h' tk k=>⟨_,H,I.kept k,?_,q⟩
 by_cases hj:j<i
 ·rw [if_pos hj,if_pos hj];exact⟨_,rfl⟩
 ·rw [if_neg hj,if_neg hj];exact⟨_,rfl⟩⟩
theorem zu3:CallR X (.type "int") (fun xs H Q=>(∃i,xs=[.int i]/\Q (.int i) H)\/∃k,xs=[.bl k]/\Q (.int (if k then 1 else 0)) H):=⟨by
 intro pins s σ H xs us Q I r h
 rcases h with ⟨i,rfl,q⟩|⟨k,rfl,q⟩
 ·obtain⟨u,rfl,t,rfl⟩:=mH r
  exact call_int_int ⟨.int i,H,I,⟨_,rfl⟩,q⟩
 ·obtain⟨u,rfl,r1⟩:=mH r
  cases r1
  exact call_int_bool ⟨.int (if k then 1 else 0),H,I.tok _,⟨_,rfl⟩,q⟩⟩
end
structure ObjM(h:Heap)(x dx C:Addr)(mA:tzA):Prop where
 obj:h.get? x=some (PySem.W.instObj C dx)
 ns:h.Ns1 dx mA
 ne:dx≠x
theorem xb4{h:Heap}{dx:Addr}{mA:tzA}(n:h.Ns1 dx mA):∃od,h.get? dx=some od/\∀name,PySem.W.lookIn name od=some (mA name):=by
 obtain⟨o,es,ep,ho,hd,hk,_,hm⟩:=n
 refine⟨o,ho,fun name=> ?_⟩
 have e:=hm name
 unfold nsFind findBy at e
 rw [<-Array.find?_toList] at e
 unfold PySem.W.lookIn
 rw [hd]
 dsimp only
 split
 ·rename_i y q
  rw [q] at e
  exact ZK some e
 ·rename_i q
  rw [q] at e
  have a:es.toList.any (·.refKey)=false:=by
   rw [List.any_eq_false]
   intro y hy
   obtain⟨z,t,hkey⟩:=hk y (Array.mem_toList_iff.mp hy)
   simp [DictEntry.refKey,hkey]
  have a':¬es.toList.any (·.refKey)=true:=by rw [a];exact Zb
  rw [if_neg a']
  exact ZK some e
theorem ObjM.look{h:Heap}{x dx C:Addr}{mA:tzA}(I:ObjM h x dx C mA):∃od,PySem.W.InstAt h x (PySem.W.instObj C dx) C (some od)/\∀name,PySem.W.lookIn name od=some (mA name):=
 let ⟨od,ho,hl⟩:=xb4 I.ns
 ⟨od,⟨I.obj,rfl,rfl,ho⟩,hl⟩
section
variable{prog:Program}{w:World}{A:Around}{E:Value->Shared->Prop}{s:Shared}{K:tz0}{x dx C f:Addr}{mA:tzA}{name:Str}{v:Value}
theorem yo0{expr:Bool}{Q:Value->Shared->Prop}(X:K.In s.heap)(I:ObjM s.heap x dx C mA)(hg:PySem.W.plainGet K C name=true)(hh:PySem.W.hasDictIn K C=true)
  (ha:PySem.W.findIn K (.ref C) name=some none) (hv:mA name=some v) (hv':PySem.W.handedIn v=true) (h:Q v {s with toks:=s.toks+1}):
  wpAny (model prog w) A (getAttr (.ref x) name expr) Q E s:=by
 obtain⟨od,J,hl⟩:=I.look
 exact PySem.W.get_value X J (X8 hg).1 (PySem.W.findObj_own hh ha rfl (by rw [hl,hv])) hv' h
theorem yd3{pl:Sem Bool}{Q:Value×List Value->Shared->Prop}(X:K.In s.heap)(I:ObjM s.heap x dx C mA)(hg:PySem.W.plainGet K C name=true)
  (hf:PySem.W.findIn K (.ref C) name=some (some (.ref f))) (ht:PySem.W.isFn K (.ref f)=true) (hv:mA name=none) (h:Q (.ref f,[.ref x]) s):
  wpAny (model prog w) A (getMethod (.ref x) name pl) Q E s:=by
 obtain⟨od,J,hl⟩:=I.look
 exact PySem.W.method_fn X J (X8 hg).1 (X8 hg).2 hf (Yy.mp ht) (by show(PySem.W.lookIn name od).map (·.isSome)=some false;rw [hl,hv];rfl) h
theorem xx3{ns:List Str}{Q:Unit->Shared->Prop}(X:K.In s.heap)(I:ObjM s.heap x dx C mA)
  (hs:PySem.W.findIn K (.ref C) "__setattr__"=some (some (.builtin "object.__setattr__"))) (hp:PySem.W.plainOver K C=true) (ht:PySem.W.takerIn K C name=some none) (hh:PySem.W.hasDictIn K C=true)
  (hw:PySem.Within mA ns) (hsz:ns.length<=sizeLine)
  (h:∀h',ObjM h' x dx C (fun y=>if y=name then some v else mA y)->Heap.SameBut dx s.heap h'->Q () {s with heap:=h',toks:=s.toks+2}):
  wpAny (model prog w) A (setAttr (.ref x) name v) Q E s:=by
 obtain⟨od,J,hl⟩:=I.look
 refine PySem.W.set_plain X J hs (PySem.W.osa_open (s:={s with toks:=s.toks+1}) (r:=none) X J hp ht fun b=> ?_)
 obtain⟨cd,hc,hd'⟩:=PySem.W.any_some hh
 have hx:s.heap.get? x=some ⟨.ref C,some dx,.plain,#[]⟩:=I.obj
 refine Ze (ZG (Ze (Ze (wpAny_loadPart hx (Ze (PySem.W.Looks.here (s:={s with toks:=s.toks+1}) (PySem.W.looks_clsIn X hc) ?_))))))
 rw [hd']
 refine ZG (a:=some dx) (Ze (ZG (Ze ?_)))
 refine wpAny_nsSet1 (s:={s with toks:=s.toks+1}) I.ns fun h' hn2 hs2=> ?_
 obtain⟨oD,esD,epD,hoD,hdD,hcD⟩:=hn2.count (PySem.Within.cons name v hw)
 refine Ze (wpAny_lookBehind hoD (by rw [hdD];exact pastItsLine_dict (Zv hcD (by rw [Z6];omega))) ?_)
 exact ZG (h _ ⟨(hs2.2 _ (Y7 I.ne)).trans I.obj,hn2,I.ne⟩ hs2)
theorem xm0{R:Result->Shared->Prop}{vs:List Value}{kw:List (Str×Value)}(X:K.In s.heap)(hm:PySem.W.makesIn K C=true)
  (hi:PySem.W.findIn K (.ref C) "__init__"=some (some (.ref f))) (hf:PySem.W.typeIn K (.ref f)=some (.type "function"))
  (h:codeAny (model prog w) (A.under (.builtin "type.__call__" ⟨.ref C::vs,kw⟩)) (.call (.ref f) ⟨.ref (s.heap.objs.size+1)::vs,kw⟩) (PySem.W.InitBack (s.heap.objs.size+1) R)
   {s with heap:=(s.heap.push PySem.W.emptyDict).push (PySem.W.instObj C s.heap.objs.size)}):
  codeAny (model prog w) A (.call (.ref C) ⟨vs,kw⟩) R s:=by
 obtain⟨hh,g,d,t,os⟩:=s
 exact PySem.W.make_core (PySem.W.makes_of X hm) (PySem.W.looks_findIn X hi) (fun self=>PySem.W.bind_fn X self hf) (.inl rfl) h
end
def gW(f:Str)(v:V):List (Str×V)->List (Str×V)
 |[]=>[(f,v)]
 |(g,x)::r=>if g=f then(g,v)::r else(g,x)::gW f v r
theorem zf7(f g:Str)(v:V):∀fs:List (Str×V),(gW f v fs).lookup g=if g=f then some v else fs.lookup g
 | []=>by
  show List.lookup g [(f,v)]=_
  by_cases h:g=f
  ·have hb:(g==f)=true:=Yy.mpr h
   simp only [List.lookup,hb,if_pos h]
  ·have hb:(g==f)=false:=Ya.mpr h
   simp only [List.lookup,hb,if_neg h]
 | (k,x)::r=>by
  have ih:=zf7 f g v r
  rw [show gW f v ((k,x)::r)=(if k=f then(k,v)::r else(k,x)::gW f v r) from rfl]
  by_cases hk:k=f
  ·rw [if_pos hk]
   by_cases h:g=k
   ·have hb:(g==k)=true:=Yy.mpr h
    simp only [List.lookup,hb,if_pos (h.trans hk)]
   ·have hb:(g==k)=false:=Ya.mpr h
    simp only [List.lookup,hb,if_neg (fun e:g=f=>h (e.trans hk.symm))]
  ·rw [if_neg hk]
   by_cases h:g=k
   ·have hb:(g==k)=true:=Yy.mpr h
    simp only [List.lookup,hb,if_neg (fun e:g=f=>hk (h.symm.trans e))]
   ·have hb:(g==k)=false:=Ya.mpr h
    simp only [List.lookup,hb]
    exact ih
theorem zI(f:Str)(v:V):∀fs:List (Str×V),f∈(gW f v fs).map (·.1)/\∀g,g∈fs.map (·.1)->g∈(gW f v fs).map (·.1)
 |[]=>⟨by simp [gW],fun g h=>by simp at h⟩
 | (k,x)::r=>by
  obtain⟨i1,i2⟩:=zI f v r
  rw [show gW f v ((k,x)::r)=(if k=f then(k,v)::r else(k,x)::gW f v r) from rfl]
  by_cases hk:k=f
  ·rw [if_pos hk]
   subst hk
   exact⟨by simp,fun g h=>by simpa using h⟩
  ·rw [if_neg hk]
   refine⟨?_,fun g h=> ?_⟩
   ·rw [Z9]
    exact Z1 _ i1
   ·rw [Z9] at h|-
    rcases Z2.mp h with e|e
    ·exact Z2.mpr (.inl e)
    ·exact Z1 _ (i2 g e)
theorem zf8(f:Str)(v:V):∀fs:List (Str×V),(gW f v fs).length<=fs.length+1
 |[]=>by simp [gW]
 |(k,x)::r=>by
  have ih:=zf8 f v r
  rw [show gW f v ((k,x)::r)=(if k=f then(k,v)::r else(k,x)::gW f v r) from rfl]
  by_cases hk:k=f
  ·rw [if_pos hk,Z6,Z6];omega
  ·rw [if_neg hk,Z6,Z6];omega
theorem kJ.some_of{v:V}{o:Option Value}(r:kJ (some v) o):∃u,o=some u/\cI v u:=by
 cases o with
 |none=>exact(show False from r).elim
 |some u=>exact⟨u,rfl,r⟩
theorem kJ.none_of{o:Option Value}(r:kJ none o):o=none:=by
 cases o with
 |none=>rfl
 |some u=>exact(show False from r).elim
theorem zu4{v:V}{u:Value}(r:cI v u):PySem.W.handedIn u=true:=by
 cases v with
 |non=>cases(show u=Value.none from r);rfl
 |bl b=>cases(show u=Value.bool b from r);rfl
 |int i=>obtain⟨t,e⟩:=(show ∃t,u=Value.int i t from r);cases e;rfl
 |str x=>obtain⟨t,e⟩:=(show ∃t,u=Value.str x t from r);cases e;rfl
 |byt b=>obtain⟨t,e⟩:=(show ∃t,u=Value.bytes b t from r);cases e;rfl
 |flt b=>obtain⟨t,e⟩:=(show ∃t,u=Value.float b t from r);cases e;rfl
 |ref a=>cases(show u=Value.ref a from r);rfl
 |ty n=>cases(show u=Value.type n from r);rfl
section
variable{P:Program}{w:World}{H H':Hp}{h h':Heap}{a C dx:Addr}{fs fs':List (Str×V)}
theorem zc4(hok:HOk P w H h)(e:H a=some (.ins C dx fs)):∃mA,ObjM h a dx C mA/\(∀f,kJ (fs.lookup f) (mA f))/\PySem.Within mA (fs.map (·.1))/\fs.length<=1000/\H dx=some (.own a):=by
 obtain⟨d,z,ne,ob,mA,n,r,q⟩:=(show dL P w H h a (.ins C dx fs) from hok a _ e)
 exact⟨mA,⟨ob,n,ne⟩,r,q,z,d⟩
end
structure Cls(K:tz0)(C:Addr):Prop where
 pg:PySem.W.plainGet K C Str.empty=true
 hd:PySem.W.hasDictIn K C=true
 po:PySem.W.plainOver K C=true
 sa:PySem.W.findIn K (.ref C) "__setattr__"=some (some (.builtin "object.__setattr__"))
theorem Cls.get{K:tz0}{C:Addr}(c:Cls K C)(f:Str):PySem.W.plainGet K C f=true:=c.pg
def cF(K:tz0)(C:Addr)(f:Str):Prop:=PySem.W.findIn K (.ref C) f=some none
theorem cF.taker{K:tz0}{C:Addr}{f:Str}(n:cF K C f):PySem.W.takerIn K C f=some none:=by
 unfold PySem.W.takerIn
 rw [show PySem.W.findIn K (.ref C) f=some none from n]
 rfl
structure Meth(K:tz0)(C:Addr)(m:Str)(f:Addr):Prop where
 at_:PySem.W.findIn K (.ref C) m=some (some (.ref f))
 fn:PySem.W.isFn K (.ref f)=true
 kp:PySem.W.keepIn K (.ref f)=true
section
variable{X:Cx}{pins:tzB}{σ:St}{H:Hp}{s:Shared}{a C dx:Addr}{fs:List (Str×V)}{f:Str}{v:V}{A:Around}{E:Value->Shared->Prop}
theorem yt4{b:Bool}{Q:Value->Shared->Prop}(I:Inv X pins σ H s)(e:H a=some (.ins C dx fs))(c:Cls X.K C)(n:cF X.K C f)(l:fs.lookup f=some v)
  (h:∀u s',Inv X pins σ H s'->cI v u->Q u s'):wpAny (model X.prog X.w) A (getAttr (.ref a) f b) Q E s:=by
 obtain⟨mA,O,r,_,_,_⟩:=zc4 I.hok e
 obtain⟨u,hu,ru⟩:=kJ.some_of (v:=v) (o:=mA f) (by rw [<-l];exact r f)
 exact yo0 I.kIn O (c.get f) c.hd n hu (zu4 ru) (h u _ (I.tok _) ru)
theorem zj5{m:Str}{g:Addr}{pl:Sem Bool}{Q:Value×List Value->Shared->Prop}(I:Inv X pins σ H s)(e:H a=some (.ins C dx fs))(c:Cls X.K C)(k:Meth X.K C m g)(l:fs.lookup m=none)
  (h:Q (.ref g,[.ref a]) s):wpAny (model X.prog X.w) A (getMethod (.ref a) m pl) Q E s:=by
 obtain⟨mA,O,r,_,_,_⟩:=zc4 I.hok e
 have hn:mA m=none:=kJ.none_of (by rw [<-l];exact r m)
 exact yd3 I.kIn O (c.get m) k.at_ k.fn hn h
theorem yt5{y:V}{u:Value}{Q:Unit->Shared->Prop}(I:Inv X pins σ H s)(e:H a=some (.ins C dx fs))(c:Cls X.K C)(n:cF X.K C f)(hl:fs.length<1000)(ry:cI y u)
  (h:∀s',Inv X pins σ (upd H a (.ins C dx (gW f y fs))) s'->Q () s'):wpAny (model X.prog X.w) A (setAttr (.ref a) f u) Q E s:=by
 obtain⟨mA,O,r,wi,_,ho⟩:=zc4 I.hok e
 have hz:(fs.map (·.1)).length<=sizeLine:=by rw [Z8,Y2];omega
 refine xx3 I.kIn O c.sa c.po n.taker c.hd wi hz fun h' O' sb=>h _ ?_
 have hd:∃o,h'.get? dx=some o:=let ⟨o,_,_,e',_⟩:=O'.ns;⟨o,e'⟩
 refine I.write (x:=a) (e:=dx) (by rw [e];exact True.intro) (.inr ho) (fun b q hb z=>(sb.2 b hb).trans z) hd ?_
 refine⟨by rw [bK O.ne];exact ho,?_,O.ne,O'.obj,_,O'.ns,fun g=> ?_,fun g hg=> ?_⟩
 ·have:=zf8 f y fs;omega
 ·show kJ ((gW f y fs).lookup g) (if g=f then some u else mA g)
  rw [zf7]
  by_cases q:g=f
  ·rw [if_pos q,if_pos q];exact ry
  ·rw [if_neg q,if_neg q];exact r g
 ·by_cases q:g=f
  ·rw [q];exact(zI f y fs).1
  ·refine(zI f y fs).2 g (wi g fun z=>hg ?_)
   show(if g=f then some u else mA g)=none
   rw [if_neg q];exact z
theorem Inv.made(I:Inv X pins σ H s):Inv X pins σ (upd (upd H s.heap.objs.size (.own (s.heap.objs.size+1))) (s.heap.objs.size+1) (.ins C s.heap.objs.size []))
  {s with heap:=(s.heap.push PySem.W.emptyDict).push (PySem.W.instObj C s.heap.objs.size)}:=by
 have e1:(s.heap.push PySem.W.emptyDict).get? s.heap.objs.size=some PySem.W.emptyDict:=Zw s.heap rfl
 have e2:((s.heap.push PySem.W.emptyDict).push (PySem.W.instObj C s.heap.objs.size)).get? (s.heap.objs.size+1)=some (PySem.W.instObj C s.heap.objs.size):=by
  have:=Zw (s.heap.push PySem.W.emptyDict) (o:=PySem.W.instObj C s.heap.objs.size) rfl
  rwa [Wb] at this
 have e3:(s.heap.push PySem.W.emptyDict).Ns s.heap.objs.size (fun _=>none):=⟨PySem.W.emptyDict,#[],_,e1,rfl,(fun e he=>absurd he (by simp)),fun _=>rfl⟩
 have I1:=I.laid (a:=s.heap.objs.size) (o:= .own (s.heap.objs.size+1)) (h':=s.heap.push PySem.W.emptyDict) (t':=s.toks) (fun b u q=>Zf _ q) (Zc _) ⟨_,e1⟩
 refine I1.laid (a:=s.heap.objs.size+1) (o:= .ins C s.heap.objs.size []) (t':=s.toks) (fun b u q=>Zf _ q) (Nat.le_of_eq (Wb _ _)) ?_
 have ne:s.heap.objs.size≠s.heap.objs.size+1:=ZH (Xo _)
 refine⟨by rw [bK ne,cX],ZT _,ne,e2,fun _=>none,(Heap.Ns1.of_empty e3).at fun o q=>Zf _ q,fun _=>True.intro,fun y hy=>absurd rfl hy⟩
theorem yo1{prog:Program}{w:World}{env:Env}{e:Expr}{f:Str}{pos:Pos}{s:Shared}{Q:Value->Shared->Prop}(hb:attributeBase e f env (eval e env)=eval e env)
  (h:wpAny (model prog w) A (eval e env) (fun o s₁=>wpAny (model prog w) A (getAttr o f true) Q E s₁) E s):wpAny (model prog w) A (eval (.Attribute e f pos) env) Q E s:=
 Attribute_any_ h (by rw [arm_eval_Attribute,hb])
end
def wu1(K:tz0)(ta:TE)(f:Str):TE:=fun σ H Q=>ta σ H fun x H1=>∃a C dx fs v,x= .ref a/\H1 a=some (.ins C dx fs)/\Cls K C/\cF K C f/\fs.lookup f=some v/\Q v H1
def wu2(K:tz0)(ta tv:TE)(f:Str):TS:=fun D σ H=>tv σ H fun y H1=>ta σ H1 fun x H2=>∃a C dx fs,x= .ref a/\H2 a=some (.ins C dx fs)/\Cls K C/\cF K C f/\fs.length<1000/\
 D.nx σ (upd H2 a (.ins C dx (gW f y fs)))
section
variable{X:Cx}{o e value:Expr}{f:Str}{pos pos' tpos:Pos}{ta tv:TE}
theorem wf4(he:PE X e ta)(hb:attributeBase e f X.env (eval e X.env)=eval e X.env):PE X (.Attribute e f pos) (wu1 X.K ta f):=⟨by
 intro pins s σ H Q I h
 refine yo1 hb (thn (he pins s σ H _ I h) fun u s1 ⟨x,H1,I1,rx,a,C,dx,fs,v,ex,ea,c,n,l,q⟩=> ?_)
 subst ex
 obtain rfl:u=Value.ref a:=rx
 exact yt4 I1 ea c n l fun u' s2 I2 ru=>⟨v,H1,I2,ru,q⟩⟩
theorem wf5(ha:PE X o ta)(hv:PE X value tv)(hs:swapsWith value (some (.Attribute o f pos')) pos.line X.env=pure false):PS X (.Assign [.Attribute o f pos'] value pos) (wu2 X.K ta tv f):=⟨by
 intro pins s σ H D I h
 refine plainObj_wpAny_Assign_Attribute (thn (hv pins s σ H _ I h) fun u s1 ⟨y,H1,I1,ry,q⟩=>thn (ha pins s1 σ H1 _ I1 q) fun ov s2 ⟨x,H2,I2,rx,a,C,dx,fs,ex,ea,c,n,l,q2⟩=> ?_) hs
 subst ex
 obtain rfl:ov=Value.ref a:=rx
 exact yt5 I2 ea c n l ry fun s3 I3=>⟨σ,_,I3,q2⟩⟩
end
section
variable{X:Cx}{pins:tzB}{σ:St}{H:Hp}{s:Shared}{A:Around}{E:Value->Shared->Prop}{Q:Value->Shared->Prop}{c:Value}{b:Bool}
inductive TyOf(K:tz0)(H:Hp):V->Value->Prop where
 |non:TyOf K H .non (.type "NoneType")
 |bl (x:Bool):TyOf K H (.bl x) (.type "bool")
 |int (i:Int):TyOf K H (.int i) (.type "int")
 |str (x:Str):TyOf K H (.str x) (.type "str")
 |flt (x:UInt64):TyOf K H (.flt x) (.type "float")
 |lst {a:Addr} {xs:List V} (e:H a=some (.lst xs)):TyOf K H (.ref a) (.type "list")
 |frz {a:Addr} {o:Obj} {xs:List V} (e:H a=some (.frz o (.lst xs))):TyOf K H (.ref a) (.type "list")
 |tup {a:Addr} {xs:List V} (e:H a=some (.tup xs)):TyOf K H (.ref a) (.type "tuple")
 |dK {a:Addr} {kvs:List (Key×V)} (e:H a=some (.dK kvs)):TyOf K H (.ref a) (.type "dict")
 |dT {a:Addr} {kvs:List (List Key×V)} (e:H a=some (.dT kvs)):TyOf K H (.ref a) (.type "dict")
 | ins {a C dx:Addr} {fs:List (Str×V)} (e:H a=some (.ins C dx fs)) (cl:Cls K C) (ha:PySem.W.findIn K (.ref C) "__class__"=some (some (.builtin "object.__class__")))
   (hn:PySem.W.specialIn K (.builtin "object.__class__") "__get__"=some (some (.builtin "getset_descriptor.__get__"))) (htk:PySem.W.takesIn K (.builtin "object.__class__")=some true)
   (hm:PySem.W.mroIn K C (.type "object")=some true):TyOf K H (.ref a) (.ref C)
theorem xb5{x:V}{u t:Value}(I:Inv X pins σ H s)(rx:cI x u)(ty:TyOf X.K H x t)(e:PySem.W.kitOne X.K t c=some b)(h:∀tk,Q (.bool b) {s with toks:=tk}):
  wpAny (model X.prog X.w) A (call (.builtin "isinstance") [u,c]) Q E s:=by
 cases ty with
 |non=>cases(show u=Value.none from rx);exact ZN PySem.W.kitx_none I.kIn True.intro e (fun z=>nomatch z) h
 |bl y=>cases(show u=Value.bool y from rx);exact ZN PySem.W.kitx_bool I.kIn True.intro e (fun z=>nomatch z) h
 |int i=>obtain⟨t,q⟩:=(show ∃t,u=Value.int i t from rx);cases q;exact ZN PySem.W.kitx_int I.kIn True.intro e (fun z=>nomatch z) h
 |str y=>obtain⟨t,q⟩:=(show ∃t,u=Value.str y t from rx);cases q;exact ZN PySem.W.kitx_str I.kIn True.intro e (fun z=>nomatch z) h
 |flt y=>obtain⟨t,q⟩:=(show ∃t,u=Value.float y t from rx);cases q;exact ZN PySem.W.kitx_float I.kIn True.intro e (fun z=>nomatch z) h
 | @lst a xs ea=>
  cases(show u=Value.ref a from rx)
  obtain⟨_,_,n,_,h1⟩:=(show dL X.prog X.w H s.heap a (.lst xs) from I.hok a _ ea)
  exact ZN Wt I.kIn ⟨_,h1,rfl⟩ e (fun z=>nomatch z) h
 | @frz a ob xs ea=>
  cases(show u=Value.ref a from rx)
  obtain⟨_,_,_,n,_,h1⟩:=(show dL X.prog X.w H s.heap a (.frz ob (.lst xs)) from I.hok a _ ea)
  exact ZN Wt I.kIn ⟨_,h1,rfl⟩ e (fun z=>nomatch z) h
 | @tup a xs ea=>
  cases(show u=Value.ref a from rx)
  obtain⟨_,_,_,p⟩:=(show dL X.prog X.w H s.heap a (.tup xs) from I.hok a _ ea)
  obtain⟨o,h1,h2,_⟩:=p
  exact ZN Wm I.kIn ⟨o,h1,h2⟩ e (fun z=>nomatch z) h
 | @dK a kvs ea=>
  cases(show u=Value.ref a from rx)
  obtain⟨_,_,vs,_,p⟩:=(show dL X.prog X.w H s.heap a (.dK kvs) from I.hok a _ ea)
  obtain⟨o,es,ep,h1,h2,_⟩:=p
  exact ZN Wu I.kIn ⟨o,h1,h2.1⟩ e (fun z=>nomatch z) h
 | @dT a kvs ea=>
  cases(show u=Value.ref a from rx)
  obtain⟨_,_,xs,_,o,es,ep,h1,h2,_⟩:=(show dL X.prog X.w H s.heap a (.dT kvs) from I.hok a _ ea)
  exact ZN Wu I.kIn ⟨o,h1,h2.1⟩ e (fun z=>nomatch z) h
 | @ins a C dx fs ea cl ha hn htk hm=>
  cases(show u=Value.ref a from rx)
  obtain⟨mA,O,_⟩:=zc4 I.hok ea
  obtain⟨od,J,_⟩:=O.look
  exact ZN (PySem.W.kitx_own (cl.get _) cl.hd ha hn htk hm) I.kIn J e (fun z=>nomatch z) h
end
structure Room(k:Nat)(A:Around):Prop where
 hd:A.handled=none
 dp:A.depth+3*k+5<recursionLimit
 un:A.units+16*k+200<cLine
theorem Room.mono{j k:Nat}{A:Around}(r:Room k A)(h:j<=k):Room j A:=⟨r.hd,by have:=r.dp;omega,by have:=r.un;omega⟩
theorem Room.deeper{k:Nat}{A:Around}(r:Room (k+1) A)(env:Env):Room k (A.deeper env):=
 ⟨r.hd,by have:=r.dp;show A.depth+1+3*k+5<_;omega,by have:=r.un;show A.units+3+16*k+200<_;omega⟩
theorem yt6{A:Around}{C:Addr}{us:List Value}{kw:List (Str×Value)}:(A.under (.builtin "type.__call__" ⟨.ref C::us,kw⟩)).depth=A.depth+1:=by
 first|rfl|simp [Around.under,Code.weight,Code.isCreation,Code.isGuard,Code.isCaller,Code.frames,Code.isFrame,guardIds]
theorem yt7{A:Around}{C:Addr}{us:List Value}{kw:List (Str×Value)}:(A.under (.builtin "type.__call__" ⟨.ref C::us,kw⟩)).units=A.units+1:=by
 first|rfl|simp [Around.under,Code.cUnits,Code.frames,Code.isFrame]
theorem Room.make{k:Nat}{A:Around}(r:Room (k+1) A)(C:Addr)(us:List Value)(kw:List (Str×Value)):Room k (A.under (.builtin "type.__call__" ⟨.ref C::us,kw⟩)):=
 ⟨r.hd,by have:=r.dp;rw [yt6];omega,by have:=r.un;rw [yt7];omega⟩
theorem Room.depth{k:Nat}{A:Around}(r:Room k A):A.depth<recursionLimit:=by have:=r.dp;omega
theorem Room.units{k:Nat}{A:Around}(r:Room k A):A.units+64<cLine:=by have:=r.un;omega
theorem Room.units0{k:Nat}{A:Around}(r:Room k A):A.units<cLine:=by have:=r.un;omega
def yy5:TA:=fun _ H Q=>Q [] H
def wr1(ta:TE)(tr:TA):TA:=fun σ H Q=>ta σ H fun x H1=>tr σ H1 fun xs H2=>Q (x::xs) H2
section
variable{X:Cx}{e:Expr}{es:List Expr}{te:TE}{t:TA}{pos:Pos}
theorem kO:PA X [] yy5:=⟨fun _ _ _ _ H Q I h=>X2 ⟨[],H,I,.nil,h⟩⟩
theorem eL(ha:PE X e te)(hr:PA X es t)(hs:starEach (e::es) X.env=(false,eval e X.env)::starEach es X.env:=by rfl):PA X (e::es) (wr1 te t):=⟨by
 intro pos pins s σ H Q I h
 rw [hs]
 show wpAny _ _ (spliced ((false,eval e X.env)::backTo pos (starEach es X.env))) _ _ s
 refine YU (thn (ha pins s σ H _ I h) fun u s1 ⟨x,H1,I1,r1,q1⟩=> ?_)
 exact thn (hr pos pins s1 σ H1 _ I1 q1) fun us s2 ⟨xs,H2,I2,r2,q2⟩=>⟨x::xs,H2,I2,.cons r1 r2,q2⟩⟩
def wu3(t:TA):TE:=fun σ H Q=>t σ H fun xs H1=>xs.length<=sizeLine/\∀p,H1 p=none->Q (.ref p) (upd H1 p (.tup xs))
def wu4(t:TA):TE:=fun σ H Q=>t σ H fun xs H1=>xs.length<=sizeLine/\∀p,H1 p=none->Q (.ref p) (upd H1 p (.lst xs))
theorem xb6{x1}(h:PA X es t):PE X (.Tuple es x1 pos) (wu3 t):=⟨by
 intro pins s σ H Q I hq
 refine wpAny_Tuple_spliced (thn (h pos pins s σ H _ I hq) fun us s1 ⟨xs,H1,I1,r,z,q⟩=>⟨by rw [<-r.length];exact z,?_⟩)
 have hf:H1 s1.heap.objs.size=none:=I1.hok.fresh (Zc _)
 refine⟨.ref s1.heap.objs.size,upd H1 s1.heap.objs.size (.tup xs),I1.laid (t':=s1.toks) (fun b u e=>Zf _ e) (Zc _) ?_,rfl,q _ hf⟩
 exact⟨z,us,r,⟨_,Zw _ rfl,rfl,_,rfl⟩⟩⟩
theorem wf6(h:PA X es t):PE X (.List es pos) (wu4 t):=⟨by
 intro pins s σ H Q I hq
 refine wpAny_List_spliced (thn (h pos pins s σ H _ I hq) fun us s1 ⟨xs,H1,I1,r,z,q⟩=>⟨by rw [<-r.length];exact z,?_⟩)
 have hf:H1 s1.heap.objs.size=none:=I1.hok.fresh (Zc _)
 refine⟨.ref s1.heap.objs.size,upd H1 s1.heap.objs.size (.lst xs),I1.laid (t':=s1.toks) (fun b u e=>Zf _ e) (Zc _) ?_,rfl,q _ hf⟩
 exact⟨z,us,0,r,Zw _ rfl⟩⟩
end
abbrev Sp:=List V->Hp->VK->XK->Prop
abbrev CXT:=List Env->Hp->Shared->XK->Value->Shared->Prop
structure Env0(P:Program)(w:World)(K:tz0)(mg:tzA)(base:Heap)(A:Around)(outer:List Env)(s:Shared)(H:Hp):Prop where
 frames:A.frames=some outer
 mod:Mod K mg base
 bs:∀b o,base.get? b=some o->s.heap.get? b=some o/\H b=none
 bsz:base.objs.size<=s.heap.objs.size
 funs:s.heap.FunFrames base outer
 frf:∀b∈frs outer,H b=none
 hok:HOk P w H s.heap
 bare:AllBare s.gens
def CE(outer:List Env)(P:Program)(w:World)(H:Hp)(s:Shared)(Q:VK)(u:Value)(s':Shared):Prop:=
 ∃v H',s'.os=s.os/\AllBare s'.gens/\Un (frs outer) [] H H' s.heap s'.heap/\HOk P w H' s'.heap/\cI v u/\Q v H'
def CR(CX:CXT)(outer:List Env)(P:Program)(w:World)(H:Hp)(s:Shared)(Q:VK)(E:XK)(r:Result)(s':Shared):Prop:=
 match r with
 | .ok (.ret u)=>CE outer P w H s Q u s'
 | .ok _=>False
 | .error e=>CX outer H s E e s'
structure FnOk(P:Program)(w:World)(K:tz0)(mg:tzA)(base:Heap)(CX:CXT)(k:Nat)(f:Addr)(fd:FuncData)(ps:List Str)(sp:Sp):Prop where
 len:∀vs H Q E,sp vs H Q E->vs.length=ps.length
 run:∀(A:Around) (outer:List Env) (s:Shared) (H:Hp) (args:Args) (us:List Value) (vs:List V) (Q:VK) (E:XK),Room k A->Env0 P w K mg base A outer s H->BindsTo s fd args (ps.zip us)->bQ vs us->sp vs H Q E->
  codeAny (model P w) A (.call (.ref f) args) (CR CX outer P w H s Q E) s
theorem FnOk.mono{P:Program}{w:World}{K:tz0}{mg:tzA}{base:Heap}{CX:CXT}{j k:Nat}{f:Addr}{fd:FuncData}{ps:List Str}{sp:Sp}(F:FnOk P w K mg base CX j f fd ps sp)(h:j<=k):
  FnOk P w K mg base CX k f fd ps sp:=⟨F.len,fun A outer s H args us vs Q E hr=>F.run A outer s H args us vs Q E (hr.mono h)⟩
theorem FnOk.imp{P:Program}{w:World}{K:tz0}{mg:tzA}{base:Heap}{CX:CXT}{k:Nat}{f:Addr}{fd:FuncData}{ps:List Str}{sp sp':Sp}(F:FnOk P w K mg base CX k f fd ps sp)
  (h:∀vs H Q E,sp' vs H Q E->sp vs H Q E):FnOk P w K mg base CX k f fd ps sp':=
 ⟨fun vs H Q E q=>F.len vs H Q E (h _ _ _ _ q),fun A outer s H args us vs Q E hr he hb hv hs=>F.run A outer s H args us vs Q E hr he hb hv (h _ _ _ _ hs)⟩
theorem Env0.make{P:Program}{w:World}{K:tz0}{mg:tzA}{base:Heap}{A:Around}{outer:List Env}{s:Shared}{H:Hp}(e:Env0 P w K mg base A outer s H)(C:Addr)(us:List Value)(kw:List (Str×Value)):
  Env0 P w K mg base (A.under (.builtin "type.__call__" ⟨.ref C::us,kw⟩)) outer s H:=⟨by first|exact e.frames|(simpa [Around.under,Code.envs,Code.isFrame,pushEnvs] using e.frames),e.mod,e.bs,e.bsz,e.funs,e.frf,e.hok,e.bare⟩
section
variable{X:Cx}{pins:tzB}{σ:St}{H:Hp}{s s':Shared}
theorem Inv.env0(I:Inv X pins σ H s):Env0 X.prog X.w X.K X.mg X.base X.A X.stack s H:=
 ⟨I.ok.frames,I.ok.mod,I.bs,Zv I.ok.bsz I.sz,I.stack,I.stkFree,I.hok,I.bare⟩
theorem Inv.after{Q:VK}{u:Value}(I:Inv X pins σ H s)(h:CE X.stack X.prog X.w H s Q u s'):EP X pins σ Q u s':=by
 obtain⟨v,H',os,bare,un,hok,r,q⟩:=h
 obtain⟨hh,g,d,t,os'⟩:=s'
 obtain rfl:os'=s.os:=os
 exact⟨v,H',I.call (h':=hh) (g':=g) (d':=d) (t':=t) (ch:=[]) un hok bare (fun b z=>absurd z (by simp)),r,q⟩
end
def yb5(sp:Sp)(dvs:List V)(E:XK)(t:TA):TE:=fun σ H Q=>t σ H fun vs H1=>sp (vs++dvs) H1 Q E
def xw0(C:Addr)(m:Str)(sp:Sp)(dvs:List V)(E:XK)(ta:TE)(t:TA):TE:=fun σ H Q=>ta σ H fun x H1=>∃a dx fs,x= .ref a/\H1 a=some (.ins C dx fs)/\fs.lookup m=none/\
 t σ H1 fun vs H2=>sp (x::(vs++dvs)) H2 Q E
def wr2(C:Addr)(sp:Sp)(dvs:List V)(E:XK)(t:TA):TE:=fun σ H Q=>t σ H fun vs H1=>∀x dx,H1 x=none->H1 dx=none->dx≠x->
 sp (.ref x::(vs++dvs)) (upd (upd H1 dx (.own x)) x (.ins C dx [])) (fun v H2=>v= .non/\Q (.ref x) H2) E
def lF(K:tz0)(fd:FuncData)(ps:List Str)(ds:List Value):Prop:=
 ∀(s:Shared) (us:List Value),K.In s.heap->(us++ds).length=ps.length->BindsTo s fd ⟨us,[]⟩ (ps.zip (us++ds))
theorem lF.all{K:tz0}{fd:FuncData}{ps:List Str}(h:∀us:List Value,us.length=ps.length->bindArgs fd ⟨us,[]⟩=pure (ps.zip us)):lF K fd ps []:=fun s us _ hl=>by
 rw [Zq] at hl|-
 exact .of_eq (h us hl)
def mY(CX:CXT)(X:Cx)(E:XK):Prop:=∀(pins:tzB) (σ:St) (H:Hp) (s:Shared) (e:Value) (s':Shared),Inv X pins σ H s->CX X.stack H s E e s'->X.xe e s'
section
variable{X:Cx}{CX:CXT}{k:Nat}{f C:Addr}{fd:FuncData}{ps:List Str}{sp:Sp}{dvs:List V}{ds:List Value}{E:XK}{x m:Str}{p pos apos:Pos}{e o:Expr}{es:List Expr}{ta:TE}{t:TA}
theorem zJ{pins:tzB}{σ:St}{H:Hp}{s:Shared}{Q:VK}{us:List Value}{vs:List V}(F:FnOk X.prog X.w X.K X.mg X.base CX k f fd ps sp)(hr:Room k X.A)(hb:lF X.K fd ps ds)(hd:bQ dvs ds)(hx:mY CX X E)
  (I:Inv X pins σ H s) (r:bQ vs us) (h:sp (vs++dvs) H Q E):wpAny (model X.prog X.w) X.A (call (.ref f) us) (EP X pins σ Q) X.xe s:=by
 have r2:bQ (vs++dvs) (us++ds):=r.append hd
 have hl:(us++ds).length=ps.length:=by rw [<-r2.length];exact F.len _ _ _ _ h
 refine wpAny_call (X9 (F.run X.A X.stack s H ⟨us,[]⟩ (us++ds) (vs++dvs) Q E hr I.env0 (hb s us I.kIn hl) r2 h) fun r s' hq=> ?_)
 cases r with
 |error e=>exact hx pins σ H s e s' I hq
 |ok fl=>
  cases fl with
  |ret u=>exact I.after hq
  |next=>exact False.elim hq
  |brk=>exact False.elim hq
  |cont=>exact False.elim hq
theorem yo2(F:FnOk X.prog X.w X.K X.mg X.base CX k f fd ps sp)(hr:Room k X.A)(hg:Gl X x)(hm:X.mg x=some (.ref f))(hk:PySem.W.keepIn X.K (.ref f)=true)(hb:lF X.K fd ps ds)(hd:bQ dvs ds)(hx:mY CX X E)
  (ha:PA X (e::es) t) (hdb:(x==("__debug__":Str))=false:=by decide) (he:starEach (e::es) X.env=(false,eval e X.env)::starEach es X.env:=by rfl) (hpl:(backTo pos (starEach es X.env)).any (·.1)=false:=by rfl):
  PE X (.Call (.Name x p) (e::es) [] pos) (yb5 sp dvs E t):=⟨by
 intro pins s σ H Q I h
 refine Y4 (sY I hg hm ?_ hdb)
 refine Yp (h₀:=X.base) I.ok.mod.kin hk (thn (ha pos pins s σ H _ I h) fun us s1 ⟨vs,H1,I1,r,q⟩=>⟨I1.kIn,?_⟩) he hpl
 exact zJ F hr hb hd hx I1 r q⟩
theorem xm1(F:FnOk X.prog X.w X.K X.mg X.base CX k f fd ps sp)(hr:Room k X.A)(hg:Gl X x)(hm:X.mg x=some (.ref f))(hk:PySem.W.keepIn X.K (.ref f)=true)(hb:lF X.K fd ps ds)(hd:bQ dvs ds)(hx:mY CX X E)
  (hdb:(x==("__debug__":Str))=false:=by decide):PE X (.Call (.Name x p) [] [] pos) (yb5 sp dvs E yy5):=⟨by
 intro pins s σ H Q I h
 refine Y4 (sY I hg hm ?_ hdb)
 exact Wf I.kIn hk (zJ (us:=[]) F hr hb hd hx I .nil h)⟩
theorem xx4{pl:Sem Bool}(he:PE X o ta)(c:Cls X.K C)(hm:Meth X.K C m f)(F:FnOk X.prog X.w X.K X.mg X.base CX k f fd ps sp)(hr:Room k X.A)(hb:lF X.K fd ps ds)(hd:bQ dvs ds)(hx:mY CX X E)(ha:PA X (e::es) t)
  (hst:starEach (e::es) X.env=(false,eval e X.env)::starEach es X.env:=by rfl) (hpl:(backTo pos (starEach es X.env)).any (·.1)=false:=by rfl)
  (ht:eval (.Call (.Attribute o m apos) (e::es) [] pos) X.env=(do
   let ov<-eval o X.env
   standAt apos.atName
   let (f,first)<-holding [ov] (getMethod ov m pl)
   callWith pos f first (backTo pos (starEach (e::es) X.env)) (backToKw pos (keywordEach [] X.env))):=by rfl):
  PE X (.Call (.Attribute o m apos) (e::es) [] pos) (xw0 C m sp dvs E ta t):=⟨by
 intro pins s σ H Q I h
 refine X5 (pl:=pl) (thn (he pins s σ H _ I h) fun u s1 ⟨x,H1,I1,rx,a,dx,fs,ex,ea,l,q⟩=> ?_) ht
 subst ex
 obtain rfl:u=Value.ref a:=rx
 refine zj5 I1 ea c hm l ?_
 refine Yp (first:=[.ref a]) (h₀:=X.base) I.ok.mod.kin hm.kp (thn (ha pos pins s1 σ H1 _ I1 q) fun us s2 ⟨vs,H2,I2,r,q2⟩=>⟨I2.kIn,?_⟩) hst hpl
 exact zJ (us:= .ref a::us) (vs:= .ref a::vs) F hr hb hd hx I2 (.cons rfl r) q2⟩
theorem xm2{pl:Sem Bool}(he:PE X o ta)(c:Cls X.K C)(hm:Meth X.K C m f)(F:FnOk X.prog X.w X.K X.mg X.base CX k f fd ps sp)(hr:Room k X.A)(hb:lF X.K fd ps ds)(hd:bQ dvs ds)(hx:mY CX X E)
  (ht:eval (.Call (.Attribute o m apos) [] [] pos) X.env=(do
   let ov<-eval o X.env
   standAt apos.atName
   let (f,first)<-holding [ov] (getMethod ov m pl)
   callWith pos f first (backTo pos (starEach [] X.env)) (backToKw pos (keywordEach [] X.env))):=by rfl):
  PE X (.Call (.Attribute o m apos) [] [] pos) (xw0 C m sp dvs E ta yy5):=⟨by
 intro pins s σ H Q I h
 refine X5 (pl:=pl) (thn (he pins s σ H _ I h) fun u s1 ⟨x,H1,I1,rx,a,dx,fs,ex,ea,l,q⟩=> ?_) ht
 subst ex
 obtain rfl:u=Value.ref a:=rx
 refine zj5 I1 ea c hm l ?_
 exact Wf (first:=[.ref a]) I1.kIn hm.kp (zJ (us:=[.ref a]) (vs:=[.ref a]) F hr hb hd hx I1 (.cons rfl .nil) q)⟩
structure Mk(K:tz0)(C f:Addr):Prop where
 makes:PySem.W.makesIn K C=true
 init:PySem.W.findIn K (.ref C) "__init__"=some (some (.ref f))
 fn:PySem.W.isFn K (.ref f)=true
 kp:PySem.W.keepIn K (.ref C)=true
theorem xm3{pins:tzB}{σ:St}{H:Hp}{s:Shared}{Q:VK}{us:List Value}{vs:List V}(M:Mk X.K C f)(F:FnOk X.prog X.w X.K X.mg X.base CX k f fd ps sp)(hr:Room (k+1) X.A)(hb:lF X.K fd ps ds)(hd:bQ dvs ds)
  (hx:mY CX X E) (I:Inv X pins σ H s) (r:bQ vs us)
  (h:∀x dx,H x=none->H dx=none->dx≠x->sp (.ref x::(vs++dvs)) (upd (upd H dx (.own x)) x (.ins C dx [])) (fun v H2=>v= .non/\Q (.ref x) H2) E):
  wpAny (model X.prog X.w) X.A (call (.ref C) us) (EP X pins σ Q) X.xe s:=by
 have hq:=h (s.heap.objs.size+1) s.heap.objs.size (I.hok.fresh (Nat.le_succ _)) (I.hok.fresh (Zc _)) (ZH (Xo _))
 have I2:=Inv.made (C:=C) I
 have r2:bQ (V.ref (s.heap.objs.size+1)::(vs++dvs)) (Value.ref (s.heap.objs.size+1)::(us++ds)):= .cons rfl (r.append hd)
 have hl:(Value.ref (s.heap.objs.size+1)::us++ds).length=ps.length:=by
  have e:=r2.length
  rw [F.len _ _ _ _ hq] at e
  exact e.symm
 refine wpAny_call (xm0 (f:=f) I.kIn M.makes M.init (Yy.mp M.fn) (X9 (F.run _ X.stack _ _ ⟨Value.ref (s.heap.objs.size+1)::us,[]⟩ (Value.ref (s.heap.objs.size+1)::(us++ds)) _ _ E (hr.make C us [])
  (I2.env0.make C us []) (hb _ (Value.ref (s.heap.objs.size+1)::us) I2.kIn hl) r2 hq) fun r s' hq'=> ?_))
 cases r with
 |error e=>exact hx pins σ _ _ e s' I2 hq'
 | ok fl=>
  cases fl with
  |ret u=>
   obtain⟨v,H',I3,rv,ev,q3⟩:=I2.after hq'
   subst ev
   exact⟨rv,⟨V.ref (s.heap.objs.size+1),H',I3,rfl,q3⟩⟩
  |next=>exact False.elim hq'
  |brk=>exact False.elim hq'
  |cont=>exact False.elim hq'
theorem xx5(M:Mk X.K C f)(F:FnOk X.prog X.w X.K X.mg X.base CX k f fd ps sp)(hr:Room (k+1) X.A)(hg:Gl X x)(hm:X.mg x=some (.ref C))(hb:lF X.K fd ps ds)(hd:bQ dvs ds)(hx:mY CX X E)
  (ha:PA X (e::es) t) (hdb:(x==("__debug__":Str))=false:=by decide) (he:starEach (e::es) X.env=(false,eval e X.env)::starEach es X.env:=by rfl) (hpl:(backTo pos (starEach es X.env)).any (·.1)=false:=by rfl):
  PE X (.Call (.Name x p) (e::es) [] pos) (wr2 C sp dvs E t):=⟨by
 intro pins s σ H Q I h
 refine Y4 (sY I hg hm ?_ hdb)
 refine Yp (h₀:=X.base) I.ok.mod.kin M.kp (thn (ha pos pins s σ H _ I h) fun us s1 ⟨vs,H1,I1,r,q⟩=>⟨I1.kIn,?_⟩) he hpl
 exact xm3 M F hr hb hd hx I1 r q⟩
end
structure FnScope(N P:List Str)(sc:Scope):Prop where
 kind:sc.kind= .function
 co:sc.isCoroutine=false
 gen:sc.isGenerator=false
 nd:N.Nodup
 pre:N.take P.length=P
 par:∀x∈P,sc.names.lookup x=some .local\/sc.names.lookup x=some .cell
 nofree:∀y∈sc.names,y.2≠ .free
theorem zu5{kindOf:Str->Option NameKind}{x:Str}:∀{binds:List (Str×Value)} {m:tzA},(∀v,(x,v)∉binds)->bindL kindOf binds m x=m x
 |[],_,_=>rfl
 | (n,v)::r,m,h=>by
  unfold bindL
  rw [zu5 fun w hw=>h w (Z1 _ hw)]
  split
  ·have:x≠n:=by rintro rfl;exact h v Z0
   simp [this]
  ·rfl
theorem zu6{kindOf:Str->Option NameKind}{x:Str}:∀{binds:List (Str×Value)} {m:tzA},(∀v,(x,v)∉binds)->bindC kindOf binds m x=m x
 |[],_,_=>rfl
 | (n,v)::r,m,h=>by
  unfold bindC
  rw [zu6 fun w hw=>h w (Z1 _ hw)]
  split
  ·rfl
  ·have:x≠n:=by rintro rfl;exact h v Z0
   simp [this]
theorem zu7{kindOf:Str->Option NameKind}{x:Str}{v:Value}:∀{P:List Str} {vs:List Value} {i:Nat} {m:tzA},P.Nodup->P[i]? =some x->vs[i]? =some v->kindOf x=some .local->
  bindL kindOf (P.zip vs) m x=some v
 |[],_,_,_,_,h,_,_=>by simp at h
 |_::_,[],_,_,_,_,h,_=>by simp at h
 |p::P,w::vs,0,m,nd,h1,h2,hk=>by
  simp at h1 h2;subst h1;subst h2
  show bindL kindOf ((p,w)::P.zip vs) m p=_
  unfold bindL
  rw [zu5 fun v hv=>(Zu.mp nd).1 (Xw hv).1,if_pos hk]
  simp
 |p::P,w::vs,i+1,m,nd,h1,h2,hk=>by
  show bindL kindOf ((p,w)::P.zip vs) m x=_
  unfold bindL
  exact zu7 (i:=i) (Zu.mp nd).2 (by simpa using h1) (by simpa using h2) hk
theorem zu8{kindOf:Str->Option NameKind}{x:Str}{v:Value}:∀{P:List Str} {vs:List Value} {i:Nat} {m:tzA},P.Nodup->P[i]? =some x->vs[i]? =some v->kindOf x≠some .local->
  bindC kindOf (P.zip vs) m x=some v
 |[],_,_,_,_,h,_,_=>by simp at h
 |_::_,[],_,_,_,_,h,_=>by simp at h
 |p::P,w::vs,0,m,nd,h1,h2,hk=>by
  simp at h1 h2;subst h1;subst h2
  show bindC kindOf ((p,w)::P.zip vs) m p=_
  unfold bindC
  rw [zu6 fun v hv=>(Zu.mp nd).1 (Xw hv).1,if_neg hk]
  simp
 |p::P,w::vs,i+1,m,nd,h1,h2,hk=>by
  show bindC kindOf ((p,w)::P.zip vs) m x=_
  unfold bindC
  exact zu8 (i:=i) (Zu.mp nd).2 (by simpa using h1) (by simpa using h2) hk
def start(N:List Str)(vs:List V):St:=vs.map some++List.replicate (N.length-vs.length) none
def iU(CX:CXT)(P:Program)(w:World)(K:tz0)(mg:tzA)(base:Heap)(N:List Str)(qual:Str)(scope:Scope)(f:Addr)(cd:Value)(A:Around)(outer:List Env)(s:Shared)(H:Hp)(E:XK):Cx where
 prog:=P
 w:=w
 K:=K
 mg:=mg
 base:=base
 A:=A.deeper (envOfC qual scope s.heap.objs.size f cd)
 N:=N
 s₀:=s
 H₀:=H
 env:=envOfC qual scope s.heap.objs.size f cd
 outer:=outer
 stack:=envOfC qual scope s.heap.objs.size f cd::outer
 ex:=[]
 calm:=true
 fn:=fun _=>true
 pn:=[]
 xe:=fun e s'=>wpAny (model P w) (A.deeper (envOfC qual scope s.heap.objs.size f cd)) (leaving (envOfC qual scope s.heap.objs.size f cd) e) (fun _ s''=>CX outer H s E e s'') (fun e' s''=>CX outer H s E e' s'') s'
theorem yd4{sc:Scope}{n:Nat}{x:Str}(h:sc.names.lookup x=some .cell):∃c,(cellsFrom n sc.names []).lookup x=some c:=by
 have q:=XX sc.names n [] (.inl h)
 exact XJ.mp q
theorem xb7{CX:CXT}{P:Program}{w:World}{K:tz0}{mg:tzA}{base:Heap}{N ps:List Str}{qual:Str}{scope:Scope}{f:Addr}{cd:Value}{A:Around}{outer:List Env}{s s1:Shared}{H:Hp}{E:XK}{us:List Value}{vs:List V}
  (S:FnScope N ps scope) (hd:A.handled=none) (e0:Env0 P w K mg base A outer s H) (hl:vs.length=ps.length) (r:bQ vs us)
  (x:InCallC s s.heap.objs.size (bindL (envOfC qual scope s.heap.objs.size f cd).kindOf (ps.zip us) fun _=>none) (cellsFrom (s.heap.objs.size+1) scope.names []) (bindC (envOfC qual scope s.heap.objs.size f cd).kindOf (ps.zip us) fun _=>none) s1):
  Inv (iU CX P w K mg base N qual scope f cd A outer s H E) [] (start N vs) H s1:=by
 have hpl:ps.length<=N.length:=by have:=ZK List.length S.pre;rw [Yz] at this;omega
 obtain⟨h1,tk,rfl,hk⟩:=x.done
 have noA:∀b:Addr,b∉(iU CX P w K mg base N qual scope f cd A outer s H E).ex:=fun b z=>absurd (show b∈([]:List Addr) from z) (by simp)
 refine⟨⟨e0.mod,S.kind,rfl,rfl,Zc _,fun y z c h1 h2=> ?_,fun y hy=> ?_,fun y c _ h=> ?_,fun _=>hd,Around.frames_deeper e0.frames,.inr ⟨rfl,rfl⟩,fun b z=>absurd z (noA b),e0.bs,e0.bsz,fun b _ _=>noA b,fun b z=>absurd z (noA b),e0.funs,e0.frf⟩,
  rfl,e0.bare,Un.kept hk,⟨_,x.toInCall.ns,fun i y v h1 h2 h3=> ?_⟩,fun y c h=>⟨_,x.cell y c h⟩,e0.hok.fresh (Zc _),fun y c h=> ?_,fun p hp=>absurd (show p∈([]:tzB) from hp) (by simp),e0.hok.kept hk,?_⟩
 ·exact name_of_addr x.apart (Yc h1) (Yc h2)
 ·have hy:scope.names.lookup y=some .cell\/scope.names.lookup y=some .free:=hy
  rcases hy with hy|hy
  ·exact yd4 hy
  ·exact absurd rfl (S.nofree _ (Yc hy))
 ·exact YG (x.above y c (Yc h))
 ·have hi:i<vs.length:=by
   unfold start at h2
   by_cases hi:i<vs.length
   ·exact hi
   ·rw [YJ (by simpa using hi)] at h2
    rw [Yq] at h2
    split at h2<;>cases h2
  have ha:vs[i]? =some v:=by
   unfold start at h2
   rw [ZQ (by simpa using hi),Zd] at h2
   cases e:vs[i]? with
   |none=>rw [e] at h2;cases h2
   |some a=>rw [e] at h2;cases h2;rfl
  obtain⟨u,hu,rv⟩:=r.get ha
  have hp:ps[i]? =some y:=by
   rw [<-S.pre,List.getElem?_take_of_lt (by omega)];exact h1
  have ndP:ps.Nodup:=by rw [<-S.pre];exact S.nd.sublist (List.take_sublist _ _)
  refine⟨u,rv,?_⟩
  rcases S.par y (ZM hp) with k|k
  ·exact .inl ⟨k,zu7 ndP hp hu k⟩
  ·obtain⟨c,e⟩:=yd4 (n:=s.heap.objs.size+1) k
   refine .inr ⟨.inl k,c,e,?_⟩
   have q:=x.cell y c e
   rw [zu8 ndP hp hu (by show scope.names.lookup y≠_;rw [k];decide)] at q
   exact q
 ·exact e0.hok.fresh (YG (x.above y c (Yc h)))
 ·unfold start
  show _=N.length
  rw [Z5,Z8,X6]
  omega
theorem xv1{CX:CXT}{P:Program}{w:World}{K:tz0}{mg:tzA}{base:Heap}{k:Nat}{f:Addr}{name qual:Str}{params:Arguments}{body:List Stmt}{scope:Scope}{dV kV doc pm cdv ct oc:Value}{an od:Option Addr}
  {osl:Array (Option Value)} {N ps:List Str} {sp:Sp} (lk:K.lookup f=some ⟨oc,od,.func (PySem.W.fnOf name qual params body scope dV kV doc pm an cdv ct),osl⟩) (hcd:PySem.W.codeIn K cdv qual=true) (S:FnScope N ps scope)
  (len:∀vs H Q E,sp vs H Q E->vs.length=ps.length)
  (hbody:∀(A:Around) (outer:List Env) (s:Shared) (H:Hp) (vs:List V) (Q:VK) (E:XK),Room k (A.deeper (envOfC qual scope s.heap.objs.size f cdv))->sp vs H Q E->
   ∃t,PSs (iU CX P w K mg base N qual scope f cdv A outer s H E) body t/\t {nx:=fun _ H'=>Q .non H',rt:=Q} (start N vs) H):
  FnOk P w K mg base CX (k+1) f (PySem.W.fnOf name qual params body scope dV kV doc pm an cdv ct) ps sp:=by
 refine⟨len,fun A outer s H args us vs Q E hr e0 hb r hsp=> ?_⟩
 have hl:=len _ _ _ _ hsp
 have KX:K.In s.heap:=e0.mod.kin.keeps fun b o e=>(e0.bs b o e).1
 have lim:s.heap.NoLimit:=e0.mod.nolimit.keeps fun b o e=>(e0.bs b o e).1
 have hkind:∀y∈ps.zip us,scope.names.lookup y.1=some .local\/(scope.names.lookup y.1=some .cell/\((cellsFrom (s.heap.objs.size+1) scope.names []).lookup y.1).isSome=true):=fun⟨n,v⟩ hy=>by
  rcases S.par n (Xw hy).1 with q|q
  ·exact .inl q
  ·exact .inr ⟨q,XX _ _ _ (.inl q)⟩
 refine codeAny_call_function hr.depth (KX _ _ lk) rfl S.co S.gen rfl (PySem.W.codeRec_of KX hcd) (hb _ _ _ _ ?_)
 refine wpAny_newFunctionEnv_cells S.kind hkind fun env he s1 x=> ?_
 subst he
 refine⟨lim.keeps x.toInCall.keep,codeAny_func ?_⟩
 obtain⟨t,ht,hq⟩:=hbody A outer s H vs Q E (hr.deeper _) hsp
 have I:Inv (iU CX P w K mg base N qual scope f cdv A outer s H E) [] (start N vs) H s1:=xb7 S hr.hd e0 hl r x
 refine ZO (ht [] s1 (start N vs) H _ I hq) (fun fl s' hs=> ?_) fun e s' hs=>hs
 have fin:∀{σ':St} {H':Hp} {v:V} {u:Value},Inv (iU CX P w K mg base N qual scope f cdv A outer s H E) [] σ' H' s'->cI v u->Q v H'->CE outer P w H s Q u s':=
  fun {σ' H' v u} J rv q=>⟨v,H',J.os,J.bare,J.base,J.hok,rv,q⟩
 cases fl with
 |ret u=>
  obtain⟨v,σ',H',J,rv,q⟩:=hs
  exact fin J rv q
 |next=>
  obtain⟨σ',H',J,q⟩:=hs
  exact fin (v:=V.non) (u:=Value.none) J rfl q
 |brk=>
  obtain⟨_,_,_,q⟩:=hs
  exact False.elim q
 |cont=>
  obtain⟨_,_,_,q⟩:=hs
  exact False.elim q
section
variable{X:Cx}{x:Str}{p pos:Pos}{e:Expr}{es:List Expr}{t:TA}{id T:String}{r:List V->Hp->VK->Prop}
def tCB(r:List V->Hp->VK->Prop)(t:TA):TE:=fun σ H Q=>t σ H fun vs H1=>r vs H1 Q
theorem nN(hc:CallR X (.builtin id) r)(hg:Gl X x)(hm:X.mg x=none)(hv:bootBuiltins x=some (.builtin id))(ha:PA X (e::es) t)(hn:x≠"__name__":=by decide)(hdb:(x==("__debug__":Str))=false:=by decide)
  (he:starEach (e::es) X.env=(false,eval e X.env)::starEach es X.env:=by rfl) (hpl:(backTo pos (starEach es X.env)).any (·.1)=false:=by rfl):PE X (.Call (.Name x p) (e::es) [] pos) (tCB r t):=⟨by
 intro pins s σ H Q I h
 refine Y4 (tR I hg hm hv ?_ hn hdb)
 exact Xp (thn (ha pos pins s σ H _ I h) fun us s1 ⟨vs,H1,I1,r1,q1⟩=>hc pins s1 σ H1 vs us Q I1 r1 q1) he hpl⟩
theorem xb8(hc:CallR X (.type T) r)(hg:Gl X x)(hm:X.mg x=none)(hv:bootBuiltins x=some (.type T))(ha:PA X (e::es) t)(hn:x≠"__name__":=by decide)(hdb:(x==("__debug__":Str))=false:=by decide)
  (he:starEach (e::es) X.env=(false,eval e X.env)::starEach es X.env:=by rfl) (hpl:(backTo pos (starEach es X.env)).any (·.1)=false:=by rfl):PE X (.Call (.Name x p) (e::es) [] pos) (tCB r t):=⟨by
 intro pins s σ H Q I h
 refine Y4 (tR I hg hm hv ?_ hn hdb)
 exact Yi (thn (ha pos pins s σ H _ I h) fun us s1 ⟨vs,H1,I1,r1,q1⟩=>hc pins s1 σ H1 vs us Q I1 r1 q1) he hpl⟩
end
end L2
namespace HT
open PySem PyProof.Rows
def lexLt:List Int->List Int->Bool
 |[],[]=>false
 |[],_::_=>true
 |_::_,[]=>false
 |x::xs,y::ys=>if x=y then lexLt xs ys else decide (x<y)
theorem yt8(x y:Int)(xs ys:List Int):lexLt (x::xs) (y::ys)=if x=y then lexLt xs ys else decide (x<y):=rfl
theorem zz3:lexLt [] []=false:=rfl
theorem zq3(y:Int)(ys:List Int):lexLt [] (y::ys)=true:=rfl
theorem zq4(x:Int)(xs:List Int):lexLt (x::xs) []=false:=rfl
theorem xm4(A:Around)(s:Shared)(a:Int)(t:Tok)(c:Int)(u:Tok):∃e,SeqAt.EqAt A s (.int a t) (.int c u) e/\(e=true↔a=c):=
 ⟨(a==c),SeqAt.EqAt.int_int a t c u,by simp⟩
theorem xm5(A:Around)(s:Shared)(a:Int)(t:Tok)(c:Int)(u:Tok)(prog:Program)(w:World)(E:Value->Shared->Prop)(Q:Value->Shared->Prop)(h:Q (.bool (decide (a<c))) s):
  wpAny (model prog w) A (richCompare .Lt (.int a t) (.int c u)) Q E s:=
 (PyProof.Rows.lt_int h:wpAny (model prog w) A (compareOp .Lt (.int a t) (.int c u)) Q E s)
section
open PySem.SeqAt
open PySem.AutoSeq1 (wpAny_loadPart')
open PySem.MeetsSeq PySem.MeetsSeq2 PySem.MeetsSeq3
theorem zz4(l b:Addr)(items items2:Array Value)(n n2:Nat)(dd dd2:Option Addr)(sl sl2:Array (Option Value))(ns ms:List Int)(hi:IntsAre items.toList ns)(hj:IntsAre items2.toList ms):
  Meets (Builtin.«tuple.__lt__» ⟨[.ref l,.ref b],[]⟩)
   (fun _ R s=>s.heap.get? l=some {cls:= .type "tuple",dict:=dd,data:= .seq items n,slots:=sl}/\s.heap.get? b=some {cls:= .type "tuple",dict:=dd2,data:= .seq items2 n2,slots:=sl2}/\
    R (.ok (.ret (.bool (lexLt ns ms)))) s):=
 .of_wp fun prog w A R s h=>by
  obtain⟨hp,g,d,tk,os⟩:=s;obtain⟨hl,hb,h⟩:=h
  have f2:=Wn
  have z1:items.size=ns.length:=by rw [<-hi.length];simp
  have z2:items2.size=ms.length:=by rw [<-hj.length];simp
  wp_walk using Yv hl,Yv hb,wpAny_forIn_list _ (fun rest b s'=>b.1=none/\s'=⟨hp,g,d,tk,os⟩/\∃(vs ws:List Value) (ns' ms':List Int),rest=vs.zip ws/\
   IntsAre vs ns'/\IntsAre ws ms'/\ns'.length+items2.size=ms'.length+items.size/\R (.ok (.ret (.bool (lexLt ns' ms')))) ⟨hp,g,d,tk,os⟩) _
  case turn=>
   rintro⟨y,x⟩ rest b s' ⟨hb',rfl,vs,ws,ns',ms',hz,hvi,hwi,hlen,hR⟩
   cases hvi with
   |nil=>rw [Xi] at hz;cases hz
   | cons a t hvi'=>
    cases hwi with
    |nil=>rw [Wo] at hz;cases hz
    | cons c u hwi'=>
     rw [Ye] at hz
     injection hz with hyx hrest
     injection hyx with hy hx
     subst hy hx
     rw [yt8] at hR
     simp only [Z6] at hlen
     obtain⟨e,he,hiff⟩:=xm4 A.in1 ⟨hp,g,d,tk,os⟩ a t c u
     refine Ze (he prog w _ _ ?_)
     cases e with
     |true=>
      rw [if_pos (hiff.mp rfl)] at hR
      wp_walk
      exact⟨rfl,rfl,_,_,_,_,hrest,hvi',hwi',by omega,hR⟩
     |false=>
      rw [if_neg (fun q=>absurd (hiff.mpr q) Zb)] at hR
      have hri:=xm5 A.in1 ⟨hp,g,d,tk,os⟩ a t c u prog w
      wp_walk using hri
      exact⟨_,rfl,by simpa using hR⟩
  case fin=>
   rintro⟨b1,b2⟩ s' ⟨hb',rfl,vs,ws,ns',ms',hz,hvi,hwi,hlen,hR⟩
   simp only at hb'
   subst hb'
   have hv:lexLt ns' ms'=decide (items.size<items2.size):=by
    cases hvi with
    | nil=>
     cases hwi with
     |nil=>
      simp only [ZV] at hlen
      rw [zz3]
      exact(Zh (by omega)).symm
     |cons c u hw=>
      simp only [ZV,Z6] at hlen
      rw [zq3]
      exact(Zo (by omega)).symm
    | cons a t hv=>
     cases hwi with
     |nil=>
      simp only [ZV,Z6] at hlen
      rw [zq4]
      exact(Zh (by omega)).symm
     |cons c u hw=>
      rw [Ye] at hz
      cases hz
   rw [hv] at hR
   wp_walk
   exact⟨_,rfl,by simpa [Builtin.Tuple.tupleCompareSizes] using hR⟩
  case h=>
   exact⟨rfl,rfl,items.toList,items2.toList,ns,ms,rfl,hi,hj,by omega,h⟩
end
section
variable{prog:Program}{w:World}{A:Around}{E:Value->Shared->Prop}{s:Shared}
theorem lt_tupInts{l b:Addr}{items items2:Array Value}{ns ms:List Int}{Q:Value->Shared->Prop}(hl:IsTup s.heap l items)(hb:IsTup s.heap b items2)(hi:IntsAre items.toList ns)(hj:IntsAre items2.toList ms)
  (hu:A.units<cLine) (h:Q (.bool (lexLt ns ms)) s):wpAny (model prog w) A (compareOp .Lt (.ref l) (.ref b)) Q E s:=by
 obtain⟨⟨cls,dd,data,sl⟩,ho,hc,n,hd⟩:=id hl
 obtain⟨⟨cls2,dd2,data2,sl2⟩,ho2,hc2,n2,hd2⟩:=id hb
 simp only at hc hd hc2 hd2
 subst hc hd hc2 hd2
 exact richCompare_meets_room (op:= .Lt) ⟨_,ho,rfl⟩ ⟨_,ho2,rfl⟩ W6 XY (XT _ _) (zz4 l b items items2 n n2 dd dd2 sl sl2 ns ms hi hj)
  ⟨ho,ho2,show Value.bool (lexLt ns ms)≠Value.notImplemented/\Q (.bool (lexLt ns ms)) s from⟨(fun x=>nomatch x),h⟩⟩ hu
theorem cat_tup{t b:Addr}{vs ws:List Value}{Q:Value->Shared->Prop}(ht:IsTup s.heap t vs.toArray)(hb:IsTup s.heap b ws.toArray)(hv:vs≠[])
  (h1:ws=[]->Q (.ref t) s) (h2:ws≠[]->Q (.ref s.heap.objs.size) {s with heap:=s.heap.push {cls:= .type "tuple",data:= .seq (vs++ws).toArray}})
  (hsz:vs.length+ws.length<=sizeLine):wpAny (model prog w) A (binaryOp .Add (.ref t) (.ref b)) Q E s:=by
 obtain⟨⟨cls,dd,data,sl⟩,ho,hc,n,hd⟩:=id ht
 obtain⟨⟨cls2,dd2,data2,sl2⟩,ho2,hc2,n2,hd2⟩:=id hb
 simp only at hc hd hc2 hd2
 subst hc hd hc2 hd2
 have e:vs.toArray++ws.toArray=(vs++ws).toArray:=by simp
 by_cases hw:ws=[]
 ·exact concat_meets ⟨_,ho,rfl⟩ ⟨_,ho2,rfl⟩ XL Wp YX YV (YQ _ _)
   (tuple_addW1 t b vs.toArray ws.toArray n n2 dd dd2 sl sl2 (by simpa using hv) (by simp [hw])) ⟨ho,ho2,h1 hw⟩
 ·refine concat_meets ⟨_,ho,rfl⟩ ⟨_,ho2,rfl⟩ XL Wp YX YV (YQ _ _)
   (tuple_addW2 t b vs.toArray ws.toArray n n2 dd dd2 sl sl2 (by simpa using hv) (by simpa using hw) (by rw [Zl,Zl];exact hsz)) ⟨ho,ho2,?_⟩
  rw [e]
  exact h2 hw
def sIx(n d:Nat):Option Int->Nat
 |none=>d
 |some v=>if v<0 then(v+(n:Int)).toNat else min v.toNat n
theorem sIx_none(n d:Nat):sIx n d none=d:=rfl
theorem sIx_nat(n d k:Nat):sIx n d (some (k:Int))=min k n:=by
 show(if (k:Int)<0 then((k:Int)+(n:Int)).toNat else min (k:Int).toNat n)=min k n
 rw [if_neg (by omega),YO]
end
end HT
namespace L2
open PySem PySem.Spec PyProof.Rows
abbrev TO:=St->Hp->(Option Int->Hp->Prop)->Prop
def POd(X:Cx)(e:Option Expr)(t:TO):Prop:=
 ∀(pins:tzB) (s:Shared) (σ:St) (H:Hp) (Q:Option Int->Hp->Prop),Inv X pins σ H s->t σ H Q->
  wpAny (model X.prog X.w) X.A (evalPart e X.env) (fun u s'=>∃o H',Inv X pins σ H' s'/\IsPart u o/\Q o H') X.xe s
structure PO(X:Cx)(e:Option Expr)(t:TO):Prop where
 go:POd X e t
instance {X:Cx} {e:Option Expr} {t:TO}:CoeFun (PO X e t) fun _=>POd X e t:=⟨PO.go⟩
def wd6:TO:=fun _ H Q=>Q none H
def wr3(t:TE):TO:=fun σ H Q=>t σ H fun x H1=>∃i,x= .int i/\Q (some i) H1
section
variable{X:Cx}{e:Expr}{te:TE}{lo hi:Option Expr}{tl th:TO}{pos p2:Pos}
theorem xx6:PO X none wd6:=⟨by
 intro pins s σ H Q I h
 rw [evalPart_none]
 exact ZG ⟨none,H,I,.none,h⟩⟩
theorem xx7(h:PE X e te):PO X (some e) (wr3 te):=⟨by
 intro pins s σ H Q I hw
 rw [evalPart_some]
 refine thn (h pins s σ H _ I hw) fun u s1 ⟨x,H1,I1,r1,q1⟩=> ?_
 obtain⟨i,rfl,q⟩:=q1
 obtain⟨t,rfl⟩:=r1
 exact⟨some i,H1,I1,.int i t,q⟩⟩
def SlR(X:Cx)(r:V->Option Int->Option Int->Hp->VK->Prop):Prop:=
 ∀(pins:tzB) (s:Shared) (σ:St) (H:Hp) (x:V) (v vl vu:Value) (lo hi:Option Int) (sl:Addr) (Q:VK),Inv X pins σ H s->cI x v->s.heap.IsSliceOf sl vl vu .none->IsPart vl lo->IsPart vu hi->r x lo hi H Q->
  ∃T id,typeLookup (.type T) "__getitem__"=pure (some (.builtin id))/\s.TypeIs v T/\wpAny (model X.prog X.w) X.A (getItem v (.ref sl)) (EP X pins σ Q) X.xe s
def tSl(r:V->Option Int->Option Int->Hp->VK->Prop)(te:TE)(tl th:TO):TE:=fun σ H Q=>te σ H fun x H1=>tl σ H1 fun l H2=>th σ H2 fun u H3=>r x l u H3 Q
theorem xm6{r:V->Option Int->Option Int->Hp->VK->Prop}(hr:SlR X r)(he:PE X e te)(hl:PO X lo tl)(hu:PO X hi th):PE X (.Subscript e (.Slice lo hi none p2) pos) (tSl r te tl th):=⟨by
 intro pins s σ H Q I h
 refine Subscript_ (thn (he pins s σ H _ I h) fun v s1 ⟨x,H1,I1,r1,q1⟩=> ?_)
 refine wpAny_Slice (thn (hl pins s1 σ H1 _ I1 q1) fun vl s2 ⟨l,H2,I2,pl,q2⟩=>thn (hu pins s2 σ H2 _ I2 q2) fun vu s3 ⟨u,H3,I3,pu,q3⟩=> ?_)
 rw [evalPart_none]
 refine ZG ?_
 have I4:Inv X pins σ H3 {s3 with heap:=s3.heap.push {cls:= .type "slice",data:= .fields #[vl,vu,.none]}}:=I3.kept (t':=s3.toks) fun b ob q=>Zf _ q
 obtain⟨T,id,hT,ht,hg⟩:=hr pins {s3 with heap:=s3.heap.push {cls:= .type "slice",data:= .fields #[vl,vu,.none]}} σ H3 x v vl vu l u s3.heap.objs.size Q I4 r1 (Heap.IsSliceOf.new ..) pl pu q3
 show wpAny (model X.prog X.w) X.A (subscriptTail e (.Slice lo hi none p2) v (.ref s3.heap.objs.size)) (EP X pins σ Q) X.xe {s3 with heap:=s3.heap.push {cls:= .type "slice",data:= .fields #[vl,vu,.none]}}
 exact tail_any (ops:=[.ref s3.heap.objs.size,v]) ht hT hg (by with_unfolding_all rfl)⟩
def zt7(xs:List V)(lo hi:Option Int):List V:=(xs.drop (HT.sIx xs.length 0 lo)).take (HT.sIx xs.length xs.length hi-HT.sIx xs.length 0 lo)
theorem ym0(xs:List V)(lo hi:Option Int):(zt7 xs lo hi).length<=xs.length:=by
 unfold zt7
 rw [Yz,Xq]
 omega
def wr4(K:tz0):R2:=fun x y H Q=>∃a b xs ys,x= .ref a/\y= .ref b/\SqT K H a xs/\SqT K H b ys/\xs≠[]/\xs.length+ys.length<=sizeLine/\
 (ys=[]->Q (.ref a) H)/\(ys≠[]->∀p,H p=none->Q (.ref p) (upd H p (.tup (xs++ys))))
theorem bQ.nil_iff{xs:List V}{us:List Value}(r:bQ xs us):us=[]↔xs=[]:=by
 cases r with
 |nil=>simp
 |cons _ _=>simp
theorem xx8:OpR X (binaryOp .Add) (wr4 X.K):=⟨by
 intro pins s σ H x y v u Q I rx ry h
 obtain⟨a,b,xs,ys,rfl,rfl,ha,hb,hx,hz,q1,q2⟩:=h
 cases rx
 cases ry
 obtain⟨its,r1,p1,_⟩:=I.tuple ha
 obtain⟨its2,r2,p2,_⟩:=I.tuple hb
 refine HT.cat_tup p1 p2 (fun z=>hx (r1.nil_iff.mp z)) (fun z=>⟨.ref a,H,I,rfl,q1 (r2.nil_iff.mp z)⟩) (fun z=> ?_) (by rw [<-r1.length,<-r2.length];exact hz)
 refine⟨.ref s.heap.objs.size,_,I.laid (t':=s.toks) (o:= .tup (xs++ys)) (fun b ob q=>Zf _ q) (Zc _) ?_,rfl,q2 (fun w=>z (r2.nil_iff.mpr w)) _ (I.hok.fresh (Zc _))⟩
 exact⟨by rw [Z5];exact hz,_,r1.append r2,IsTup.new _ _⟩⟩
end
def ixN(n:Nat)(i:Int):Option Nat:=if 0<=i then(if i<n then some i.toNat else none) else if-(n:Int)<=i then some (i+n).toNat else none
def atI{α:Type}(xs:List α)(i:Int):Option α:=(ixN xs.length i).bind fun j=>xs[j]?
theorem zc5{n:Nat}{i:Int}{j:Nat}(h:ixN n i=some j):seqIndex? i n=some j/\j<n/\ -(n:Int)<=i/\i<n:=by
 unfold ixN at h
 by_cases h0:0<=i
 ·rw [if_pos h0] at h
  by_cases h1:i<n
  ·rw [if_pos h1] at h
   have e:i.toNat=j:=ZB h
   exact⟨by rw [seqIndex_of h0 h1,e],by omega,by omega,h1⟩
  ·rw [if_neg h1] at h;cases h
 ·rw [if_neg h0] at h
  by_cases h1: -(n:Int)<=i
  ·rw [if_pos h1] at h
   have e:(i+n).toNat=j:=ZB h
   exact⟨by rw [seqIndex_neg (by omega) h1,e],by omega,h1,by omega⟩
  ·rw [if_neg h1] at h;cases h
theorem kU{α:Type}{xs:List α}{i:Int}{v:α}(h:atI xs i=some v):∃j,seqIndex? i xs.length=some j/\xs[j]? =some v/\j<xs.length/\ -(xs.length:Int)<=i/\i<xs.length:=by
 unfold atI at h
 cases e:ixN xs.length i with
 |none=>rw [e] at h;cases h
 |some j=>
  rw [e] at h
  obtain⟨h1,h2,h3,h4⟩:=zc5 e
  exact⟨j,h1,h,h2,h3,h4⟩
theorem zq5{α:Type}{xs:List α}{j:Nat}{v:α}(h:xs[j]? =some v):atI xs (j:Int)=some v:=by
 have hj:j<xs.length:=(Z4.mp h).1
 have e:ixN xs.length (j:Int)=some j:=by
  unfold ixN
  rw [if_pos (by omega),if_pos (by omega)];simp
 unfold atI;rw [e];exact h
theorem fE{α:Type}(xs:List α)(v:α):atI (xs++[v]) (-1)=some v:=by
 have hl:(xs++[v]).length=xs.length+1:=by simp
 have e:ixN (xs++[v]).length (-1)=some xs.length:=by
  unfold ixN
  rw [hl,if_neg (by decide),if_pos (by omega)]
  congr 1
  omega
 unfold atI
 rw [e]
 show(xs++[v])[xs.length]? =some v
 simp
def ze1(b:Expr):Prop:=∀o i,subscripted b false o i=operate [o,i] (getItem o i)
def IxR(X:Cx)(r:R2):Prop:=
 ∀(value slice:Expr) (pins:tzB) (s:Shared) (σ:St) (H:Hp) (x y:V) (v u:Value) (Q:VK),Inv X pins σ H s->cI x v->cI y u->r x y H Q->
  subscripted slice false v u=operate [v,u] (getItem v u)->wpAny (model X.prog X.w) X.A (subscriptTail value slice v u) (EP X pins σ Q) X.xe s
def wl6(X:Cx)(id:String)(r:V->List V->Hp->VK->Prop):Prop:=
 ∀(pins:tzB) (s:Shared) (σ:St) (H:Hp) (x:V) (xs:List V) (v:Value) (us:List Value) (Q:VK),Inv X pins σ H s->cI x v->bQ xs us->r x xs H Q->
  wpAny (model X.prog X.w) X.A (call (.builtin id) (v::us)) (EP X pins σ Q) X.xe s
structure MtR(X:Cx)(id:String)(r:V->List V->Hp->VK->Prop):Prop where
 go:wl6 X id r
instance {X:Cx} {id:String} {r:V->List V->Hp->VK->Prop}:CoeFun (MtR X id r) fun _=>wl6 X id r:=⟨MtR.go⟩
section
variable{X:Cx}{a b:Expr}{ta tb:TE}{pos:Pos}
theorem IxR.or{r r':R2}(h:IxR X r)(h':IxR X r'):IxR X (fun x y H Q=>r x y H Q\/r' x y H Q):=by
 intro value slice pins s σ H x y v u Q I rx ry q hs
 rcases q with q|q
 ·exact h value slice pins s σ H x y v u Q I rx ry q hs
 ·exact h' value slice pins s σ H x y v u Q I rx ry q hs
theorem ya7{r:R2}(hr:IxR X r)(ha:PE X a ta)(hb:PE X b tb)(hs:ze1 b):PE X (.Subscript a b pos) (tOp r ta tb):=⟨by
 intro pins s σ H Q I h
 exact Subscript_ (xl8 ha hb I h fun v u s2 x y H2 I2 rx ry q=>hr a b pins s2 σ H2 x y v u Q I2 rx ry q (hs _ _))⟩
def wl7(K:tz0):R2:=fun x y H Q=>∃p xs i v,x= .ref p/\y= .int i/\SqL K H p xs/\atI xs i=some v/\Q v H
def wl8(K:tz0):R2:=fun x y H Q=>∃p xs i v,x= .ref p/\y= .int i/\SqT K H p xs/\atI xs i=some v/\Q v H
def wl9:R2:=fun x y H Q=>∃z i c,x= .str z/\y= .int i/\z.length<=sizeLine/\atI z.cps.toList i=some c/\Q (.str ⟨#[c]⟩) H
theorem zq6:IxR X (wl7 X.K):=by
 intro value slice pins s σ H x y v u Q I rx ry h hs
 obtain⟨p,xs,i,z,rfl,rfl,hq,he,q⟩:=h
 cases rx
 obtain⟨t,rfl⟩:=ry
 obtain⟨its,r,pl,hz⟩:=I.list hq
 obtain⟨j,h1,h2,h3,h4,h5⟩:=kU he
 obtain⟨w,ew,rw'⟩:=r.get h2
 have hl:=r.length
 have hn:=tU
 have fin:EP X pins σ Q w s:=⟨z,H,I,rw',q⟩
 by_cases h0:0<=i
 ·have hj:i.toNat=j:=by
   rw [seqIndex_of h0 h5] at h1
   exact ZB h1
  exact item_listR pl.isList h0 (by omega) (by rw [hj];simpa using ew) fin hs
 ·have hj:(i+(its.toArray.size:Int)).toNat=j:=by
   rw [seqIndex_neg (by omega) h4] at h1
   rw [Zl,<-hl]
   exact ZB h1
  exact subscriptTail_builtinR (x:=w) pl.isList.typeIs slot_list_getitem.lookup
   (wpAny_getItem_list_neg (Q:=fun r s'=>r=w/\EP X pins σ Q r s') pl.isList (by omega) (by rw [Zl]<;>omega) (by omega) (by rw [hj];simpa using ew) ⟨rfl,fin⟩) hs
theorem wf7:IxR X (wl8 X.K):=by
 intro value slice pins s σ H x y v u Q I rx ry h hs
 obtain⟨p,xs,i,z,rfl,rfl,hq,he,q⟩:=h
 cases rx
 obtain⟨t,rfl⟩:=ry
 obtain⟨its,r,pl,hz⟩:=I.tuple hq
 obtain⟨j,h1,h2,h3,h4,h5⟩:=kU he
 obtain⟨w,ew,rw'⟩:=r.get h2
 have hl:=r.length
 have hn:=tU
 have fin:EP X pins σ Q w s:=⟨z,H,I,rw',q⟩
 exact subscriptTail_builtinR (x:=w) pl.typeIs slot_tuple_getitem.lookup
  (getItem_tuple (j:=j) (Q:=fun r s'=>r=w/\EP X pins σ Q r s') pl (by omega) (by omega) (by rw [Zl,<-hl];exact h1) (by simpa using ew) ⟨rfl,fin⟩) hs
theorem wf8:IxR X wl9:=by
 intro value slice pins s σ H x y v u Q I rx ry h hs
 obtain⟨z,i,c,rfl,rfl,hz,he,q⟩:=h
 obtain⟨t,rfl⟩:=rx
 obtain⟨t',rfl⟩:=ry
 obtain⟨j,h1,h2,h3,h4,h5⟩:=kU he
 have hl:z.cps.toList.length=z.length:=by simp [Str.length]
 rw [hl] at h1 h4 h5
 have hn:=tU
 exact tail_any (Xx s z t) slot_str_getitem.lookup (getItem_str (c:=c) (by
  have e1:decide (i< -(2^63:Int))=false:=Zh (by omega)
  have e2:decide (i>=2^63)=false:=Zh (by omega)
  rw [e1,e2,Bool.or_false]) (by rw [h1];simpa using h2) ⟨.str ⟨#[c]⟩,H,I.tok _,⟨_,rfl⟩,q⟩) hs
def rIx(K:tz0):R2:=fun x y H Q=>wl7 K x y H Q\/wl8 K x y H Q\/wl9 x y H Q
theorem xb9:IxR X (rIx X.K):=zq6.or (wf7.or wf8)
theorem yt9(its:List Value)(n j:Nat)(u:Value):Obj.mapSeq (·.setIfInBounds j u) {cls:= .type "list",data:= .seq its.toArray n}={cls:= .type "list",data:= .seq (its.set j u).toArray n}:=by
 simp [Obj.mapSeq]
theorem Inv.lst{pins:tzB}{σ:St}{H:Hp}{s:Shared}{p:Addr}{xs:List V}(I:Inv X pins σ H s)(h:H p=some (.lst xs)):
  ∃(its:List Value) (n:Nat),bQ xs its/\s.heap.get? p=some {cls:= .type "list",data:= .seq its.toArray n}/\xs.length<=sizeLine:=by
 obtain⟨z,its,n,r,e⟩:=I.hok p _ h
 exact⟨its,n,r,e,z⟩
theorem Inv.lstUpd{pins:tzB}{σ:St}{H:Hp}{s:Shared}{p:Addr}{xs ys:List V}{its its':List Value}{n n':Nat}{f:Obj->Obj}(I:Inv X pins σ H s)(h:H p=some (.lst xs))
  (ho:s.heap.get? p=some {cls:= .type "list",data:= .seq its.toArray n}) (hf:f {cls:= .type "list",data:= .seq its.toArray n}={cls:= .type "list",data:= .seq its'.toArray n'}) (r:bQ ys its') (hz:ys.length<=sizeLine) (t:Nat):
  Inv X pins σ (upd H p (.lst ys)) {s with heap:=s.heap.update p f,toks:=t}:=by
 have e:(s.heap.update p f).get? p=some {cls:= .type "list",data:= .seq its'.toArray n'}:=by
  rw [Xh f ho (by rw [hf]<;>rfl),hf]
 refine I.write (x:=p) (e:=p) (by rw [h];trivial) (.inl rfl) (fun b u hb q=>(ZZ _ _ (Y7 hb)).trans q) ⟨_,e⟩ ?_
 exact⟨hz,its',n',r,e⟩
def wr5:V->V->V->Hp->(Hp->Prop)->Prop:=fun o i v H Q=>∃p xs k j,o= .ref p/\i= .int k/\H p=some (.lst xs)/\ixN xs.length k=some j/\Q (upd H p (.lst (xs.set j v)))
theorem xm7:wl0 X wr5:=by
 intro pins s σ H o i v ov iv u Q I ro ri rv h
 obtain⟨p,xs,k,j,rfl,rfl,hp,hj,q⟩:=h
 cases ro
 obtain⟨t,rfl⟩:=ri
 obtain⟨its,n,r,ho,hz⟩:=I.lst hp
 obtain⟨h1,h2,h3,h4⟩:=zc5 hj
 have hl:=r.length
 have hn:=tU
 have I':Inv X pins σ (upd H p (.lst (xs.set j v))) {s with heap:=s.heap.update p (Obj.mapSeq (·.setIfInBounds j u))}:=
  I.lstUpd hp ho (yt9 its n j u) (r.set rv j) (by rw [Xy];exact hz) s.toks
 by_cases h0:0<=k
 ·have hk:k.toNat=j:=by
   rw [seqIndex_of h0 h4] at h1
   exact ZB h1
  exact PySem.W.ki_setAt ho h0 (by omega) (by rw [Zl,<-hl];exact h4) (by rw [hk];exact⟨_,I',q⟩)
 ·have hk:(k+(its.toArray.size:Int)).toNat=j:=by
   rw [seqIndex_neg (by omega) h3] at h1
   rw [Zl,<-hl]
   exact ZB h1
  exact PySem.W.ki_setBack ho (by omega) (by rw [Zl,<-hl];exact h3) (by omega) (by rw [hk];exact⟨_,I',q⟩)
theorem yd5(lo hi:Option Int)(n:Nat):(sliceBounds lo hi none n).1=((HT.sIx n 0 lo:Nat):Int)/\(sliceBounds lo hi none n).2.1=((HT.sIx n n hi:Nat):Int)/\(sliceBounds lo hi none n).2.2=1:=by
 refine⟨?_,?_,rfl⟩
 ·cases lo with
  |none=>simp [sliceBounds,HT.sIx]
  |some i=>
   simp only [sliceBounds,HT.sIx,Option.getD_none,show(1:Int)>0 by decide,Y9]
   by_cases h:i<0
   ·simp only [h,Y9]<;>omega
   ·simp only [h,YK]<;>omega
 ·cases hi with
  |none=>simp [sliceBounds,HT.sIx]
  |some i=>
   simp only [sliceBounds,HT.sIx,Option.getD_none,show(1:Int)>0 by decide,Y9]
   by_cases h:i<0
   ·simp only [h,Y9]<;>omega
   ·simp only [h,YK]<;>omega
theorem zz5(its:List Value)(lo hi:Option Int):slicePick its.toArray lo hi none=((its.drop (HT.sIx its.length 0 lo)).take (HT.sIx its.length its.length hi-HT.sIx its.length 0 lo)).toArray:=by
 obtain⟨h1,h2,h3⟩:=yd5 lo hi its.toArray.size
 unfold slicePick
 rw [h1,h2,h3]
 simp only [sliceRange_one,pick_run,Zl]<;>rfl
def wu5(K:tz0):V->Option Int->Option Int->Hp->VK->Prop:=fun x lo hi H Q=>∃a xs,x= .ref a/\SqL K H a xs/\∀p,H p=none->Q (.ref p) (upd H p (.lst (zt7 xs lo hi)))
theorem xx9:SlR X (wu5 X.K):=by
 intro pins s σ H x v vl vu lo hi sl Q I rx hs pl pu h
 obtain⟨a,xs,rfl,hx,q⟩:=h
 cases rx
 obtain⟨its,r,ht,hz⟩:=I.list hx
 have hlen:=r.length
 refine⟨"list",_,slot_list_getitem.lookup,ht.isList.typeIs,?_⟩
 refine wpAny_getItem_list_slice ht.isList hs pl pu .none (by simp) ?_ (by rw [Zl]<;>omega)
 rw [zz5,<-hlen]
 refine⟨.ref s.heap.objs.size,_,I.laid (t':=s.toks) (o:= .lst (zt7 xs lo hi)) (fun b ob q=>Zf _ q) (Zc _) ?_,rfl,q _ (I.hok.fresh (Zc _))⟩
 exact⟨Zv (ym0 xs lo hi) hz,_,0,(r.drop (HT.sIx xs.length 0 lo)).take (HT.sIx xs.length xs.length hi-HT.sIx xs.length 0 lo),Zw _ rfl⟩
def lG:V->Bool
 | .non=>true
 | .bl _=>true
 | .int _=>true
 | .str _=>true
 |_=>false
def eqV:V->V->Bool
 | .non,.non=>true
 | .bl a,.bl b=>a==b
 | .bl a,.int b=>(if a then 1 else 0)==b
 | .int a,.bl b=>a==(if b then 1 else 0)
 | .int a,.int b=>a==b
 | .str a,.str b=>a==b
 |_,_=>false
theorem wf9{A:Around}{s:Shared}{y x:V}{u v:Value}(ry:cI y u)(rx:cI x v)(fy:lG y=true)(fx:lG x=true):SeqAt.EqAt A s u v (eqV y x):=by
 cases y with
 |non=>
  cases ry
  cases x with
  |non=>cases rx;exact SeqAt.EqAt.same _
  |bl b=>cases rx;exact SeqAt.EqAt.none_bool b
  |int b=>obtain⟨t,rfl⟩:=rx;exact SeqAt.EqAt.none_int b t
  |str b=>obtain⟨t,rfl⟩:=rx;exact SeqAt.EqAt.none_str b t
  |_=>exact absurd (show false=true from fx) Zb
 |bl a=>
  cases ry
  cases x with
  |non=>cases rx;exact SeqAt.EqAt.bool_none a
  |bl b=>cases rx;exact SeqAt.EqAt.bool_bool a b
  |int b=>obtain⟨t,rfl⟩:=rx;exact SeqAt.EqAt.bool_int a b t
  |str b=>obtain⟨t,rfl⟩:=rx;exact SeqAt.EqAt.bool_str a b t
  |_=>exact absurd (show false=true from fx) Zb
 |int a=>
  obtain⟨t',rfl⟩:=ry
  cases x with
  |non=>cases rx;exact SeqAt.EqAt.int_none a t'
  |bl b=>cases rx;exact SeqAt.EqAt.int_bool a t' b
  |int b=>obtain⟨t,rfl⟩:=rx;exact SeqAt.EqAt.int_int a t' b t
  |str b=>obtain⟨t,rfl⟩:=rx;exact SeqAt.EqAt.int_str a t' b t
  |_=>exact absurd (show false=true from fx) Zb
 |str a=>
  obtain⟨t',rfl⟩:=ry
  cases x with
  |non=>cases rx;exact SeqAt.EqAt.str_none a t'
  |bl b=>cases rx;exact SeqAt.EqAt.str_bool a t' b
  |int b=>obtain⟨t,rfl⟩:=rx;exact SeqAt.EqAt.str_int a t' b t
  |str b=>obtain⟨t,rfl⟩:=rx;exact SeqAt.EqAt.str_str a t' b t
  |_=>exact absurd (show false=true from fx) Zb
 |_=>exact absurd (show false=true from fy) Zb
def eqU(x:V)(u:Value):Bool:=match u with
 | .none=>eqV .non x
 | .bool b=>eqV (.bl b) x
 | .int i _=>eqV (.int i) x
 | .str z _=>eqV (.str z) x
 |_=>false
theorem xc0{x y:V}{u:Value}(r:cI y u)(f:lG y=true):eqU x u=eqV y x:=by
 cases y with
 |non=>cases r;rfl
 |bl b=>cases r;rfl
 |int i=>obtain⟨t,rfl⟩:=r;rfl
 |str z=>obtain⟨t,rfl⟩:=r;rfl
 |_=>exact absurd (show false=true from f) Zb
theorem zq7{x:V}:∀{xs:List V} {us:List Value},bQ xs us->xs.all lG=true->us.any (eqU x)=xs.any fun y=>eqV y x
 |_,_,.nil,_=>rfl
 |y::xs,u::us,.cons r t,f=>by
  rw [XM,ZA] at f
  rw [YR,YR,xc0 r f.1,zq7 t f.2]
theorem zg4{A:Around}{s:Shared}{x:V}{v:Value}(rx:cI x v)(fx:lG x=true):∀{xs:List V} {us:List Value},bQ xs us->xs.all lG=true->∀u∈us,SeqAt.EqAt A s u v (eqU x u)
 |_,_,.nil,_=>fun u hu=>by cases hu
 |y::xs,u::us,.cons r t,f=>fun u' hu=>by
  rw [XM,ZA] at f
  rcases Z2.mp hu with rfl|hu
  ·rw [xc0 r f.1];exact wf9 r rx f.1 fx
  ·exact zg4 rx fx t f.2 u' hu
def inV(x:V)(xs:List V):Bool:=xs.any fun y=>eqV y x
def rIn(K:tz0)(neg:Bool):R2:=fun x y H Q=>∃p xs,y= .ref p/\(SqL K H p xs\/SqT K H p xs)/\lG x=true/\xs.all lG=true/\Q (.bl (if neg then !inV x xs else inV x xs)) H
theorem xc1:OpR X (compareOp .In) (rIn X.K false):=⟨by
 intro pins s σ H x y v u Q I rx ry h
 obtain⟨p,xs,rfl,hq,fx,fs,q⟩:=h
 cases ry
 rcases hq with hq|hq
 ·obtain⟨its,r,pl,hz⟩:=I.list hq
  refine SeqAt.in_listAt (eqU x) pl.isList (fun w hw=>zg4 rx fx r fs w (by simpa using hw)) ⟨.bl _,H,I,rfl,?_⟩
  rw [show its.toArray.any (eqU x)=its.any (eqU x) by simp,zq7 r fs]
  exact q
 ·obtain⟨its,r,pl,hz⟩:=I.tuple hq
  refine SeqAt.in_tupleAt (eqU x) pl (fun w hw=>zg4 rx fx r fs w (by simpa using hw)) ⟨.bl _,H,I,rfl,?_⟩
  rw [show its.toArray.any (eqU x)=its.any (eqU x) by simp,zq7 r fs]
  exact q⟩
theorem jT:CallR X (.builtin "len") (fun xs H Q=>∃p ys,xs=[.ref p]/\(SqL X.K H p ys\/SqT X.K H p ys)/\Q (.int ys.length) H):=⟨by
 intro pins s σ H xs us Q I r h
 obtain⟨p,ys,rfl,hq,q⟩:=h
 obtain⟨u,rfl,rx⟩:=mH r
 cases rx
 have hn:=tU
 rcases hq with hq|hq
 ·obtain⟨its,r',pl,hz⟩:=I.list hq
  have hlen:=r'.length
  exact Calls.call_len_list pl.isList (by simp only [Zl]<;>omega) ⟨.int ys.length,H,I.tok _,⟨s.toks+1,by rw [Zl,hlen]⟩,q⟩
 ·obtain⟨its,r',pl,hz⟩:=I.tuple hq
  have hlen:=r'.length
  exact len_tuple pl (by simp only [Zl]<;>omega) ⟨.int ys.length,H,I.tok _,⟨s.toks+1,by rw [Zl,hlen]⟩,q⟩⟩
theorem yd6:CallR X (.builtin "len") (fun xs H Q=>∃z,xs=[.str z]/\z.length<=sizeLine/\Q (.int z.length) H):=⟨by
 intro pins s σ H xs us Q I r h
 obtain⟨z,rfl,hz,q⟩:=h
 obtain⟨u,rfl,t,rfl⟩:=mH r
 have hn:=tU
 exact len_str (by omega) ⟨.int z.length,H,I.tok _,⟨_,rfl⟩,q⟩⟩
theorem yV:CallR X (.type "tuple") (fun xs H Q=>∃p ys,xs=[.ref p]/\((SqL X.K H p ys/\∀l,H l=none->Q (.ref l) (upd H l (.tup ys)))\/(SqT X.K H p ys/\Q (.ref p) H))):=⟨by
 intro pins s σ H xs us Q I r h
 obtain⟨p,ys,rfl,h⟩:=h
 obtain⟨u,rfl,rx⟩:=mH r
 cases rx
 rcases h with ⟨hq,q⟩|⟨hq,q⟩
 ·obtain⟨its,r',pl,hz⟩:=I.list hq
  have hlen:=r'.length
  refine call_tuple_list pl.isList (fun h' kp=> ?_) (by simp only [Zl]<;>omega)
  have I1:Inv X pins σ H {s with heap:=h'}:=I.kept (t':=s.toks) kp
  have I2:Inv X pins σ (upd H h'.objs.size (.tup ys)) {s with heap:=h'.push {cls:= .type "tuple",data:= .seq its.toArray}}:=
   I1.laid (t':=s.toks) (fun b o e=>Zf _ e) (Zc _) (show dL X.prog X.w _ _ _ (.tup ys) from⟨hz,its,r',IsTup.new _ _⟩)
  exact⟨.ref h'.objs.size,_,I2,rfl,q _ (I1.hok.fresh (Zc _))⟩
 ·obtain⟨its,r',pl,hz⟩:=I.tuple hq
  exact call_tuple_same pl ⟨.ref p,H,I,rfl,q⟩⟩
def tyV(K:tz0)(T:String)(x:V)(H:Hp):Prop:=match x with
 | .str _=>T="str"
 | .int _=>T="int"
 | .ref p=>(T="list"/\∃xs,SqL K H p xs)\/(T="tuple"/\∃o,K.lookup p=some o/\o.cls= .type "tuple"/\o.dict=none)\/
   (T="dict"/\((∃kvs,H p=some (.dK kvs))\/∃kvs,H p=some (.dT kvs)))\/(T="set"/\∃S n,H p=some (.set S n))
 |_=>False
theorem xc2{pins:tzB}{σ:St}{H:Hp}{s:Shared}{T:String}{x:V}{v:Value}(I:Inv X pins σ H s)(r:cI x v)(ty:tyV X.K T x H):
  s.TypeIs v T/\∀a,v= .ref a->∃ob,s.heap.get? a=some ob/\ob.dict=none:=by
 cases x with
 |str z=>
  obtain⟨t,rfl⟩:=r
  cases(show T="str" from ty)
  exact⟨Xx s z t,fun _ e=>nomatch e⟩
 |int i=>
  obtain⟨t,rfl⟩:=r
  cases(show T="int" from ty)
  exact⟨typeIs_int s i t,fun _ e=>nomatch e⟩
 | ref p=>
  cases r
  rcases ty with ⟨rfl,xs,hq⟩|⟨rfl,o,hk,hc,hd⟩|⟨rfl,hk⟩|⟨rfl,S,n,hk⟩
  ·obtain⟨its,_,pl,_⟩:=I.list hq
   refine⟨pl.isList.typeIs,fun a e=> ?_⟩
   cases e
   obtain⟨o,n,e,c,hd,_⟩:=pl
   exact⟨o,e,hd⟩
  ·refine⟨⟨o,I.kIn p o hk,hc⟩,fun a e=> ?_⟩
   cases e
   exact⟨o,I.kIn _ o hk,hd⟩
  ·have z:∃o,s.heap.get? p=some o/\o.ExactDict:=by
    rcases hk with ⟨kvs,hk⟩|⟨kvs,hk⟩
    ·obtain⟨_,_,_,_,o,_,_,e,ex,_⟩:=I.hok p _ hk
     exact⟨o,e,ex⟩
    ·obtain⟨_,_,_,_,o,_,_,e,ex,_⟩:=I.hok p _ hk
     exact⟨o,e,ex⟩
   obtain⟨o,e,ex⟩:=z
   refine⟨⟨o,e,ex.1⟩,fun a e2=> ?_⟩
   cases e2
   exact⟨o,e,ex.2.1⟩
  ·obtain⟨o,_,_,_,e,ex,_⟩:=I.hok p _ hk
   refine⟨⟨o,e,ex.1⟩,fun a e2=> ?_⟩
   cases e2
   exact⟨o,e,ex.2.1⟩
 |_=>exact False.elim ty
def wu6(K:tz0)(T:String)(r:V->List V->Hp->VK->Prop)(to:TE):TE:=fun σ H Q=>to σ H fun x H1=>tyV K T x H1/\r x [] H1 Q
def tBM(K:tz0)(T:String)(r:V->List V->Hp->VK->Prop)(to:TE)(t:TA):TE:=fun σ H Q=>to σ H fun x H1=>tyV K T x H1/\t σ H1 fun xs H2=>r x xs H2 Q
variable{o e:Expr}{es:List Expr}{to:TE}{t:TA}{name:Str}{apos cpos:Pos}{T id:String}{r:V->List V->Hp->VK->Prop}
theorem wg0(pa:PlainAttrs T)(slot:Slot T name id)(hty:typeOf (.builtin id)=pure (.type "method_descriptor"))(hm:MtR X id r)(ho:PE X o to)
  (hbase:attributeBase o name X.env (eval o X.env)=eval o X.env:=by rfl) (hline:(apos.endLine==cpos.line)=true:=by rfl):PE X (.Call (.Attribute o name apos) [] [] cpos) (wu6 X.K T r to):=⟨by
 intro pins s σ H Q I h
 refine wpAny_Call_method0_late hbase hline (thn (ho pins s σ H _ I h) fun v s1 ⟨x,H1,I1,r1,ty,q1⟩=> ?_)
 obtain⟨h1,h2⟩:=xc2 I1 r1 ty
 exact⟨T,id,pa,slot,hty,h1,h2,Xa rfl (PySem.evalArgs_none (hm pins s1 σ H1 x [] v [] Q I1 r1 .nil q1))⟩⟩
theorem xv2(pa:PlainAttrs T)(slot:Slot T name id)(hty:typeOf (.builtin id)=pure (.type "method_descriptor"))(hm:MtR X id r)(ho:PE X o to)(ha:PA X (e::es) t)
  (hbase:attributeBase o name X.env (eval o X.env)=eval o X.env:=by rfl)
  (hfew:((backTo cpos (starEach (e::es) X.env)).all (fun x=> !x.1)&&(backToKw cpos (keywordEach [] X.env)).all (fun x=>x.1.isSome)
   &&decide ((e::es).length+([]:List Keyword).length+(if ([]:List Keyword).isEmpty then 0 else 1)<30))=true:=by rfl)
  (hline:(apos.endLine==cpos.line)=true:=by rfl) (hs:starEach (e::es) X.env=(false,eval e X.env)::starEach es X.env:=by rfl) (hplain:(backTo cpos (starEach es X.env)).any (·.1)=false:=by rfl):
  PE X (.Call (.Attribute o name apos) (e::es) [] cpos) (tBM X.K T r to t):=⟨by
 intro pins s σ H Q I h
 refine wpAny_Call_method_late hbase hfew hline rfl (thn (ho pins s σ H _ I h) fun v s1 ⟨x,H1,I1,r1,ty,q1⟩=> ?_)
 obtain⟨h1,h2⟩:=xc2 I1 r1 ty
 refine⟨T,id,pa,slot,hty,h1,h2,?_⟩
 have hA:=ha cpos pins s1 σ H1 _ I1 q1
 rw [hs] at hA|-
 refine Xa (by show(false||(backTo cpos (starEach es X.env)).any (·.1))=false;rw [hplain]<;>rfl) (Calls.evalArgs_plain ?_)
 exact thn hA fun us s2 ⟨vs,H2,I2,r2,q2⟩=>hm pins s2 σ H2 x vs v us Q I2 r1 r2 q2⟩
end
theorem bQ.one:∀{x:V} {us:List Value},bQ [x] us->∃u,us=[u]/\cI x u
 |_,_,.cons r .nil=>⟨_,rfl,r⟩
theorem bQ.zero:∀{us:List Value},bQ [] us->us=[]
 |_,.nil=>rfl
theorem bQ.dropLast{xs:List V}{us:List Value}(h:bQ xs us):bQ xs.dropLast us.dropLast:=by
 induction h with
 |nil=>exact .nil
 |cons r t ih=>
  cases t with
  |nil=>exact .nil
  |cons q t'=>exact .cons r ih
theorem yu0{α:Type}(l:List α):l.eraseIdx (l.length-1)=l.dropLast:=by
 induction l with
 |nil=>rfl
 | cons a r ih=>
  cases r with
  |nil=>rfl
  | cons b r=>
   have e:(a::b::r).length-1=((b::r).length-1)+1:=by
    have h1:(a::b::r).length=r.length+2:=rfl
    have h2:(b::r).length=r.length+1:=rfl
    omega
   rw [e,List.eraseIdx_cons_succ,ih]
   all_goals rfl
section
variable{X:Cx}{pins:tzB}{σ:St}{H:Hp}{s:Shared}{l b:Addr}{xs ys zs:List V}
theorem Inv.lset{its its':List Value}{n:Nat}{f:Array Value->Array Value}{t':Nat}(I:Inv X pins σ H s)(hH:H l=some (.lst xs))
  (e:s.heap.get? l=some {cls:= .type "list",data:= .seq its.toArray n}) (hf:f its.toArray=its'.toArray) (hv:bQ ys its') (hz:ys.length<=sizeLine):
  Inv X pins σ (upd H l (.lst ys)) {s with heap:=s.heap.update l (Obj.mapSeq f),toks:=t'}:=by
 have q:=PySem.IsL.update e f
 rw [hf] at q
 refine I.write (x:=l) (e:=l) (by rw [hH];exact trivial) (.inl rfl) (fun b' u hb hu=>(ZZ s.heap (Obj.mapSeq f) (Y7 hb)).trans hu) ⟨_,q⟩ ?_
 exact⟨hz,its',_,hv,q⟩
theorem Inv.lnew{its:List Value}{t':Nat}(I:Inv X pins σ H s)(hv:bQ ys its)(hz:ys.length<=sizeLine):
  Inv X pins σ (upd H s.heap.objs.size (.lst ys)) {s with heap:=s.heap.push {cls:= .type "list",data:= .seq its.toArray},toks:=t'}:=
 I.laid (fun _ _ q=>Zf _ q) (Zc _) ⟨hz,its,0,hv,Zw _ rfl⟩
theorem Inv.fresh(I:Inv X pins σ H s):H s.heap.objs.size=none:=I.hok.fresh (Zc _)
theorem Inv.lstM(I:Inv X pins σ H s)(hH:H l=some (.lst xs)):xs.length<=sizeLine/\∃(its:List Value) (n:Nat),bQ xs its/\xs.length=its.length/\s.heap.get? l=some {cls:= .type "list",data:= .seq its.toArray n}:=by
 obtain⟨z,its,n,r,e⟩:=I.hok l _ hH
 exact⟨z,its,n,r,r.length,e⟩
end
section
variable{X:Cx}
def wd7:V->List V->Hp->VK->Prop:=fun x vs H Q=>∃l xs y,x= .ref l/\vs=[y]/\H l=some (.lst xs)/\xs.length<sizeLine/\Q .non (upd H l (.lst (xs++[y])))
theorem zu9:MtR X "list.append" wd7:=⟨by
 intro pins s σ H x vs v us Q I rx rv h
 obtain⟨l,xs,y,rfl,rfl,hH,hz,q⟩:=h
 cases rx
 obtain⟨u,rfl,ru⟩:=rv.one
 obtain⟨z,its,n,r,hl,e⟩:=I.lstM hH
 refine Xz F.slot_list_append ⟨_,e,rfl⟩ F.entry_list_append (F.args_list_append_2 _ _) (PySem.list_append l its.toArray n u (by rw [Zl];omega)) ⟨e,?_⟩
 refine⟨.non,_,I.lset (its':=its++[u]) hH e (by simp) (r.append (.cons ru .nil)) ?_,rfl,q⟩
 rw [Z5,W7]
 omega⟩
def wu7:V->List V->Hp->VK->Prop:=fun x vs H Q=>∃l xs y,x= .ref l/\vs=[]/\H l=some (.lst xs)/\xs[xs.length-1]? =some y/\Q y (upd H l (.lst xs.dropLast))
theorem wg1:MtR X "list.pop" wu7:=⟨by
 intro pins s σ H x vs v us Q I rx rv h
 obtain⟨l,xs,y,rfl,rfl,hH,hy,q⟩:=h
 cases rx
 have hus:=rv.zero
 subst hus
 obtain⟨z,its,n,r,hl,e⟩:=I.lstM hH
 obtain⟨u,hu,ru⟩:=r.get hy
 have hy':its.toArray[its.toArray.size-1]? =some u:=by
  show its.toArray[its.length-1]? =some u
  rw [<-W8,<-hl]
  exact hu
 refine Xz F.slot_list_pop ⟨_,e,rfl⟩ F.entry_list_pop (F.args_list_pop_1 _) (MeetsSeq.list_pop_last l its.toArray n u hy' (by rw [Zl];omega)) ⟨e,?_⟩
 refine⟨y,_,I.lset (its':=its.dropLast) hH e ?_ r.dropLast ?_,ru,q⟩
 ·show its.toArray.eraseIdxIfInBounds (its.toArray.size-1)=its.dropLast.toArray
  rw [Zl,List.eraseIdxIfInBounds_toArray,yu0]
 ·rw [List.length_dropLast]
  omega⟩
end
end L2
namespace Att
open PySem PySem.W PySem.Calls PyProof.Rows
theorem zj6{P:Params}{h:Heap}:∀(ns:List Int) (vs:List Value),WellAll P h vs (ns.map WData.int)->IntsAre vs ns:=by
 intro ns
 induction ns with
 |nil=>
  intro vs w
  rw [Xj] at w
  cases w
  exact .nil
 | cons n ns ih=>
  intro vs w
  rw [Z9] at w
  cases w with
  |cons a b=>
   cases a
   exact .cons _ _ (ih _ b)
theorem xc3{l:OpenLaw}{n:Nat}(hn:l.most=some n){P:Params}{h:Heap}{args:List WData}{vals:List Value}
  (hpre:l.row.toRowW.claim.pre args=true) (hwl:WellAll P h vals args):
  ∃a vs ns,vals=[Value.ref a]/\args=[WData.list (ns.map WData.int)]/\h.get? a=some {cls:= .type "list",data:= .seq vs.toArray}/\IntsAre vs ns/\ns.length<=n:=by
 have hsh:WShape.hasAll [] args [.list .int]=true:=(pre_splitW hpre).1
 have hc:l.pre.holds [] {args:=args}=true:=(pre_splitW hpre).2
 obtain⟨d,r,rfl,h1,h2⟩:=hasAllW_cons hsh
 obtain rfl:=hasAllW_nil h2
 obtain⟨xs,rfl,h3⟩:=hasW_list h1
 obtain⟨ns,rfl⟩:=items_int h3
 have hlen:ns.length<=n:=by
  unfold OpenLaw.pre at hc
  have h4:(WTm.not (.lt (.lit (.int (n:Int))) (.len (.arg 0)))).holds [] {args:=[.list (ns.map .int)]}=true:=by
   have h4:=(holds_andW hc).1
   rw [hn] at h4
   exact h4
  have h5:=condW_of h4 (w_not (w_lt w_lit (w_len_list (w_arg rfl))))
  rw [Z8] at h5
  refine Nat.le_of_not_lt fun q=> ?_
  have q':(n:Int)<((ns.length:Nat):Int):=by omega
  first
   |(rw [Zo q'] at h5;exact absurd h5 (by decide))
   |(simp at h5;omega)
 cases hwl with
 |cons w1 w2=>
  cases w2
  cases w1 with
  |list ho hall=>exact⟨_,_,ns,rfl,rfl,ho,zj6 ns _ hall,hlen⟩
theorem xc4(l:OpenLaw)(args:List WData):l.row.toRowW.claim.post args (.bool true) args=true:=
 postW_of (r:=l.row.toRowW) (X:=(true==true))
  (show WShape.has [] (.bool true) .bool=true by first|rfl|decide|simp [WShape.has,WShape.arms,WShape.armsAll])
  (show(WTm.eq .res (.lit (.bool true))).value [] {args:=args,res:=some (.bool true),after:=args}=some (.bool (true==true)) from w_eq_bool (w_res rfl) w_lit) rfl
theorem attach_call{l:OpenLaw}{n:Nat}{q:Program}{loose:List Str}{XP:(tzA)->Heap->Prop}{YP:World->Heap->Prop}{d:DefRec}
  (hn:l.most=some n) (hdf:d.params.defaults=[])
  (call:∀(w:World) (s₀ s₁:Shared) (mg mb:tzA) (fa:Addr) (o:Obj) (pm cd doc:Value) (a:Addr) (vs:List Value) (ns:List Int),
   Ground q loose [] XP w s₀ mg mb s₁.heap->YP w s₁.heap->
   s₁.heap.get? fa=some o->o.data= .func (docDef d.name d.params d.body d.scope pm cd doc)->s₁.heap.CodeRec cd d.name->mg d.name=some (.ref fa)->
   s₁.heap.get? a=some {cls:= .type "list",data:= .seq vs.toArray}->IntsAre vs ns->ns.length<=n->s₁.gens= #[]->
   codeAny (model l.prog w) callerA (.call (.ref fa) ⟨[.ref a],[]⟩) (fun r s'=>r= .ok (.ret (.bool true))/\OldK s₁.heap s'.heap/\s'.os=s₁.os/\AllBare s'.gens) s₁):
  WalkO q loose XP YP l.row.toRowW d [] (fun f vs=>PySem.call f vs):=by
 intro w s₀ s₁ mg mb G Y fa o pm cd doc dV kV ho hd hcd hD hmg hg args vals as hpre hlay hrd hwl hlo
 obtain rfl:dV= .none:=Dflts.none hD hdf
 obtain rfl:kV= .none:=Dflts.noKw hD
 obtain⟨a,vs,ns,rfl,rfl,hobj,hints,hlen⟩:=xc3 hn hpre hwl
 refine enter_call (X9 (call w s₀ s₁ mg mb fa o pm cd doc a vs ns G Y ho (fd_plain hd) hcd hmg hobj hints hlen hg) fun r s' hq=> ?_)
 obtain⟨rfl,h2,h3,h4⟩:=hq
 exact⟨.inl ⟨.bool true,.bool true,[],rfl,fun _=>rfl,.bool true,xc4 l _,fun _=>⟨List.Pairwise.nil,fun _ hm=>(nomatch hm)⟩⟩,h2,h3,h4⟩
end Att
namespace L2
open PySem PySem.Spec PyProof.Rows
theorem zv0:∀{vs:List Value} {ns:List Int},IntsAre vs ns->bQ (ns.map V.int) vs
 |_,_,.nil=> .nil
 |_,_,.cons n t h=> .cons ⟨t,rfl⟩ (zv0 h)
def xt7(H:Hp):Prop:=∀b,H b=none\/∃o xs,H b=some (.frz o (.lst xs))
theorem xm8{P:Program}{w:World}{K:tz0}{mg mb:tzA}{CX:CXT}{k:Nat}{fa a:Addr}{fd:FuncData}{x:Str}{sp:Sp}{s₁:Shared}{vs:List Value}{ns:List Int}
  (KX:K.In s₁.heap) (hns:s₁.heap.Ns mainGlobals mg) (hb:s₁.heap.Ns builtinsNs mb) (hbb:∀x:Str,x≠"__name__"->mb x=bootBuiltins x) (hlim:s₁.heap.NoLimit) (hg:s₁.gens= #[])
  (ha:s₁.heap.get? a=some {cls:= .type "list",data:= .seq vs.toArray}) (hi:IntsAre vs ns) (hl:ns.length<=sizeLine) (hr:Room k callerA)
  (F:∀base:Heap,K.In base->base.Ns mainGlobals mg->FnOk P w K mg base CX k fa fd [x] sp) (hbind:∀(s:Shared) (u:Value),BindsTo s fd ⟨[u],[]⟩ [(x,u)])
  (hsp:∀H:Hp,xt7 H->SqL K H a (ns.map V.int)->sp [.ref a] H (fun v _=>v= .bl true) fun _ _ _=>False)
  (hCX:∀H e s',CX [] H s₁ (fun _ _ _=>False) e s'->False):
  codeAny (model P w) callerA (.call (.ref fa) ⟨[.ref a],[]⟩) (fun r s'=>r= .ok (.ret (.bool true))/\OldK s₁.heap s'.heap/\s'.os=s₁.os/\AllBare s'.gens) s₁:=by
 have rv:=zv0 hi
 have lenV:=hi.length
 have core:∀H:Hp,xt7 H->SqL K H a (ns.map V.int)->HOk P w H s₁.heap->(∀b,H b≠none->b=a)->(H a≠none->K.lookup a=none)->
   codeAny (model P w) callerA (.call (.ref fa) ⟨[.ref a],[]⟩) (fun r s'=>r= .ok (.ret (.bool true))/\OldK s₁.heap s'.heap/\s'.os=s₁.os/\AllBare s'.gens) s₁:=by
  intro H hO hS hok hA hK
  have base_of:∀{b:Addr} {o:Obj},s₁.heap.get? b=some o->H b=none->(yD s₁.heap H).get? b=some o:=fun e n=>xl5 e n
  have noA:∀{b:Addr} {o:Obj} {es:Array DictEntry} {ep:Nat},s₁.heap.get? b=some o->o.data= .dict es ep->H b=none:=fun {b o es ep} e d=>by
   cases q:H b with
   |none=>rfl
   |some u=>
    have e':b=a:=hA b (by rw [q];simp)
    subst e'
    rw [ha] at e;cases e
    have d':Data.seq vs.toArray _=Data.dict es ep:=d
    cases d'
  have nsK:∀{b:Addr} {m:tzA},s₁.heap.Ns b m->(yD s₁.heap H).Ns b m:=fun {b m} ⟨o,es,ep,e,d,r⟩=>⟨o,es,ep,base_of e (noA e d),d,r⟩
  have hKb:K.In (yD s₁.heap H):=fun b o e=>base_of (KX b o e) (by
   cases q:H b with
   |none=>rfl
   |some u=>
    have e':b=a:=hA b (by rw [q];simp)
    subst e'
    rw [hK (by rw [q];simp)] at e;cases e)
  have hM:Mod K mg (yD s₁.heap H):=⟨hKb,nsK hns,⟨mb,nsK hb,hbb⟩,let ⟨mc,h1,h2⟩:=hlim;⟨mc,nsK h1,h2⟩⟩
  have e0:Env0 P w K mg (yD s₁.heap H) callerA [] s₁ H:=⟨rfl,hM,fun b o e=>xw9 e,Nat.le_of_eq (yz9 _ _),trivial,fun b hb=>absurd (show b∈([]:List Addr) from hb) (by simp),hok,.of_eq hg⟩
  refine X9 ((F _ hKb (nsK hns)).run callerA [] s₁ H ⟨[.ref a],[]⟩ [.ref a] [.ref a] _ _ hr e0 (hbind s₁ (.ref a)) (.cons rfl .nil) (hsp H hO hS)) fun r s' h=> ?_
  cases r with
  |error e=>exact(hCX H e s' h).elim
  | ok fl=>
   cases fl with
   |next=>exact False.elim h
   |brk=>exact False.elim h
   |cont=>exact False.elim h
   | ret u=>
    obtain⟨v,H',os,bare,un,hok',r',q⟩:=h
    have q':v= .bl true:=q
    subst q'
    obtain rfl:u=Value.bool true:=r'
    refine⟨rfl,OldK.of_keep fun b o e=> ?_,os,bare⟩
    cases q:H b with
    |none=>exact un.keep b o e q (by intro z;exact absurd (show b∈([]:List Addr) from z) (by simp)) (by simp)
    | some u=>
     rcases hO b with z|⟨ob,xs,z⟩
     ·rw [q] at z;cases z
     ·have z2:=un.frzs b ob _ z
      obtain⟨e1,_⟩:=hok b _ z
      obtain⟨e2,_⟩:=hok' b _ z2
      rw [e] at e1;cases e1
      exact e2
 cases hk:K.lookup a with
 |some o=>
  have e:=KX a o hk
  rw [ha] at e
  cases e
  refine core (fun _=>none) (fun _=> .inl rfl) (.inr ⟨_,vs.toArray,_,hk,rfl,rfl,rfl,by rw [Zl,lenV];exact hl,by simpa using rv⟩) (fun b u z=>by have z':(none:Option HO)=some u:=z;cases z') (fun b z=>absurd rfl z) fun z=>absurd rfl z
 | none=>
  refine core (fun b=>if b=a then some (.frz {cls:= .type "list",data:= .seq vs.toArray} (.lst (ns.map V.int))) else none) (fun b=> ?_) (.inl (.inr ⟨{cls:= .type "list",data:= .seq vs.toArray},if_pos rfl⟩)) (fun b u z=> ?_) (fun b z=> ?_) fun _=>hk
  ·by_cases hb:b=a
   ·exact .inr ⟨_,_,if_pos hb⟩
   ·exact .inl (if_neg hb)
  ·by_cases hb:b=a
   ·have z':=(if_pos hb).symm.trans z
    cases z'
    subst hb
    exact⟨ha,by rw [Z8];exact hl,vs,_,rv,ha⟩
   ·have z':=(if_neg hb).symm.trans z
    cases z'
  ·by_cases hb:b=a
   ·exact hb
   ·exact absurd (if_neg hb) z
theorem xy0{l:PySem.W.OpenLaw}{n k:Nat}{q:Program}{loose:List Str}{XP:(tzA)->Heap->Prop}{YP:World->Heap->Prop}{d:DefRec}{K:Params->tz0}{CX:World->CXT}{sp:World->Sp}{x:Str}
  (hn:l.most=some n) (hn2:n<=sizeLine) (hdf:d.params.defaults=[]) (hr:Room k callerA)
  (hY:∀(w:World) (h:Heap),YP w h->(K w.params).In h)
  (F:∀(w:World) (mg:tzA) (fa:Addr) (h:Heap),(K w.params).In h->h.Ns mainGlobals mg->mg d.name=some (.ref fa)->
   ∃fd:FuncData,(∀(s:Shared) (u:Value),BindsTo s fd ⟨[u],[]⟩ [(x,u)])/\
    ∀base:Heap,(K w.params).In base->base.Ns mainGlobals mg->FnOk l.prog w (K w.params) mg base (CX w) k fa fd [x] (sp w))
  (hsp:∀(w:World) (H:Hp) (a:Addr) (ns:List Int),ns.length<=n->xt7 H->SqL (K w.params) H a (ns.map V.int)->sp w [.ref a] H (fun v _=>v= .bl true) fun _ _ _=>False)
  (hCX:∀(w:World) (H:Hp) (s:Shared) (e:Value) (s':Shared),CX w [] H s (fun _ _ _=>False) e s'->False):
  PySem.W.WalkO q loose XP YP l.row.toRowW d [] (fun f vs=>PySem.call f vs):=by
 refine Att.attach_call hn hdf fun w s₀ s₁ mg mb fa o pm cd doc a vs ns G Y ho hd hcd hmg hobj hints hlen hg=> ?_
 have KX:=hY w _ Y
 obtain⟨fd,hb,hF⟩:=F w mg fa _ KX G.T.g hmg
 exact xm8 KX G.T.g G.T.b G.T.builtins G.T.nolimit hg hobj hints (Zv hlen hn2) hr hF hb (fun H hO hS=>hsp w H a ns hlen hO hS) fun H e s'=>hCX w H s₁ e s'
def iQ(s:Stmt)(j:Nat):Stmt:=match s with
 | .ClassDef _ _ _ body _ _ _ _ _ _ _=>body.getD j (.Pass ⟨0,0,0,0⟩)
 |_=> .Pass ⟨0,0,0,0⟩
def wW(s:Stmt):Arguments:=match s with
 | .FunctionDef _ a _ _ _ _ _ _ _ _=>a
 |_=>{posonlyargs:=[],args:=[],vararg:=none,kwonlyargs:=[],kw_defaults:=[],kwarg:=none,defaults:=[]}
def mM(s:Stmt):List Stmt:=match s with
 | .FunctionDef _ _ b _ _ _ _ _ _ _=>b
 |_=>[]
def aT(s:Stmt):Scope:=match s with
 | .FunctionDef _ _ _ _ _ _ sc _ _ _=>sc
 |_=>{kind:= .function,names:=[],isGenerator:=false,isCoroutine:=false}
abbrev CX0:CXT:=fun _ _ _ _ _ _=>False
abbrev E0:XK:=fun _ _ _=>False
theorem zc6{X:Cx}:mY CX0 X E0:=fun _ _ _ _ _ _ _ h=>h.elim
structure Fun(K:tz0)(x qual:Str)(st:Stmt)(f:Addr)(fd:FuncData):Prop where
 ex:∃(oc:Value) (od:Option Addr) (kV doc pm:Value) (an:Option Addr) (cdv ct:Value) (osl:Array (Option Value)),
  fd=PySem.W.fnOf x qual (wW st) (mM st) (aT st) .none kV doc pm an cdv ct/\K.lookup f=some ⟨oc,od,.func fd,osl⟩/\PySem.W.codeIn K cdv qual=true
 kp:PySem.W.keepIn K (.ref f)=true
section
variable{P:Program}{w:World}{K:tz0}{mg:tzA}{base:Heap}
theorem Fun.ok{x qual:Str}{st:Stmt}{f:Addr}{fd:FuncData}{N ps:List Str}{k:Nat}{sp:Sp}(F:Fun K x qual st f fd)(S:FnScope N ps (aT st))(len:∀vs H Q E,sp vs H Q E->vs.length=ps.length)
  (hbody:∀(cdv:Value) (A:Around) (outer:List Env) (s:Shared) (H:Hp) (vs:List V) (Q:VK) (E:XK),Room k (A.deeper (envOfC qual (aT st) s.heap.objs.size f cdv))->sp vs H Q E->
   ∃t,PSs (iU CX0 P w K mg base N qual (aT st) f cdv A outer s H E).nox (mM st) t/\t {nx:=fun _ H'=>Q .non H',rt:=Q} (start N vs) H):FnOk P w K mg base CX0 (k+1) f fd ps sp:=by
 obtain⟨oc,od,kV,doc,pm,an,cdv,ct,osl,rfl,lk,hcd⟩:=F.ex
 refine xv1 lk hcd S len fun A outer s H vs Q E hr hsp=> ?_
 obtain⟨t,h,q⟩:=hbody cdv A outer s H vs Q E hr hsp
 exact⟨t,h.nox,q⟩
theorem Fun.binds{x qual:Str}{st:Stmt}{f:Addr}{fd:FuncData}{ps:List Str}(F:Fun K x qual st f fd)
  (h:∀(kV doc pm:Value) (an:Option Addr) (cdv ct:Value) (us:List Value),us.length=ps.length->bindArgs (PySem.W.fnOf x qual (wW st) (mM st) (aT st) .none kV doc pm an cdv ct) ⟨us,[]⟩=pure (ps.zip us)):lF K fd ps []:=by
 obtain⟨oc,od,kV,doc,pm,an,cdv,ct,osl,rfl,lk,hcd⟩:=F.ex
 exact .all (h kV doc pm an cdv ct)
theorem xc5{x qual:Str}{st:Stmt}{f:Addr}{oc:Value}{od an:Option Addr}{osl:Array (Option Value)}{kV doc pm cdv ct:Value}(l:K.lookup f=some ⟨oc,od,.func (PySem.W.fnOf x qual (wW st) (mM st) (aT st) .none kV doc pm an cdv ct),osl⟩)
  (c:PySem.W.codeIn K cdv qual=true) (k:PySem.W.keepIn K (.ref f)=true):Fun K x qual st f (PySem.W.fnOf x qual (wW st) (mM st) (aT st) .none kV doc pm an cdv ct):=⟨⟨oc,od,kV,doc,pm,an,cdv,ct,osl,rfl,l,c⟩,k⟩
end
theorem uU{A:Around}{k:Nat}(hr:Room k A):A.units+1<cLine:=YL (Nat.add_le_add_left (by decide:1<=64) _) hr.units
theorem nR{n:Nat}(h:n<=1000):n<sizeLine:=YL h (by decide)
section
variable{X:Cx}
theorem pv(i:Nat){x:Str}{pos:Pos}(hN:X.N[i]? =some x:=by rfl)(hv:Vis X.env.scope x:=by first|exact Or.inl rfl|exact Or.inr (Or.inl rfl)|exact Or.inr (Or.inr rfl))(hd:(x==("__debug__":Str))=false:=by decide)
  (hcd:(x==("__classdict__":Str))=false:=by decide):PE X (.Name x pos) (wk7 i):=qP hN hv hd hcd
end
theorem ws2{c A B:Prop}[Decidable c](h1:c->A)(h2:¬c->B):if c then A else B:=by
 by_cases h:c
 ·rw [if_pos h]
  exact h1 h
 ·rw [if_neg h]
  exact h2 h
def yy6(H H':Hp):Prop:=∀b o,H b=some o->H' b=some o
theorem yy6.free{H H':Hp}(e:yy6 H H'){l:Addr}(h:H' l=Option.none):H l=Option.none:=by
 cases q:H l with
 |none=>rfl
 |some o=>
  rw [e l o q] at h
  cases h
section
variable{U:Type}[DecidableEq U]
def pR(kvs:List (U×V))(k:U):Option V:=(kvs.find? fun kv=>decide (kv.1=k)).map (·.2)
def jX(kvs:List (U×V))(k:U)(v:V):List (U×V):=
 if (kvs.any fun kv=>decide (kv.1=k))=true then kvs.map (fun kv=>if kv.1=k then(kv.1,v) else kv) else kvs++[(k,v)]
theorem tW{p:U×V}{r:List (U×V)}{k:U}(e:p.1=k):pR (p::r) k=some p.2:=by simp [pR,Ym,e]
theorem tY{p:U×V}{r:List (U×V)}{k:U}(e:¬p.1=k):pR (p::r) k=pR r k:=by simp [pR,Ym,e]
theorem zg5(k:U):∀kvs:List (U×V),(kvs.any fun kv=>decide (kv.1=k))=(pR kvs k).isSome
 |[]=>rfl
 |p::r=>by
  rw [YR]
  by_cases e:p.1=k
  ·simp only [tW e,Zo e,Bool.true_or,Option.isSome_some]
  ·rw [tY e,Zh e,Bool.false_or];exact zg5 k r
theorem zf9(kvs:List (U×V))(k:U)(v:V):(jX kvs k v).length<=kvs.length+1:=by
 unfold jX
 split
 ·rw [Z8];omega
 ·rw [Z5,Z6,ZV];omega
theorem kJ.isSome_eq{o:Option V}{u:Option Value}(r:kJ o u):o.isSome=u.isSome:=by
 cases o with
 |none=>cases u with
  |none=>rfl
  |some _=>exact(show False from r).elim
 |some _=>cases u with
  |none=>exact(show False from r).elim
  |some _=>rfl
theorem KV.val{kvs:List (U×V)}{vs:List (U×Value)}(r:KV kvs vs)(k:U):kJ (pR kvs k) (valueAt vs k):=by
 unfold KV at r
 induction r with
 |nil=>exact True.intro
 | @cons p q ps qs h t ih=>
  obtain⟨h1,h2⟩:=h
  by_cases e:p.1=k
  ·have e':q.1=k:=h1.symm.trans e
   have b:valueAt (q::qs) k=some q.2:=by simp [valueAt,Ym,e']
   rw [tW e,b];exact h2
  ·have e':¬q.1=k:=fun z=>e (h1.trans z)
   have b:valueAt (q::qs) k=valueAt qs k:=by simp [valueAt,Ym,e']
   rw [tY e,b];exact ih
theorem KV.any{kvs:List (U×V)}{vs:List (U×Value)}(r:KV kvs vs)(k:U):(kvs.any fun kv=>decide (kv.1=k))=vs.any fun kv=>decide (kv.1=k):=by
 unfold KV at r
 induction r with
 |nil=>rfl
 |cons h t ih=>rw [YR,YR,ih,h.1]
theorem KV.repl{kvs:List (U×V)}{vs:List (U×Value)}(r:KV kvs vs)(k:U){y:V}{u:Value}(ry:cI y u):
  KV (kvs.map fun kv=>if kv.1=k then(kv.1,y) else kv) (vs.map fun kv=>if kv.1=k then(kv.1,u) else kv):=by
 unfold KV at r|-
 induction r with
 |nil=>exact .nil
 | @cons p q ps qs h t ih=>
  rw [Z9,Z9]
  refine .cons ?_ ih
  obtain⟨h1,h2⟩:=h
  by_cases e:p.1=k
  ·rw [if_pos e,if_pos (h1.symm.trans e)];exact⟨h1,ry⟩
  ·rw [if_neg e,if_neg (fun z=>e (h1.trans z))];exact⟨h1,h2⟩
theorem KV.put{kvs:List (U×V)}{vs:List (U×Value)}(r:KV kvs vs)(k:U){y:V}{u:Value}(ry:cI y u):KV (jX kvs k y) (stored vs k u):=by
 unfold jX stored
 rw [r.any k]
 by_cases e:(vs.any fun kv=>decide (kv.1=k))=true
 ·rw [if_pos e,if_pos e];exact r.repl k ry
 ·rw [if_neg e,if_neg e];exact Paired.snoc r ⟨rfl,ry⟩
theorem KV.keys{kvs:List (U×V)}{vs:List (U×Value)}(r:KV kvs vs):kvs.map (·.1)=vs.map (·.1):=by
 unfold KV at r
 induction r with
 |nil=>rfl
 |cons h t ih=>rw [Z9,Z9,ih,h.1]
theorem KV.length{kvs:List (U×V)}{vs:List (U×Value)}(r:KV kvs vs):kvs.length=vs.length:=ZJ r
end
theorem ya8{P:Program}{w:World}{k:Key}{u:Value}(r:cI (kV k) u):(eO P w).is k u=true:=by
 cases k with
 |inl i=>obtain⟨t,e⟩:=(show ∃t,u=Value.int i t from r);subst e;exact yl8 P w i t
 |inr x=>obtain⟨t,e⟩:=(show ∃t,u=Value.str x t from r);subst e;exact yl9 P w x t
theorem zv1{P:Program}{w:World}:∀{ks:List Key} {us:List Value},bQ (ks.map kV) us->ItemsAre (eO P w) ks us
 |[],_,r=>by rw [Xj] at r;cases r;exact .nil
 |k::ks,_,r=>by
  rw [Z9] at r
  cases r with
  |cons h t=>exact .cons (ya8 h) (zv1 t)
abbrev KT(H:Hp):List (List Key×V)->List (List Key×Addr×Value)->Prop:=Paired fun p q=>p.1=q.1/\H q.2.1=some (.tup (p.1.map kV))/\cI p.2 q.2.2
theorem KT.val{H:Hp}{kvs:List (List Key×V)}{xs:List (List Key×Addr×Value)}(r:KT H kvs xs)(k:List Key):kJ (pR kvs k) ((atKey xs k).map (·.2)):=by
 induction r with
 |nil=>exact True.intro
 | @cons p q ps qs h t ih=>
  obtain⟨h1,_,h2⟩:=h
  by_cases e:p.1=k
  ·have e':q.1=k:=h1.symm.trans e
   have b:atKey (q::qs) k=some q.2:=by simp [atKey,Ym,e']
   rw [tW e,b];exact h2
  ·have e':¬q.1=k:=fun z=>e (h1.trans z)
   have b:atKey (q::qs) k=atKey qs k:=by simp [atKey,Ym,e']
   rw [tY e,b];exact ih
theorem KT.repl{H:Hp}{kvs:List (List Key×V)}{xs:List (List Key×Addr×Value)}(r:KT H kvs xs)(k:List Key){y:V}{u:Value}(ry:cI y u):
  KT H (kvs.map fun kv=>if kv.1=k then(kv.1,y) else kv) (xs.map (putAt k u)):=by
 induction r with
 |nil=>exact .nil
 | @cons p q ps qs h t ih=>
  rw [Z9,Z9]
  refine .cons ?_ ih
  obtain⟨h1,h2,h3⟩:=h
  unfold putAt
  by_cases e:p.1=k
  ·rw [if_pos e,if_pos (h1.symm.trans e)];exact⟨h1,h2,ry⟩
  ·rw [if_neg e,if_neg (fun z=>e (h1.trans z))];exact⟨h1,h2,h3⟩
theorem KT.put{H:Hp}{kvs:List (List Key×V)}{xs:List (List Key×Addr×Value)}(r:KT H kvs xs)(k:List Key){b:Addr}{y:V}{u:Value}(hb:H b=some (.tup (k.map kV)))(ry:cI y u):
  KT H (jX kvs k y) (storedH xs k b u):=by
 have e:(kvs.any fun kv=>decide (kv.1=k))=(atKey xs k).isSome:=by
  rw [zg5,(r.val k).isSome_eq,Wv]
 unfold jX storedH
 rw [e]
 by_cases q:(atKey xs k).isSome=true
 ·rw [if_pos q,if_pos q];exact r.repl k ry
 ·rw [if_neg q,if_neg q];exact Paired.snoc r ⟨rfl,hb,ry⟩
theorem KT.keeps{H H':Hp}{kvs:List (List Key×V)}{xs:List (List Key×Addr×Value)}(r:KT H kvs xs)(ht:∀b ys,H b=some (.tup ys)->H' b=some (.tup ys)):KT H' kvs xs:=
 Paired.mapP r fun _ _ z=>⟨z.1,ht _ _ z.2.1,z.2.2⟩
section
variable{P:Program}{w:World}{H:Hp}{h:Heap}{a:Addr}
theorem xv3{u:HO}(ok:HOk P w H h)(e:Rd H a u):dL P w H h a u:=e.ok ok
theorem uV{kvs:List (Key×V)}(ok:HOk P w H h)(e:Rd H a (.dK kvs)):kvs.length<=sizeLine/\(a==sysModules)=false/\∃vs,KV kvs vs/\h.DictOf (eO P w) a vs:=
 show dL P w H h a (.dK kvs) from xv3 ok e
theorem wo1{kvs:List (Key×V)}(ok:HOk P w H h)(e:H a=some (.dK kvs)):kvs.length<=sizeLine/\(a==sysModules)=false/\∃vs,KV kvs vs/\h.DictOf (eO P w) a vs:=uV ok (.inl e)
theorem zj7{ks:List Key}(ok:HOk P w H h)(e:H a=some (.tup (ks.map kV))):(tupleKind (eO P w)).is h ks a:=by
 obtain⟨_,its,r,o,h1,h2,n,h3⟩:=(show dL P w H h a (.tup (ks.map kV)) from ok a _ e)
 exact⟨o,its.toArray,n,h1,h2,h3,by simpa using zv1 r⟩
theorem zj8{kvs:List (List Key×V)}(ok:HOk P w H h)(e:Rd H a (.dT kvs)):kvs.length<=sizeLine/\(a==sysModules)=false/\
  ∃xs,KT H kvs xs/\h.DictOfH (tupleKind (eO P w)) a xs:=by
 obtain⟨z,y,xs,r,o,es,ep,h1,h2,h3,h4,h5⟩:=(show dL P w H h a (.dT kvs) from xv3 ok e)
 refine⟨z,y,xs,r,o,es,ep,h1,h2,h3,h4,fun x hx=> ?_,h5⟩
 have all:∀{l:List (List Key×V)} {m:List (List Key×Addr×Value)},KT H l m->∀x∈m,(tupleKind (eO P w)).is h x.1 x.2.1:=by
  intro l m q
  induction q with
  |nil=>intro x hx;exact nomatch hx
  | @cons p q ps qs hq t ih=>
   intro x hx
   rcases Z2.mp hx with e|hx
   ·subst e
    exact zj7 ok (by rw [<-hq.1];exact hq.2.1)
   ·exact ih x hx
 exact all r x hx
theorem wo2{kvs:List (List Key×V)}(ok:HOk P w H h)(e:H a=some (.dT kvs)):kvs.length<=sizeLine/\(a==sysModules)=false/\
  ∃xs,KT H kvs xs/\h.DictOfH (tupleKind (eO P w)) a xs:=zj8 ok (.inl e)
end
def zt8(H:Hp)(a:Addr)(y:V)(r:Option V):Prop:=
 (∃kvs k,Rd H a (.dK kvs)/\y=kV k/\r=pR kvs k)\/∃kvs k b,Rd H a (.dT kvs)/\y= .ref b/\H b=some (.tup (k.map kV))/\r=pR kvs k
def wm0(H:Hp)(a:Addr)(y v:V)(H':Hp):Prop:=
 (∃kvs k,H a=some (.dK kvs)/\y=kV k/\kvs.length<sizeLine/\H'=upd H a (.dK (jX kvs k v)))\/
 ∃kvs k b,H a=some (.dT kvs)/\y= .ref b/\H b=some (.tup (k.map kV))/\kvs.length<sizeLine/\H'=upd H a (.dT (jX kvs k v))
section
variable{X:Cx}{pins:tzB}{σ:St}{H:Hp}{s:Shared}{a:Addr}{y v:V}{u r:Value}{o:Option V}{A:Around}{E:Value->Shared->Prop}
theorem Inv.big(I:Inv X pins σ H s):sysModules<s.heap.objs.size:=by
 have h:mainGlobals<s.heap.objs.size:=(I.mod.glob.keeps I.bk).lt
 exact Nat.lt_trans (by decide) h
theorem xc6{Q:Value->Shared->Prop}(hu:A.units+1<cLine)(I:Inv X pins σ H s)(g:zt8 H a y (some v))(ry:cI y u)(h:∀w' s',Inv X pins σ H s'->cI v w'->Q w' s'):
  wpAny (model X.prog X.w) A (getItem (.ref a) u) Q E s:=by
 rcases g with ⟨kvs,k,e,ey,l⟩|⟨kvs,k,b,e,ey,eb,l⟩
 ·subst ey
  obtain⟨z,hd,vs,rel,dd⟩:=uV I.hok e
  obtain⟨w',hw,rw'⟩:=kJ.some_of (v:=v) (o:=valueAt vs k) (by rw [l];exact rel.val k)
  exact wpAny_getItem_of (ya8 ry) dd.mapOf hw (h w' _ (I.tok _) rw')
 ·subst ey
  cases(show u=Value.ref b from ry)
  obtain⟨z,hd,xs,rel,dd⟩:=zj8 I.hok e
  obtain⟨w',hw,rw'⟩:=kJ.some_of (v:=v) (o:=(atKey xs k).map (·.2)) (by rw [l];exact rel.val k)
  obtain⟨p,hp,hp2⟩:=Zp.mp hw
  refine wpAny_getItem_heap (XA hu) (zj7 I.hok eb) dd hp ?_
  rw [hp2]
  exact h w' _ (I.tok _) rw'
theorem xy1{Q:Value->Shared->Prop}(hu:A.units+1<cLine)(I:Inv X pins σ H s)(g:zt8 H a y o)(ry:cI y u)(h:∀s',Inv X pins σ H s'->Q (.bool (!o.isSome)) s'):
  wpAny (model X.prog X.w) A (compareOp .NotIn u (.ref a)) Q E s:=by
 rcases g with ⟨kvs,k,e,ey,l⟩|⟨kvs,k,b,e,ey,eb,l⟩
 ·subst ey
  obtain⟨z,hd,vs,rel,dd⟩:=uV I.hok e
  refine wpAny_notIn_of (ya8 ry) hd dd.mapOf ?_
  rw [<-(rel.val k).isSome_eq,<-l]
  exact h _ (I.tok _)
 ·subst ey
  cases(show u=Value.ref b from ry)
  obtain⟨z,hd,xs,rel,dd⟩:=zj8 I.hok e
  refine wpAny_notIn_heap (XA hu) (zj7 I.hok eb) hd dd ?_
  have q:=(rel.val k).isSome_eq
  rw [Wv] at q
  rw [<-q,<-l]
  exact h _ (I.tok _)
theorem yo3{h':Heap}{t':Nat}{ob:HO}(I:Inv X pins σ H s)(mu:Mut (H a))(hs:Heap.SameBut a s.heap h')(he:∃q,h'.get? a=some q)(new:dL X.prog X.w (upd H a ob) h' a ob):
  Inv X pins σ (upd H a ob) {s with heap:=h',toks:=t'}:=
 I.write (x:=a) (e:=a) mu (.inl rfl) (fun b q hb z=>(hs.2 b hb).trans z) he new
theorem wg2{P:Program}{w:World}{H':Hp}{h':Heap}{kvs:List (Key×V)}{vs:List (Key×Value)}(z:kvs.length<=sizeLine)(hd:(a==sysModules)=false)(rel:KV kvs vs)(dd:h'.DictOf (eO P w) a vs):
  dL P w H' h' a (.dK kvs):=⟨z,hd,vs,rel,dd⟩
theorem xc7{H':Hp}{Q:Unit->Shared->Prop}(hu:A.units+1<cLine)(I:Inv X pins σ H s)(g:wm0 H a y v H')(ry:cI y u)(rv:cI v r)(h:∀s',Inv X pins σ H' s'->Q () s'):
  wpAny (model X.prog X.w) A (setItem (.ref a) u r) Q E s:=by
 rcases g with ⟨kvs,k,e,ey,l,eH⟩|⟨kvs,k,b,e,ey,eb,l,eH⟩
 ·subst ey eH
  obtain⟨z,hd,vs,rel,dd⟩:=wo1 I.hok e
  have hz:vs.length<=sizeLine:=by rw [<-rel.length];exact z
  have hl:(jX kvs k v).length<=sizeLine:=by have:=zf9 kvs k v;omega
  refine wpAny_setItem_pairs (hsz:=hz) (ya8 ry) dd fun h' dd' hs=>h _ ?_
  have he:∃q,h'.get? a=some q:=let ⟨q,_,_,hq,_⟩:=dd';⟨q,hq⟩
  exact yo3 I (by rw [e];exact True.intro) hs he (wg2 hl hd (rel.put k rv) dd')
 ·subst ey eH
  cases(show u=Value.ref b from ry)
  obtain⟨z,hd,xs,rel,dd⟩:=wo2 I.hok e
  have hz:xs.length<=sizeLine:=by rw [<-ZJ rel];exact z
  have hl:(jX kvs k v).length<=sizeLine:=by have:=zf9 kvs k v;omega
  refine wpAny_setItem_heap (hsz:=hz) (XA hu) (zj7 I.hok eb) dd fun h' dd' hs=>h _ ?_
  obtain⟨q,es,ep,hq,h2,h3,h4,_,h5⟩:=dd'
  refine yo3 I (by rw [e];exact True.intro) hs ⟨q,hq⟩ ⟨hl,hd,_,(rel.put k eb rv).keeps fun c ys ec=> ?_,q,es,ep,hq,h2,h3,h4,h5⟩
  rw [bK (wn4 ec e (fun z=>nomatch z))]
  exact ec
end
section
variable{X:Cx}{pins:tzB}{σ:St}{H:Hp}{s:Shared}{a:Addr}{kvs:List (Key×V)}{k:Key}{u:Value}{A:Around}{E:Value->Shared->Prop}
theorem xy2{Q:Bool->Shared->Prop}(I:Inv X pins σ H s)(e:Rd H a (.dK kvs))(h:∀s',Inv X pins σ H s'->Q (!kvs.isEmpty) s'):wpAny (model X.prog X.w) A (truthy (.ref a)) Q E s:=by
 obtain⟨z,hd,vs,rel,dd⟩:=uV I.hok e
 refine wpAny_truthy_dict hd dd (by rw [<-rel.length];rw [Y2] at z;omega) ?_
 have q:kvs.isEmpty=vs.isEmpty:=by cases rel<;>rfl
 rw [<-q]
 exact h _ (I.tok _)
end
def xt8(i:Expr):Prop:=∀ov iv,subscripted i false ov iv=operate [ov,iv] (getItem ov iv)
theorem xy3{prog:Program}{w:World}{A:Around}{E:Value->Shared->Prop}{s:Shared}{env:Env}{value slice:Expr}{pos:Pos}{T id:String}{Q:Value->Shared->Prop}
  (hl:typeLookup (.type T) "__getitem__"=pure (some (.builtin id))) (hs:xt8 slice)
  (h:wpAny (model prog w) A (eval value env) (fun o s₁=>wpAny (model prog w) A (eval slice env) (fun i s₂=>s₂.TypeIs o T/\wpAny (model prog w) A (getItem o i) Q E s₂) E s₁) E s):
  wpAny (model prog w) A (eval (.Subscript value slice pos) env) Q E s:=by
 refine Subscript_ (ZO h (fun o s₁ h₁=>ZO h₁ (fun i s₂ h₂=> ?_) fun _ _ x=>x) fun _ _ x=>x)
 obtain⟨hT,h₂⟩:=h₂
 unfold subscriptTail
 refine Ze ?_
 rw [getitemInPython_of_ne hT.not_modules]
 refine Ze (wpAny_specialOf hT hl ?_)
 have fin:wpAny (model prog w) A (subscripted slice false o i) (fun r s₃=>wpAny (model prog w) A (letTemporaryGo value o r>>=fun _=>pure r) Q E s₃) E s₂:=by
  rw [hs o i]
  exact wpAny_operating (ZO h₂ (fun r s₃ h₃=>Ze (wpAny_letTemporaryGo (ZG h₃))) fun _ _ x=>x)
 first
  |exact ZG (Ze fin)
  |exact Ze (ZG (Ze fin))
  |exact Ze fin
theorem ym1{X:Cx}{pins:tzB}{σ:St}{H:Hp}{s:Shared}{a:Addr}{y:V}{o:Option V}(I:Inv X pins σ H s)(g:zt8 H a y o):s.TypeIs (.ref a) "dict":=by
 rcases g with ⟨kvs,k,e,_,_⟩|⟨kvs,k,b,e,_,_,_⟩
 ·obtain⟨_,_,vs,_,dd⟩:=uV I.hok e
  exact dd.typeIs
 ·obtain⟨_,_,xs,_,dd⟩:=zj8 I.hok e
  exact dd.typeIs
def wr6(td ty:TE):TE:=fun σ H Q=>td σ H fun x H1=>ty σ H1 fun y H2=>∃a v,x= .ref a/\zt8 H2 a y (some v)/\Q v H2
def wd8(ty td:TE):TE:=fun σ H Q=>ty σ H fun y H1=>td σ H1 fun x H2=>∃a o,x= .ref a/\zt8 H2 a y o/\Q (.bl (!o.isSome)) H2
def wr7(td ty tv:TE):TS:=fun D σ H=>tv σ H fun v H1=>td σ H1 fun x H2=>ty σ H2 fun y H3=>∃a H4,x= .ref a/\wm0 H3 a y v H4/\D.nx σ H4
section
variable{X:Cx}{o i e value:Expr}{pos pos' tpos:Pos}{td ty tv:TE}
theorem xy4(hu:X.A.units+1<cLine)(ho:PE X o td)(hi:PE X i ty)(hs:xt8 i):PE X (.Subscript o i pos) (wr6 td ty):=⟨by
 intro pins s σ H Q I h
 refine xy3 PySem.F.slot_dict_getitem.lookup hs (thn (ho pins s σ H _ I h) fun u s1 ⟨x,H1,I1,rx,q1⟩=>thn (hi pins s1 σ H1 _ I1 q1) fun iv s2 ⟨y,H2,I2,ry,a,v,ex,g,q2⟩=> ?_)
 subst ex
 obtain rfl:u=Value.ref a:=rx
 exact⟨ym1 I2 g,xc6 hu I2 g ry fun w' s3 I3 rw'=>⟨v,H2,I3,rw',q2⟩⟩⟩
theorem xc8(hu:X.A.units+1<cLine)(hi:PE X i ty)(ho:PE X o td):PC X .NotIn i o (wd8 ty td):=by
 intro pins s σ H Q I h
 refine thn (hi pins s σ H _ I h) fun iv s1 ⟨y,H1,I1,ry,q1⟩=>thn (ho pins s1 σ H1 _ I1 q1) fun u s2 ⟨x,H2,I2,rx,a,ov,ex,g,q2⟩=> ?_
 subst ex
 obtain rfl:u=Value.ref a:=rx
 exact xy1 hu I2 g ry fun s3 I3=>⟨.bl (!ov.isSome),H2,I3,rfl,q2⟩
theorem xy5(hu:X.A.units+1<cLine)(ho:PE X o td)(hi:PE X i ty)(hv:PE X value tv)(hs:swapsWith value (some (.Subscript o i pos')) pos.line X.env=pure false):
  PS X (.Assign [.Subscript o i pos'] value pos) (wr7 td ty tv):=⟨by
 intro pins s σ H D I h
 refine wpAny_Assign_Subscript (thn (hv pins s σ H _ I h) fun r s1 ⟨v,H1,I1,rv,q1⟩=>thn (ho pins s1 σ H1 _ I1 q1) fun u s2 ⟨x,H2,I2,rx,q2⟩=>thn (hi pins s2 σ H2 _ I2 q2) fun iv s3 ⟨y,H3,I3,ry,a,H4,ex,g,q3⟩=> ?_) hs
 subst ex
 obtain rfl:u=Value.ref a:=rx
 exact xc7 hu I3 g ry rv fun s4 I4=>⟨σ,H4,I4,q3⟩⟩
end
theorem xm9{P:Program}{w:World}{H:Hp}(h:Heap)(hb:sysModules<h.objs.size):dL P w H (h.push {cls:= .type "dict",data:= .dict #[]}) h.objs.size (.dK []):=
 ⟨ZT _,Ya.mpr (Y7 (ZH hb)),[],.nil,Heap.DictOf.new h⟩
def wm1:TE:=fun _ H Q=>∀p,H p=none->Q (.ref p) (upd H p (.dK []))
section
variable{X:Cx}{pos:Pos}
theorem xn0:PE X (.Dict [] [] pos) wm1:=⟨fun pins s σ H Q I h=>
 wpAny_Dict_empty ⟨.ref s.heap.objs.size,_,I.laid (a:=s.heap.objs.size) (o:= .dK []) (t':=s.toks) (fun _ _ q=>Zf _ q) (Zc _) (xm9 s.heap I.big),rfl,h _ (I.hok.fresh (Zc _))⟩⟩
end
def IsD(H:Hp)(a:Addr):Prop:=(∃kvs,Rd H a (.dK kvs))\/∃kvs,Rd H a (.dT kvs)
theorem wg3{X:Cx}{pins:tzB}{σ:St}{H:Hp}{s:Shared}{a:Addr}(I:Inv X pins σ H s)(d:IsD H a):
  s.TypeIs (.ref a) "dict"/\(∀b,Value.ref a= .ref b->∃ob,s.heap.get? b=some ob/\ob.dict=none)/\(a==sysModules)=false:=by
 rcases d with ⟨kvs,e⟩|⟨kvs,e⟩
 ·obtain⟨_,hd,vs,_,dd⟩:=uV I.hok e
  refine⟨dd.typeIs,fun b q=> ?_,hd⟩
  cases q
  obtain⟨ob,_,_,h1,h2,_⟩:=dd
  exact⟨ob,h1,h2.2.1⟩
 ·obtain⟨_,hd,xs,_,dd⟩:=zj8 I.hok e
  refine⟨dd.typeIs,fun b q=> ?_,hd⟩
  cases q
  obtain⟨ob,_,_,h1,h2,_⟩:=dd
  exact⟨ob,h1,h2.2.1⟩
structure Dn(K:tz0)(mg:tzA)(x:Str)(st:Stmt)(ps:List Str)(f:Addr)(fd:FuncData):Prop where
 F:Fun K x x st f fd
 b:lF K fd ps []
 m:mg x=some (.ref f)
section
variable{X:Cx}{x:Str}{st:Stmt}{ps:List Str}{f:Addr}{fd:FuncData}{k:Nat}{sp:Sp}{p pos:Pos}{e:Expr}{es:List Expr}{t:TA}
theorem yu1(D:Dn X.K X.mg x st ps f fd)(G:FnOk X.prog X.w X.K X.mg X.base CX0 k f fd ps sp)(hr:Room k X.A)(hg:Gl X x)(ha:PA X (e::es) t)
  (hdb:(x==("__debug__":Str))=false:=by decide) (he:starEach (e::es) X.env=(false,eval e X.env)::starEach es X.env:=by rfl) (hpl:(backTo pos (starEach es X.env)).any (·.1)=false:=by rfl):
  PE X (.Call (.Name x p) (e::es) [] pos) (yb5 sp [] E0 t):=yo2 G hr hg D.m D.F.kp D.b .nil zc6 ha hdb he hpl
theorem wg4(D:Dn X.K X.mg x st ps f fd)(G:FnOk X.prog X.w X.K X.mg X.base CX0 k f fd ps sp)(hr:Room k X.A)(hg:Gl X x)
  (hdb:(x==("__debug__":Str))=false:=by decide):PE X (.Call (.Name x p) [] [] pos) (yb5 sp [] E0 yy5):=xm1 G hr hg D.m D.F.kp D.b .nil zc6 hdb
end
theorem xn1{H:Hp}{p:Addr}(h:H p=none)(o:HO):yy6 H (upd H p o):=fun b u q=>by rw [bK (mG q h)];exact q
theorem ya9{n:Nat}(h:n<=1000):n<=sizeLine:=YG (nR h)
def wX(H:Hp):V->Option String
 | .non=>some "NoneType"
 | .bl _=>some "bool"
 | .int _=>some "int"
 | .str _=>some "str"
 | .ref a=>match H a with
  |some (.lst _)=>some "list"
  |some (.frz _ (.lst _))=>some "list"
  |some (.tup _)=>some "tuple"
  |some (.dK _)=>some "dict"
  |_=>none
 |_=>none
def yF(t c:String):Bool:=decide (t=c)||(decide (t="bool")&&decide (c="int"))
def kinds:List String:=["NoneType","bool","int","str","list","tuple","dict"]
theorem yd7(K:tz0):∀t∈kinds,∀c∈["bool","int","str","list","tuple","dict"],PySem.W.kitOne K (.type t) (.type c)=some (yF t c):=by
 intro t ht c hc
 simp only [kinds,Z2,Zm,ZW] at ht hc
 rcases ht with rfl|rfl|rfl|rfl|rfl|rfl|rfl<;>rcases hc with rfl|rfl|rfl|rfl|rfl|rfl<;>rfl
theorem xc9{K:tz0}{H:Hp}{x:V}{t:String}(h:wX H x=some t):TyOf K H x (.type t)/\t∈kinds:=by
 cases x with
 |non=>cases h;exact⟨.non,by decide⟩
 |bl b=>cases h;exact⟨.bl b,by decide⟩
 |int i=>cases h;exact⟨.int i,by decide⟩
 |str x=>cases h;exact⟨.str x,by decide⟩
 | ref a=>
  have h':(match H a with
   |some (.lst _)=>some "list"
   |some (.frz _ (.lst _))=>some "list"
   |some (.tup _)=>some "tuple"
   |some (.dK _)=>some "dict"
   |_=>none)=some t:=h
  cases e:H a with
  |none=>rw [e] at h';cases h'
  | some o=>
   rw [e] at h'
   cases o with
   |lst xs=>cases h';exact⟨.lst e,by decide⟩
   |tup xs=>cases h';exact⟨.tup e,by decide⟩
   |dK kvs=>cases h';exact⟨.dK e,by decide⟩
   |frz ob u=>
    cases u with
    |lst xs=>cases h';exact⟨.frz e,by decide⟩
    |_=>cases h'
   |_=>cases h'
 |_=>cases h
section
variable{X:Cx}
theorem xn2:CallR X (.builtin "isinstance") (fun xs H Q=>∃x c t,xs=[x,.ty c]/\wX H x=some t/\c∈["bool","int","str","list","tuple","dict"]/\Q (.bl (yF t c)) H):=⟨by
 intro pins s σ H xs us Q I r h
 obtain⟨x,c,t,rfl,ht,hc,q⟩:=h
 obtain⟨u,v,rfl,rx,rc⟩:=ya6 r
 cases(show v=Value.type c from rc)
 obtain⟨ty,hk⟩:=xc9 (K:=X.K) ht
 exact xb5 I rx ty (yd7 X.K t hk c hc) fun tk=>⟨.bl (yF t c),H,I.tok tk,rfl,q⟩⟩
theorem zv2:∀{bs:List Bool} {us:List Value},bQ (bs.map V.bl) us->LSm.BoolsAre us bs
 |[],_,.nil=> .nil
 |b::bs,_,.cons r t=>by
  cases(show _=Value.bool b from r)
  exact .cons b (zv2 t)
theorem xE:∀{ns:List Int} {us:List Value},bQ (ns.map V.int) us->IntsAre us ns
 |[],_,.nil=> .nil
 |n::ns,_,.cons r t=>by
  obtain⟨k,rfl⟩:=r
  exact .cons n k (xE t)
theorem xd0(hc:X.calm=true):CallR X (.builtin "all") (fun xs H Q=>∃(a:Addr) (bs:List Bool),xs=[.ref a]/\SqL X.K H a (bs.map V.bl)/\Q (.bl (bs.all id)) H):=⟨by
 intro pins s σ H xs us Q I r h
 obtain⟨a,bs,rfl,hq,q⟩:=h
 obtain⟨u,rfl,rx⟩:=mH r
 cases(show u=Value.ref a from rx)
 obtain⟨its,rv,p,hz⟩:=I.list hq
 have hl:=p.isList
 have hb:=zv2 rv
 have hlt:a<s.heap.objs.size:=by obtain⟨_,e,_⟩:=hl;exact Zi e
 refine call_all_walk (wpAny_pyIter_list hl ?_)
 refine⟨s.heap.objs.size,[s.heap.objs.size,a],[s.heap.objs.size],its.toArray.size,_,_,fun i=>(bs[i]?).getD true,rfl,Walks.list (A:=X.A.in1) (I.ok.hd hc) _ a (ZH hlt) its.toArray,
  ⟨⟨_,Zw _ rfl,rfl,rfl⟩,hl.push _⟩,fun i v s' Q' E' hP hQ=> ?_,fun h' tk hk=> ?_⟩
 ·obtain⟨b,e,rfl⟩:=hb.get i v (by simpa using hP)
  simp only [e,Option.getD_some] at hQ
  exact ZY hQ
 ·have e:((List.range its.toArray.size).all fun i=>(bs[i]?).getD true)=bs.all id:=by
   rw [Zl,hb.length];exact LSm.range_all bs
  rw [e]
  exact⟨.bl (bs.all id),H,I.kept (LSm.kept_iter hk),rfl,q⟩⟩
theorem xd1(hc:X.calm=true):CallR X (.builtin "sum") (fun xs H Q=>∃(a:Addr) (ns:List Int),xs=[.ref a]/\SqL X.K H a (ns.map V.int)/\Q (.int ns.sum) H):=⟨by
 intro pins s σ H xs us Q I r h
 obtain⟨a,ns,rfl,hq,q⟩:=h
 obtain⟨u,rfl,rx⟩:=mH r
 cases(show u=Value.ref a from rx)
 obtain⟨its,rv,p,hz⟩:=I.list hq
 have hi:=xE rv
 obtain⟨xs,hx⟩:=hi.allInts.items
 have hl':s.heap.IsList a (intItems xs):=hx▸p.isList
 refine sum_intListG (I.ok.hd hc) hl' fun h' tk t' hk=> ?_
 have e1:ns=xs.toList.map (·.1):=by
  rw [<-nums_intItems,<-hx]
  exact(show numsOf its.toArray.toList=ns from hi.numsOf).symm
 have e2:preSum (numAt xs) xs.size=ns.sum:=by
  rw [preSum_eq,XZ (by simp),e1]
 rw [e2]
 exact⟨.int ns.sum,H,I.kept hk,⟨_,rfl⟩,q⟩⟩
theorem xd2(hc:X.calm=true):CallR X (.builtin "max") (fun xs H Q=>∃(a:Addr) (ns:List Int),xs=[.ref a]/\SqL X.K H a (ns.map V.int)/\0<ns.length/\∀m,m∈ns->(∀n∈ns,n<=m)->Q (.int m) H):=⟨by
 intro pins s σ H xs us Q I r h
 obtain⟨a,ns,rfl,hq,hne,q⟩:=h
 obtain⟨u,rfl,rx⟩:=mH r
 cases(show u=Value.ref a from rx)
 obtain⟨its,rv,p,hz⟩:=I.list hq
 have hi:=xE rv
 obtain⟨xs,e⟩:=hi.allInts.items
 have hns:ns=xs.toList.map (·.1):=by
  rw [<-hi.numsOf,<-nums_intItems,<-e]
 have hsz:0<xs.size:=by
  have h3:=hne;rw [hns,Z8,ZS] at h3;exact h3
 have hl':s.heap.IsList a (intItems xs):=e▸p.isList
 refine max_intList (I.ok.hd hc) hl' hsz fun v h' tk hv hk=> ?_
 obtain⟨t,rfl⟩:=intItems_at hv
 obtain⟨h1,h2⟩:=argBest_gt (numAt xs) (xs.size-1)
 refine⟨.int _,H,I.kept hk,⟨t,rfl⟩,q _ ?_ fun b hb=> ?_⟩
 ·rw [hns,numAt_eq];exact getD_mem (by rw [Z8,ZS];omega)
 ·rw [hns] at hb
  obtain⟨j,hj,rfl⟩:=mem_getD hb
  rw [Z8,ZS] at hj
  rw [<-numAt_eq];exact h2 j (by omega)⟩
end
theorem xF{env:Env}:∀(names:List (Str×NameKind)) (cs:List (Str×Addr)),
  (∀y∈names,y.2= .free->∃c,env.cells.lookup y.1=some c)->(∀x c,cs.lookup x=some c->env.cells.lookup x=some c)->
  ∃ cl,(forIn names cs fun(y:Str×NameKind) (r:List (Str×Addr))=>
    (if (y.2== .free)=true then(do let a<-cellOf env y.1;pure (ForInStep.yield ((y.1,a)::r))) else pure (ForInStep.yield r):Sem (ForInStep (List (Str×Addr)))))=pure cl/\
   (∀x c,cl.lookup x=some c->env.cells.lookup x=some c)/\(∀x c,cs.lookup x=some c->∃c',cl.lookup x=some c')/\(∀y∈names,y.2= .free->∃c,cl.lookup y.1=some c)
 |[],cs,_,hc=>⟨cs,rfl,hc,fun x c h=>⟨c,h⟩,fun y hy=>absurd hy (Zm)⟩
 | (n,k)::r,cs,hn,hc=>by
  have hr:∀y∈r,y.2= .free->∃c,env.cells.lookup y.1=some c:=fun y hy=>hn y (Z1 _ hy)
  by_cases hk:k= .free
  ·subst hk
   obtain⟨c,e⟩:=hn (n,.free) Z0 rfl
   have hc':∀x c',((n,c)::cs).lookup x=some c'->env.cells.lookup x=some c':=fun x c' h=>by
    rw [ZC] at h
    cases hx:x==n with
    |true=>
     rw [hx] at h
     have e1:x=n:=by simpa using hx
     have e2:c=c':=ZB h
     rw [e1,<-e2];exact e
    |false=>rw [hx] at h;exact hc x c' h
   obtain⟨cl,h1,h2,h3,h4⟩:=xF (env:=env) r ((n,c)::cs) hr hc'
   refine⟨cl,?_,h2,fun x c' h=> ?_,fun y hy hf=> ?_⟩
   ·rw [List.forIn_cons]
    have e0:cellOf env n=pure c:=by unfold cellOf;rw [e]
    simp only [e0]
    exact h1
   ·cases hx:x==n with
    |true=>
     have e1:x=n:=by simpa using hx
     exact h3 x c (by rw [ZC,hx])
    |false=>exact h3 x c' (by rw [ZC,hx];exact h)
   ·rcases Z2.mp hy with e1|hy
    ·rw [e1];exact h3 n c (by rw [ZC];simp)
    ·exact h4 y hy hf
  ·obtain⟨cl,h1,h2,h3,h4⟩:=xF (env:=env) r cs hr hc
   refine⟨cl,?_,h2,h3,fun y hy hf=> ?_⟩
   ·rw [List.forIn_cons]
    have e0:(k==NameKind.free)=false:=by simpa using hk
    simp only [e0]
    exact h1
   ·rcases Z2.mp hy with e1|hy
    ·rw [e1] at hf;exact absurd hf hk
    ·exact h4 y hy hf
theorem yu2{env:Env}{scope:Scope}(h:∀y∈scope.names,y.2= .free->∃c,env.cells.lookup y.1=some c):
  ∃cl,closureFor scope env=pure cl/\(∀x c,cl.lookup x=some c->env.cells.lookup x=some c)/\(∀y∈scope.names,y.2= .free->∃c,cl.lookup y.1=some c):=by
 obtain⟨cl,h1,h2,_,h4⟩:=xF (env:=env) scope.names [] h (fun x c e=>by simp at e)
 refine⟨cl,?_,h2,h4⟩
 have e:((forIn scope.names [] fun(y:Str×NameKind) (r:List (Str×Addr))=>
    (if (y.2== .free)=true then(do let a<-cellOf env y.1;pure (ForInStep.yield ((y.1,a)::r))) else pure (ForInStep.yield r):Sem (ForInStep (List (Str×Addr)))))>>=fun s=>pure s)=pure cl:=by rw [h1];rfl
 exact e
structure CScope(sc:Scope)(NX N:List Str)(pick:List (Option Nat))(scope:Scope):Prop where
 kind:scope.kind= .function
 nocell:∀y∈scope.names,y.2≠ .cell
 names:∀y∈scope.names,y.2= .local->scope.names.lookup y.1=some .local
 frees:∀y∈scope.names,y.2= .free->sc.names.lookup y.1=some .cell\/sc.names.lookup y.1=some .free
 pk:∀p∈N.zip pick,∀j∈p.2,NX[j]? =some p.1/\scope.names.lookup p.1=some .free
 nd:N.Nodup
 len:pick.length=N.length
def rV(pick:List (Option Nat))(σ:St):St:=pick.map fun o=>o.bind fun j=>(σ[j]?).join
def cxB(X:Cx)(N:List Str)(scope:Scope)(cl:List (Str×Addr))(fp:List Addr)(s:Shared)(H:Hp):Cx where
 prog:=X.prog
 w:=X.w
 K:=X.K
 mg:=X.mg
 base:=X.base
 A:=X.A
 N:=N
 s₀:=s
 H₀:=H
 env:=compEnvC scope cl s.heap.objs.size X.env
 outer:=X.stack
 stack:=X.stack
 ex:=fp
 fn:=fun _=>false
 calm:=X.calm
 pn:=[]
 xe:=fun _ _=>False
def wm2(X:Cx)(ifs:List Expr)(t:TT):Prop:=
 ∀(pins:tzB) (s:Shared) (σ:St) (H:Hp) (Q:Bool->Hp->Prop),Inv X pins σ H s->t σ H Q->
  wpAny (model X.prog X.w) X.A (forIn ifs true fun c r=>if r=true then do let ok<-isTrue c X.env (eval c X.env);pure (ForInStep.yield ok) else pure (ForInStep.yield r)) (TP X pins σ Q) X.xe s
structure PTs(X:Cx)(ifs:List Expr)(t:TT):Prop where
 go:wm2 X ifs t
instance {X:Cx} {ifs:List Expr} {t:TT}:CoeFun (PTs X ifs t) fun _=>wm2 X ifs t:=⟨PTs.go⟩
def wu8:TT:=fun _ H Q=>Q true H
theorem wg5{X:Cx}:PTs X [] wu8:=⟨fun pins s σ H Q I h=>wpAny_tests_nil ⟨H,I,h⟩⟩
section
variable{prog:Program}{w:World}{A:Around}{R:Result->Shared->Prop}{s:Shared}
theorem xd3{elt target iter:Expr}{ifs:List Expr}{scope:Scope}{pos:Pos}{it acc:Value}{env:Env}(I:Nat->Shared->Prop)
  (turn:∀n s,I n s->wpAny (model prog w) A (pyNext it) (fun r s1=>match r with
   |none=>R (.ok .next) s1
   | some v=>wpAny (model prog w) A (letOwnedTupleGo target it v) (fun _ s1=>wpAny (model prog w) A (assign target env v) (fun _ s2=>
     wpAny (model prog w) A (forIn ifs true fun c r=>if r=true then do let ok<-isTrue c env (eval c env);pure (ForInStep.yield ok) else pure (ForInStep.yield r)) (fun ok s3=>
      if ok=true then wpAny (model prog w) A (eval elt env) (fun x s4=>
       wpAny (model prog w) A (call (.builtin "list.append") [acc,x]) (fun _ s5=>∃m,m<n/\I m s5) (fun _ _=>False) s4) (fun _ _=>False) s3
      else ∃m,m<n/\I m s3) (fun _ _=>False) s2) (fun _ _=>False) s1) (fun _ _=>False) s1) (fun _ _=>False) s)
  (n:Nat) (h:I n s):codeAny (model prog w) A (.compLoop (.ListComp elt [⟨target,iter,ifs,0⟩] scope pos) 0 it acc env) R s:=by
 refine codeAny_loop rfl I (fun n s hI=> ?_) n h
 show wpAny _ A ((compTurn (.ListComp elt [⟨target,iter,ifs,0⟩] scope pos) 0 it acc env).onRaise (fun x=>do noteFrame x env;theTreesLotGoes x)) _ _ s
 refine wpAny_noted ?_
 rw [compTurn_list]
 refine Ze (Wl (Ze (ZO (turn n s hI) (fun r s1 h1=> ?_) fun _ _ z=>z.elim)))
 cases r with
 |none=>exact ZG h1
 | some v=>
  refine Ze (ZO h1 (fun _ s1 h1=>Ze (ZO h1 (fun _ s2 h2=>Ze (ZO h2 (fun ok s3 h3=> ?_) fun _ _ z=>z.elim)) fun _ _ z=>z.elim)) fun _ _ z=>z.elim)
  cases ok with
  |false=>exact ZG ⟨rfl,h3⟩
  |true=>
   exact Ze (Ze (ZO h3 (fun x s4 h4=>Ze (ZO h4 (fun _ s5 h5=>ZG (ZG ⟨rfl,h5⟩)) fun _ _ z=>z.elim)) fun _ _ z=>z.elim))
end
def wm3(pick:List (Option Nat))(wi:TI)(g:TG)(tt:TT)(te:TE)(σ:St)(H:Hp)(Q:Addr->Hp->Prop):Prop:=wi σ H fun J H1=>∀D,H1 D=none->
 ∃ W:Nat->Nat->St->Hp->Prop,(∃m,W 0 m (rV pick σ) (upd H1 D (.lst [])))/\∀i m σ' H',W i m σ' H'->
  (J.stop i H'/\Q D H')\/(J.go i H'/\∀x H2,J.yld i H' x H2->g x σ' H2 fun σ3 H3=>tt σ3 H3 fun b H4=>
   if b=true then te σ3 H4 fun y H5=>∃ys,H5 D=some (.lst ys)/\ys.length<sizeLine/\∃m',m'<m/\W (i+1) m' σ3 (upd H5 D (.lst (ys++[y]))) else ∃m',m'<m/\W (i+1) m' σ3 H4)
def wr8(pick:List (Option Nat))(wi:TI)(g:TG)(tt:TT)(te:TE):TE:=fun σ H Q=>wm3 pick wi g tt te σ H fun D H'=>Q (.ref D) H'
section
variable{X:Cx}{sc:Scope}{NX N:List Str}{pick:List (Option Nat)}{elt tg iter:Expr}{ifs:List Expr}{scope:Scope}{pos:Pos}{wi:TI}{g:TG}{tt:TT}{te:TE}
theorem iZ{env:Env}:∀{names:List (Str×NameKind)} {x:Str} {k:NameKind},(∀y∈names,y.2≠ .cell)->
  (names.map fun(n,k)=>if (k==NameKind.free&&env.scope.kind== .function&&env.kindOf n==some .cell) then(n,NameKind.cell) else(n,k)).lookup x=some k->(k= .cell\/k= .free)->(x,NameKind.free)∈names
 |[],_,_,_,h,_=>by simp at h
 | (n,k0)::r,x,k,hn,h,hk=>by
  have hr:∀y∈r,y.2≠ .cell:=fun y hy=>hn y (Z1 _ hy)
  have h':List.lookup x ((if (k0==NameKind.free&&env.scope.kind== .function&&env.kindOf n==some .cell)=true then(n,NameKind.cell) else(n,k0))::(r.map fun(n,k)=>if (k==NameKind.free&&env.scope.kind== .function&&env.kindOf n==some .cell) then(n,NameKind.cell) else(n,k)))=some k:=h
  by_cases hc:(k0==NameKind.free&&env.scope.kind== .function&&env.kindOf n==some .cell)=true
  ·rw [if_pos hc,ZC] at h'
   cases hx:x==n with
   | true=>
    have e1:x=n:=by simpa using hx
    have e2:k0= .free:=by
     simp only [ZA,Yy] at hc
     exact hc.1.1
    rw [e1,e2];exact Z0
   |false=>rw [hx] at h';exact Z1 _ (iZ hr h' hk)
  ·rw [if_neg hc,ZC] at h'
   cases hx:x==n with
   | true=>
    rw [hx] at h'
    have e1:x=n:=by simpa using hx
    have e2:k0=k:=ZB h'
    have e3:k0= .free:=by
     rcases hk with z|z
     ·exact absurd (e2.trans z) (hn (n,k0) Z0)
     ·exact e2.trans z
    rw [e1,e3];exact Z0
   |false=>rw [hx] at h';exact Z1 _ (iZ hr h' hk)
theorem uW{env:Env}:∀{names:List (Str×NameKind)} {x:Str},names.lookup x=some .free->
  (names.map fun(n,k)=>if (k==NameKind.free&&env.scope.kind== .function&&env.kindOf n==some .cell) then(n,NameKind.cell) else(n,k)).lookup x=some .cell\/
  (names.map fun(n,k)=>if (k==NameKind.free&&env.scope.kind== .function&&env.kindOf n==some .cell) then(n,NameKind.cell) else(n,k)).lookup x=some .free
 |[],_,h=>by simp at h
 | (n,k0)::r,x,h=>by
  have ih:= @uW env r x
  show List.lookup x ((if (k0==NameKind.free&&env.scope.kind== .function&&env.kindOf n==some .cell)=true then(n,NameKind.cell) else(n,k0))::_)=_\/List.lookup x ((if (k0==NameKind.free&&env.scope.kind== .function&&env.kindOf n==some .cell)=true then(n,NameKind.cell) else(n,k0))::_)=_
  rw [ZC] at h
  cases hx:x==n with
  |true=>
   rw [hx] at h
   have e:k0= .free:=ZB h
   subst e
   by_cases hc:(NameKind.free==NameKind.free&&env.scope.kind== .function&&env.kindOf n==some .cell)=true
   ·rw [if_pos hc];left;rw [ZC,hx]
   ·rw [if_neg hc];right;rw [ZC,hx]
  | false=>
   rw [hx] at h
   rcases ih h with z|z
   ·left
    by_cases hc:(k0==NameKind.free&&env.scope.kind== .function&&env.kindOf n==some .cell)=true
    ·rw [if_pos hc,ZC,hx];exact z
    ·rw [if_neg hc,ZC,hx];exact z
   ·right
    by_cases hc:(k0==NameKind.free&&env.scope.kind== .function&&env.kindOf n==some .cell)=true
    ·rw [if_pos hc,ZC,hx];exact z
    ·rw [if_neg hc,ZC,hx];exact z
theorem xd4{pins:tzB}{σ:St}{H:Hp}{s:Shared}{cl:List (Str×Addr)}{fp:List Addr}{h':Heap}{tk:Nat}(S:CScope sc NX N pick scope)(hsc:X.env.scope=sc)(hNX:X.N=NX)
  (I:Inv X pins σ H s) (hf:∀b∈fp,oM X pins H b) (ho:∀b∈fp,∃o,s.heap.get? b=some o)
  (c1:∀x c,cl.lookup x=some c->X.env.cells.lookup x=some c) (c2:∀y∈scope.names,y.2= .free->∃c,cl.lookup y.1=some c)
  (hns:h'.Ns s.heap.objs.size fun _=>none) (hk:∀b o,s.heap.get? b=some o->h'.get? b=some o):
  Inv (cxB X N scope cl fp s H) [] (rV pick σ) H {s with heap:=h',toks:=tk}:=by
 have lt:∀b∈fp,b<s.heap.objs.size:=fun b hb=>by obtain⟨o,e⟩:=ho b hb;exact Zi e
 refine⟨⟨I.ok.mod,S.kind,I.ok.glob,I.ok.blt,Zc _,fun x y c h1 h2=>I.ok.inj x y c (c1 x c h1) (c1 y c h2),fun x hx=> ?_,fun x c z=>absurd z (by simp [cxB]),I.ok.hd,I.ok.frames,.inl rfl,
  fun b hb=>⟨ZH (lt b hb),fun x c e=>(hf b hb).2.2.2.2.1 x c (c1 x c e)⟩,I.bs,Zv I.ok.bsz I.sz,fun b o e hb=> ?_,fun b hb z=> ?_,I.stack,I.stkFree⟩,
  rfl,I.bare,Un.kept hk,⟨_,hns,fun i x v h1 h2 h3=> ?_⟩,fun x c e=> ?_,I.hok.fresh (Zc _),fun x c e=>I.freeC x c (c1 x c e),fun p hp=>absurd (show p∈([]:tzB) from hp) (by simp),I.hok.kept hk,?_⟩
 ·have hx':(relabel scope X.env).names.lookup x=some .cell\/(relabel scope X.env).names.lookup x=some .free:=hx
  have hm:(x,NameKind.free)∈scope.names:=by
   rcases hx' with z|z
   ·exact iZ S.nocell z (.inl rfl)
   ·exact iZ S.nocell z (.inr rfl)
  exact c2 _ hm rfl
 ·rcases(hf b hb).2.2.2.1 with z|z
  ·exact I.ok.noex b o e z
  ·exact absurd (Zx (Zi e) (Zv I.ok.bsz z)) (Y3 _)
 ·rcases Z2.mp (I.stkSub b z) with z|z
  ·exact(hf b hb).2.1 z
  ·exact(hf b hb).2.2.1 z
 ·
  have hN':N[i]? =some x:=h1
  have h2':(rV pick σ)[i]? =some (some v):=h2
  unfold rV at h2'
  rw [Zd] at h2'
  cases ep:pick[i]? with
  |none=>rw [ep] at h2';cases h2'
  | some o=>
   rw [ep] at h2'
   cases o with
   |none=>cases h2'
   | some j=>
    have h4:(σ[j]?).join=some v:=ZB h2'
    have h5:σ[j]? =some (some v):=by
     cases e:σ[j]? with
     |none=>rw [e] at h4;cases h4
     |some q=>rw [e] at h4;exact ZK some h4
    have hz:(x,some j)∈N.zip pick:=by
     refine ZM (i:=i) ?_
     rw [List.getElem?_zip_eq_some];exact⟨hN',ep⟩
    obtain⟨h6,h7⟩:=S.pk _ hz j rfl
    have hfr:(x,NameKind.free)∈scope.names:=Yc h7
    have hcf:=S.frees _ hfr rfl
    have hcf':X.env.kindOf x=some .cell\/X.env.kindOf x=some .free:=by
     show X.env.scope.names.lookup x=_\/X.env.scope.names.lookup x=_
     rw [hsc];exact hcf
    obtain⟨m,hn,hl⟩:=I.loc
    obtain⟨u,ru,lk⟩:=hl j x v (by rw [hNX];exact h6) h5 (.inr hcf')
    refine⟨u,ru,.inr ⟨uW h7,?_⟩⟩
    obtain⟨c,ec⟩:=c2 _ hfr rfl
    refine⟨c,ec,?_⟩
    rcases lk with ⟨k1,_⟩|⟨_,c',ec',hcell⟩
    ·rcases hcf' with z|z
     ·rw [k1] at z;cases z
     ·rw [k1] at z;cases z
    ·have e':=c1 x c ec
     rw [ec'] at e'
     cases e'
     obtain⟨o,e1,e2⟩:=hcell
     exact⟨o,hk _ _ e1,e2⟩
 ·obtain⟨v,o,e1,e2⟩:=I.cell x c (c1 x c e)
  exact⟨v,o,hk _ _ e1,e2⟩
 ·show(rV pick σ).length=N.length
  unfold rV
  rw [Z8];exact S.len
theorem yu3{pins:tzB}{σ σ':St}{H H':Hp}{s s':Shared}{cl:List (Str×Addr)}{fp:List Addr}(I:Inv X pins σ H s)(hf:∀b∈fp,oM X pins H b)
  (J:Inv (cxB X N scope cl fp s H) [] σ' H' s'):Inv X pins σ H' s':=
 I.call' (ch:=fp) J.os J.base J.hok J.bare fun b hb=>⟨(hf b hb).2.2.2.1,(hf b hb).2.1,(hf b hb).2.2.2.2.1,(hf b hb).2.2.2.2.2⟩
theorem yu4{pins:tzB}{σ:St}{H2:Hp}{s2:Shared}{cl:List (Str×Addr)}{J:It}{fp:List Addr}{it:Addr}{tn:Nat->Heap->Prop}{RR:Value->Addr->Result->Shared->Prop}{E:Value->Shared->Prop}{Q:Addr->Hp->Prop}
  (S:CScope sc NX N pick scope) (hsc:X.env.scope=sc) (hNX:X.N=NX) (hc:X.calm=true)
  (hg:∀cl fp s H,PG (cxB X N scope cl fp s H) tg g) (ht:∀cl fp s H,PTs (cxB X N scope cl fp s H) ifs tt) (he:∀cl fp s H,PE (cxB X N scope cl fp s H) elt te)
  (I2:Inv X pins σ H2 s2) (T:Turn X.prog X.w X.K tg J fp it tn) (st2:tn 0 s2.heap) (f2:∀b∈fp,oM X pins H2 b)
  (c1:∀x c,cl.lookup x=some c->X.env.cells.lookup x=some c) (c2:∀y∈scope.names,y.2= .free->∃c,cl.lookup y.1=some c)
  (q:∀D,H2 D=none->∃W:Nat->Nat->St->Hp->Prop,(∃m,W 0 m (rV pick σ) (upd H2 D (.lst [])))/\∀i m σ' H',W i m σ' H'->
   (J.stop i H'/\Q D H')\/(J.go i H'/\∀x H2,J.yld i H' x H2->g x σ' H2 fun σ3 H3=>tt σ3 H3 fun b H4=>
    if b=true then te σ3 H4 fun y H5=>∃ys,H5 D=some (.lst ys)/\ys.length<sizeLine/\∃m',m'<m/\W (i+1) m' σ3 (upd H5 D (.lst (ys++[y]))) else ∃m',m'<m/\W (i+1) m' σ3 H4))
  (fin:∀D C H' s',Inv X pins σ H' s'->H' C=none->X.s₀.heap.objs.size<=C->C≠X.env.locals->(∀x c,X.env.cells.lookup x=some c->c≠C)->(∀p∈X.pn++pins,p.1≠C)->(∃m,s'.heap.Ns C m)->Q D H'->RR (.ref D) C (.ok .next) s'):
  wpAny (model X.prog X.w) X.A (newList []) (fun acc s3=>wpAny (model X.prog X.w) X.A (newFunctionEnv scope X.env.globals cl [] X.env.qual none .none (some X.env)) (fun cenv s4=>
   codeAny (model X.prog X.w) X.A (.compStart (.ListComp elt [⟨tg,iter,ifs,0⟩] scope pos) 0 (.ref it) acc {cenv with scope:=relabel scope X.env}) (RR acc cenv.locals) s4) E s3) E s2:=by
 have hD:H2 s2.heap.objs.size=none:=I2.hok.fresh (Zc _)
 obtain⟨W,⟨m0,w0⟩,turn⟩:=q _ hD
 refine wpAny_newObj_type (wpAny_newFunctionEnv S.nocell (by intro y hy;simp at hy) (fun h1 hns hsb=> ?_) S.kind)
 have I3:Inv X pins σ (upd H2 s2.heap.objs.size (.lst [])) {s2 with heap:=s2.heap.push {cls:= .type "list",dict:=none,data:= .seq ([]:List Value).toArray}}:=
  I2.lnew (t':=s2.toks) (its:=[]) (ys:=[]) .nil (ZT _)
 have ne:∀b∈fp,b≠s2.heap.objs.size:=fun b hb z=>by
  obtain⟨o,e,_⟩:=T.obj _ _ st2 b hb
  exact absurd (Zi e) (by rw [z];exact Y3 _)
 have f3:∀b∈fp,oM X pins (upd H2 s2.heap.objs.size (.lst [])) b:=fun b hb=>⟨by rw [bK (ne b hb)];exact(f2 b hb).1,(f2 b hb).2⟩
 have ho3:∀b∈fp,∀o,s2.heap.get? b=some o->(s2.heap.push {cls:= .type "list",dict:=none,data:= .seq ([]:List Value).toArray}).get? b=some o:=fun b _ o e=>Zf _ e
 have st3:=T.keep _ _ _ st2 ho3
 generalize hH3:s2.heap.push {cls:= .type "list",dict:=none,data:= .seq ([]:List Value).toArray}=H3 at hns hsb I3 ho3 st3|-
 dsimp only at hns hsb|-
 have hk:∀b o,H3.get? b=some o->h1.get? b=some o:=fun b o e=>hsb.extBut b o (ZH (Zi e)) (Zf _ e)
 have B0:Inv (cxB X N scope cl fp {s2 with heap:=H3} (upd H2 s2.heap.objs.size (.lst []))) [] (rV pick σ) (upd H2 s2.heap.objs.size (.lst [])) {s2 with heap:=h1,toks:=s2.toks+([]:List (Str×Value)).length}:=
  xd4 (s:={s2 with heap:=H3}) S hsc hNX I3 f3 (fun b hb=>by obtain⟨o,e,_⟩:=T.obj _ _ st3 b hb;exact⟨o,e⟩) c1 c2 hns hk
 have st4:tn 0 h1:=T.keep _ _ _ st3 fun b _ o e=>hk b o e
 have fpY:∀{H':Hp},(∀b∈fp,H' b=none)->∀b∈fp,oM (cxB X N scope cl fp {s2 with heap:=H3} (upd H2 s2.heap.objs.size (.lst []))) [] H' b:=fun hn b hb=>
  ⟨hn b hb,(B0.ok.exf b hb).1,B0.ok.exfs b hb,.inl hb,(B0.ok.exf b hb).2,fun p hp=>absurd (show p∈([]:tzB) from hp) (by simp)⟩
 have loop:∀s4:Shared,s4={s2 with heap:=h1,toks:=s2.toks+([]:List (Str×Value)).length}->
   codeAny (model X.prog X.w) X.A (.compLoop (.ListComp elt [⟨tg,iter,ifs,0⟩] scope pos) 0 (.ref it) (.ref s2.heap.objs.size) (compEnvC scope cl H3.objs.size X.env)) (RR (.ref s2.heap.objs.size) H3.objs.size) s4:=by
  rintro s4 rfl
  refine xd3 (fun n s'=>∃i σ' H',Inv (cxB X N scope cl fp {s2 with heap:=H3} (upd H2 s2.heap.objs.size (.lst []))) [] σ' H' s'/\tn i s'.heap/\(∀b∈fp,H' b=none)/\W i n σ' H') ?_ m0
   ⟨0,_,_,B0,st4,fun b hb=>(f3 b hb).1,w0⟩
  rintro n s5 ⟨i,σ5,H5,I5,st5,fr5,w5⟩
  rcases turn i n σ5 H5 w5 with ⟨stop,qn⟩|⟨go,step⟩
  ·refine thn (T.done (cxB X N scope cl fp {s2 with heap:=H3} (upd H2 s2.heap.objs.size (.lst []))) rfl rfl rfl hc i [] s5 σ5 H5 _ I5 (fpY fr5) st5 stop) fun r s6 ⟨hr,I6⟩=> ?_
   subst hr
   obtain⟨m,hm,_⟩:=I6.loc
   have sz:X.s₀.heap.objs.size<=H3.objs.size:=I3.sz
   refine fin _ _ H5 s6 (yu3 I3 f3 I6) I6.free sz (XW I3.lt) (fun x c e z=> ?_) (fun p hp z=> ?_) ⟨m,hm⟩ qn
   ·obtain⟨v,z2⟩:=I3.cell x c e
    exact absurd z2.lt (by rw [z];exact Y3 _)
   ·exact absurd (Zi (I3.pin p hp).1) (by rw [z];exact Y3 _)
  ·refine thn (T.item (cxB X N scope cl fp {s2 with heap:=H3} (upd H2 s2.heap.objs.size (.lst []))) rfl rfl rfl hc i [] s5 σ5 H5 _ I5 (fpY fr5) st5 go) fun r s6 ⟨u,hr,h6⟩=> ?_
   subst hr
   refine thn h6 fun _ s7 ⟨x,H7,I7,r7,y7,st7,fr7⟩=> ?_
   have I7':=I7.pinned (fpY fr7) (T.obj _ _ st7)
   have back:∀{σ8:St} {H8:Hp} {s8:Shared},Inv (cxB X N scope cl fp {s2 with heap:=H3} (upd H2 s2.heap.objs.size (.lst []))) ([]++wV fp s7.heap) σ8 H8 s8->
     tn (i+1) s8.heap/\∀b∈fp,H8 b=none:=fun {σ8 H8 s8} I8=>by
    refine⟨T.keep _ _ _ st7 fun b hb o e=>(I8.pin (b,o) (Z7 _ (Z7 _ (sG hb e)))).1,fun b hb=> ?_⟩
    obtain⟨o,e,d⟩:=T.obj _ _ st7 b hb
    exact(I8.pin (b,o) (Z7 _ (Z7 _ (sG hb e)))).2.1
   refine thn (hg _ _ _ _ _ s7 σ5 H7 x u _ I7' r7 (step x H7 y7)) fun _ s8 ⟨σ8,H8,I8,q8⟩=> ?_
   refine thn (ht _ _ _ _ _ s8 σ8 H8 _ I8 q8) fun ok s9 ⟨H9,I9,q9⟩=> ?_
   cases ok with
   |false=>
    rw [if_neg (by decide)] at q9|-
    obtain⟨m',hm,w9⟩:=q9
    obtain⟨b1,b2⟩:=back I9
    exact⟨m',hm,i+1,σ8,H9,I9.unpinned,b1,b2,w9⟩
   | true=>
    rw [if_pos rfl] at q9|-
    refine thn (he _ _ _ _ _ s9 σ8 H9 _ I9 q9) fun v s10 ⟨y,H10,I10,ry,ys,hys,hlen,m',hm,w10⟩=> ?_
    have ap:=zu9 (X:=cxB X N scope cl fp {s2 with heap:=H3} (upd H2 s2.heap.objs.size (.lst []))) ([]++wV fp s7.heap) s10 σ8 H10 (.ref s2.heap.objs.size) [y] (.ref s2.heap.objs.size) [v]
     (fun z H'=>z= .non/\H'=upd H10 s2.heap.objs.size (.lst (ys++[y]))) I10 rfl (.cons ry .nil) ⟨_,ys,y,rfl,rfl,hys,hlen,rfl,rfl⟩
    refine thn ap fun z s11 ⟨z',H11,I11,_,_,e11⟩=> ?_
    subst e11
    obtain⟨b1,b2⟩:=back I11
    exact⟨m',hm,i+1,σ8,_,I11.unpinned,b1,b2,w10⟩
 exact codeAny_compStart_list (loop _ rfl) (T.self _ _ _ _ _ st4 (loop _ rfl))
theorem xy6(S:CScope sc NX N pick scope)(hsc:X.env.scope=sc)(hNX:X.N=NX)(hc:X.calm=true)(hi:PI X tg iter wi)
  (hg:∀cl fp s H,PG (cxB X N scope cl fp s H) tg g) (ht:∀cl fp s H,PTs (cxB X N scope cl fp s H) ifs tt) (he:∀cl fp s H,PE (cxB X N scope cl fp s H) elt te)
  (hs:∀x,foldedSetIterable iter X.env x=pure x:=by intro _;rfl):PE X (.ListComp elt [⟨tg,iter,ifs,0⟩] scope pos) (wr8 pick wi g tt te):=⟨by
 intro pins s σ H Q I h
 rw [eval_ListComp]
 have hfr:∀y∈scope.names,y.2= .free->∃c,X.env.cells.lookup y.1=some c:=fun y hy hf=>I.ok.has y.1 (by
  show X.env.scope.names.lookup y.1=_\/X.env.scope.names.lookup y.1=_
  rw [hsc];exact S.frees y hy hf)
 obtain⟨cl,hcl,c1,c2⟩:=yu2 hfr
 refine wpAny_comprehension_free (use:=none) rfl hs hcl S.kind S.names (thn (hi pins s σ H _ I h) fun v s1 h1=>thn h1 fun itv s2 h2=> ?_)
 obtain⟨it,fp,tn,J,H2,e,I2,T,st2,f2,q⟩:=h2
 subst e
 refine yu4 (RR:=fun acc C=>compPost (model X.prog X.w) X.A X.xe none (EP X pins σ Q) acc C) (Q:=fun D H'=>Q (.ref D) H') S hsc hNX hc hg ht he I2 T st2 f2 c1 c2 q ?_
 intro D C H' s' I' n1 n2 n3 n4 n5 ⟨m,hm⟩ q'
 exact⟨m,hm,fun h' hb=>⟨.ref D,H',I'.turned (t':=s'.toks) (it:=C) (fun b o hbc e=>(hb.2 b hbc).trans e) n1 n3 (.inr n2) n4 n5,rfl,q'⟩⟩⟩
end
section
variable{X:Cx}{tg:Expr}
theorem zv3:∀(l:List (Str×Tok)),bQ ((l.map (·.1)).map V.str) (strValues l)
 |[]=> .nil
 |(x,t)::r=> .cons ⟨t,rfl⟩ (zv3 r)
theorem yd8:∀{ys:List Str} {us:List Value},bQ (ys.map V.str) us->StrsAre us ys
 |[],_,.nil=> .nil
 |y::ys,_,.cons r t=>by
  obtain⟨k,rfl⟩:=r
  exact .cons y k (yd8 t)
theorem xn3:MtR X "str.split" (fun x xs H Q=>∃z y,x= .str z/\xs=[.str y]/\(y.length==0)=false/\z.length<1000000/\∀p,H p=none->Q (.ref p) (upd H p (.lst ((Txt.split z y).map V.str)))):=⟨by
 intro pins s σ H x xs v us Q I rx r h
 obtain⟨z,y,rfl,rfl,hy,hz,q⟩:=h
 obtain⟨t,rfl⟩:=rx
 obtain⟨u,rfl,t',rfl⟩:=mH r
 have hs:sizeLine=16777216:=Y2
 have hsz:z.length<=sizeLine:=by omega
 have hoc:=StrLaws.occ_length_le_len z y 0 z.length (z.length+1)
 have hpb:(Builtin.Str.partsBetween z (Builtin.Str.occurrences z y 0 z.length (z.length+1)) y.length).length<=z.length+2:=by
  unfold Builtin.Str.partsBetween
  rw [Z8,List.length_zip]
  simp only [Z6,Z8,Z5,ZV]
  omega
 have hn:H s.heap.objs.size=none:=I.fresh
 have fin:∀(l:List (Str×Tok)) (tk:Nat),l.map (·.1)=Txt.split z y->l.length<=sizeLine->EP X pins σ Q (.ref s.heap.objs.size) {s with heap:=s.heap.push {cls:= .type "list",data:= .seq (strValues l).toArray},toks:=tk}:=fun l tk e hl=>by
  refine⟨.ref s.heap.objs.size,_,I.lnew (t':=tk) (ys:=(l.map (·.1)).map V.str) (zv3 l) (by rw [Z8,Z8];exact hl),rfl,?_⟩
  rw [e];exact q _ hn
 cases h1:(decide (z.length<y.length)||decide (Builtin.Str.strKind z<Builtin.Str.strKind y))
 ·cases hf:(Builtin.Str.occurrences z y 0 z.length (z.length+1)).isEmpty
  ·refine Xz XN (Xx _ _ _) XG (XB _ _) (meets_str_split_sep z y t t' h1 hy hf hsz (by omega)) ?_
   show wants _ _ _ {s with toks:=_,heap:=s.heap.push {cls:= .type "list",data:= .seq (strsFrom s.toks (Builtin.Str.partsBetween z (Builtin.Str.occurrences z y 0 z.length (z.length+1)) y.length)).toArray}}
   rw [strsFrom_eq]
   refine fin (numbered s.toks _) _ ((numbered_texts _ _).trans ((if_neg (Xb h1)).trans (if_neg (Xb hf))).symm) ?_
   have e:=ZK List.length (numbered_texts s.toks (Builtin.Str.partsBetween z (Builtin.Str.occurrences z y 0 z.length (z.length+1)) y.length))
   rw [Z8] at e
   omega
  ·exact Xz XN (Xx _ _ _) XG (XB _ _) (meets_str_split_not_found z y t t' h1 hy hf) (fin [(z,t)] s.toks ((if_neg (Xb h1)).trans (if_pos hf)).symm (by simp;omega))
 ·exact Xz XN (Xx _ _ _) XG (XB _ _) (meets_str_split_cannot_occur z y t t' h1) (fin [(z,t)] s.toks (if_pos h1).symm (by simp;omega))⟩
theorem xy7:MtR X "str.join" (fun x xs H Q=>∃(z:Str) (a:Addr) (ys:List Str),x= .str z/\xs=[.ref a]/\SqL X.K H a (ys.map V.str)/\z.length<=16/\(ys.map (·.length)).sum+ys.length<=1048576/\Q (.str (Txt.join z ys)) H):=⟨by
 intro pins s σ H x xs v us Q I rx r h
 obtain⟨z,a,ys,rfl,rfl,hq,hz,hw,q⟩:=h
 obtain⟨t,rfl⟩:=rx
 obtain⟨u,rfl,ru⟩:=mH r
 cases(show u=Value.ref a from ru)
 obtain⟨its,rv,p,hl⟩:=I.list hq
 exact join_listW p.isList (by simpa using yd8 rv) hz hw fun t' k=>⟨.str _,H,I.tok k,⟨_,rfl⟩,q⟩⟩
end
mutual
inductive Dp(K:tz0)(H:Hp):V->PyData->Prop
 |non:Dp K H .non .none
 |bl (b:Bool):Dp K H (.bl b) (.bool b)
 |int (i:Int):Dp K H (.int i) (.int i)
 |str (x:Str):Dp K H (.str x) (.str x)
 |lst {a:Addr} {xs:List V} {ds:List PyData}:SqL K H a xs->DpAll K H xs ds->Dp K H (.ref a) (.list ds)
 |tup {a:Addr} {xs:List V} {ds:List PyData}:SqT K H a xs->DpAll K H xs ds->Dp K H (.ref a) (.tuple ds)
inductive DpAll(K:tz0)(H:Hp):List V->List PyData->Prop
 |nil:DpAll K H [] []
 |cons {v:V} {vs:List V} {d:PyData} {ds:List PyData}:Dp K H v d->DpAll K H vs ds->DpAll K H (v::vs) (d::ds)
end
section
variable{X:Cx}{pins:tzB}{σ:St}{H:Hp}{s:Shared}
mutual
theorem Dp.reads(I:Inv X pins σ H s):∀{v:V} {d:PyData} {u:Value},Dp X.K H v d->cI v u->∃as,Reads s.heap u d as
 |_,_,u,.non,r=>by cases(show u=Value.none from r);exact⟨_,.none⟩
 |_,_,u,.bl b,r=>by cases(show u=Value.bool b from r);exact⟨_,.bool b⟩
 |_,_,u,.int i,r=>by obtain⟨t,rfl⟩:=r;exact⟨_,.int i t⟩
 |_,_,u,.str x,r=>by obtain⟨t,rfl⟩:=r;exact⟨_,.str x t⟩
 |_,_,u,.lst (a:=a) h hs,r=>by
  cases(show u=Value.ref a from r)
  obtain⟨its,rv,p,hz⟩:=I.list h
  obtain⟨as,ra⟩:=DpAll.reads I hs rv
  obtain⟨o,e,c,n,d⟩:=p.isList
  exact⟨_,.list e c d (by simpa using ra)⟩
 |_,_,u,.tup (a:=a) h hs,r=>by
  cases(show u=Value.ref a from r)
  obtain⟨its,rv,p,hz⟩:=I.tuple h
  obtain⟨as,ra⟩:=DpAll.reads I hs rv
  obtain⟨o,e,c,n,d⟩:=p
  exact⟨_,.tuple e c d (by simpa using ra)⟩
theorem DpAll.reads(I:Inv X pins σ H s):∀{vs:List V} {ds:List PyData} {us:List Value},DpAll X.K H vs ds->bQ vs us->∃as,ReadsAll s.heap us ds as
 |_,_,_,.nil,.nil=>⟨_,.nil⟩
 |_,_,_,.cons h hs,.cons r rs=>by
  obtain⟨as,ra⟩:=Dp.reads I h r
  obtain⟨bs,rb⟩:=DpAll.reads I hs rs
  exact⟨_,.cons ra rb⟩
end
end
section
variable{X:Cx}
def wm4(K:tz0)(neg:Bool):R2:=fun x y H Q=>∃d e,Dp K H x d/\Dp K H y e/\d.canLay0=true/\e.canLay0=true/\d.depth<=60/\Q (.bl (if neg then !PyData.eqv d e else PyData.eqv d e)) H
theorem wg6(hu:X.A.units+64<cLine):OpR X (compareOp .Eq) (wm4 X.K false):=⟨by
 intro pins s σ H x y v u Q I rx ry h
 obtain⟨d,e,hx,hy,cx,cy,dz,q⟩:=h
 obtain⟨as,ra⟩:=hx.reads I rx
 obtain⟨bs,rb⟩:=hy.reads I ry
 exact SeqAt.compareEq_reads ra rb cx cy (by have:=Nat.min_le_left d.depth e.depth;omega) ⟨.bl _,H,I,rfl,q⟩⟩
theorem wg7(hu:X.A.units+64<cLine):OpR X (compareOp .NotEq) (wm4 X.K true):=⟨by
 intro pins s σ H x y v u Q I rx ry h
 obtain⟨d,e,hx,hy,cx,cy,dz,q⟩:=h
 obtain⟨as,ra⟩:=hx.reads I rx
 obtain⟨bs,rb⟩:=hy.reads I ry
 exact SeqAt.compareNe_reads ra rb cx cy (by have:=Nat.min_le_left d.depth e.depth;omega) ⟨.bl _,H,I,rfl,q⟩⟩
end
section
variable{prog:Program}{w:World}{A:Around}{E:Value->Shared->Prop}{s:Shared}{env:Env}
theorem ym2{l:Addr}{items:Array Value}{elts:List Expr}{k:Nat}{pos:Pos}{Q:Unit->Shared->Prop}(hh:A.handled=none)(hl:s.heap.IsList l items)(hn:(assignEach elts env).length=items.size)
  (hstar:(assignEach elts env).findIdx? (·.1)=none) (h:∀h',Heap.ExtBut s.heap.objs.size s.heap h'->wpAny (model prog w) A (assignInOrder ((assignEach elts env).map (·.2)) items.toList) Q E {s with heap:=h'}):
  wpAny (model prog w) A (assign (.Tuple elts k pos) env (.ref l)) Q E s:=by
 rw [assign_Tuple]
 refine Ze (Wl ?_)
 unfold unpack
 rw [hn,hstar]
 exact Ze (Ys (PySem.W.kun_itemsOf hh hl h))
end
section
variable{X:Cx}{pos:Pos}
def xt9(K:tz0)(n:Nat)(t:TGs):TG:=fun v σ H Q=>∃a xs,v= .ref a/\SqL K H a xs/\xs.length=n/\t xs σ H Q
theorem wg8{es:List Expr}{k:Nat}{t:TGs}{n:Nat}(hc:X.calm=true)(h:PGs X es t)
  (hn:(assignEach es X.env).length=n:=by rfl) (hst:(assignEach es X.env).findIdx? (·.1)=none:=by rfl):PG X (.Tuple es k pos) (xt9 X.K n t):=⟨by
 intro pins s σ H v u Q I r hw
 obtain⟨a,xs,e1,hq,hl,hw⟩:=hw
 subst e1
 cases r
 obtain⟨its,rv,ht,hz⟩:=I.list hq
 refine ym2 (I.ok.hd hc) ht.isList (by simp [hn,<-hl,rv.length]) hst fun h' hx=> ?_
 have I1:Inv X pins σ H {s with heap:=h'}:=I.kept (t':=s.toks) fun b o e=>hx b o (ZH (Zi e)) e
 exact h pins _ σ H xs _ Q I1 (by simpa using rv) hw⟩
end
inductive AreC:List Expr->List V->Prop
 |nil:AreC [] []
 |int {i:Int} {j:Nat} {pos:Pos} {es:List Expr} {vs:List V}:AreC es vs->AreC (.Constant (.int i) j pos::es) (.int i::vs)
 |str {x:Str} {j:Nat} {pos:Pos} {es:List Expr} {vs:List V}:AreC es vs->AreC (.Constant (.str x) j pos::es) (.str x::vs)
 |bl {b:Bool} {j:Nat} {pos:Pos} {es:List Expr} {vs:List V}:AreC es vs->AreC (.Constant (.bool b) j pos::es) (.bl b::vs)
 |non {j:Nat} {pos:Pos} {es:List Expr} {vs:List V}:AreC es vs->AreC (.Constant .none j pos::es) (.non::vs)
def zo1(vs:List V):TA:=fun _ H Q=>Q vs H
theorem xd5{X:Cx}{es:List Expr}{vs:List V}(h:AreC es vs):PA X es (zo1 vs):=by
 induction h with
 |nil=>exact kO
 |int _ ih=>exact⟨fun pos pins s σ H Q I q=>eL (t:=zo1 _) iR ih rfl pos pins s σ H Q I q⟩
 |str _ ih=>exact⟨fun pos pins s σ H Q I q=>eL (t:=zo1 _) xa2 ih rfl pos pins s σ H Q I q⟩
 |bl _ ih=>exact⟨fun pos pins s σ H Q I q=>eL (t:=zo1 _) xu8 ih rfl pos pins s σ H Q I q⟩
 |non _ ih=>exact⟨fun pos pins s σ H Q I q=>eL (t:=zo1 _) xa1 ih rfl pos pins s σ H Q I q⟩
set_option genInjectivity true in
inductive D where
 |non|bl (b:Bool)|int (i:Int)|str (x:Str)|ty (n:String)
 |tup (xs:List D)|con (xs:List D)|lst (o:Bool) (xs:List D)|dic (o:Bool) (ks:List Key) (vs:List D)|obj (o:Bool) (C:Str) (ns:List Str) (vs:List D)
mutual
def D.imm:D->Bool
 | .tup xs=>D.imms xs
 | .con xs=>D.imms xs
 | .lst o xs=> !o&&D.imms xs
 | .dic o _ vs=> !o&&D.imms vs
 | .obj o _ _ vs=> !o&&D.imms vs
 |_=>true
def D.imms:List D->Bool
 |[]=>true
 |d::ds=>d.imm&&D.imms ds
end
def kd:HO->Bool
 | .lst _=>true
 | .tup _=>true
 | .dK _=>true
 | .ins _ _ _=>true
 | .frz _ _=>true
 | .xd _=>true
 |_=>false
def tf:HO->Bool
 | .tup _=>true
 | .frz _ _=>true
 |_=>false
theorem nO(h:tf o=true):kd o=true:=by cases o<;>first|rfl|cases h
def SqF(K:tz0)(H:Hp)(a:Addr)(xs:List V):Prop:=(∃o,H a=some (.frz o (.lst xs)))\/
 ∃(o:Obj) (its:Array Value) (n:Nat),K.lookup a=some o/\o.cls= .type "list"/\o.dict=none/\o.data= .seq its n/\its.size<=sizeLine/\bQ xs its.toList
mutual
inductive Rep(K:tz0)(U:tz9)(H:Hp):V->D->List Addr->Prop
 |non:Rep K U H .non .non []
 |bl (b:Bool):Rep K U H (.bl b) (.bl b) []
 |int (i:Int):Rep K U H (.int i) (.int i) []
 |str (x:Str):Rep K U H (.str x) (.str x) []
 |ty (n:String):Rep K U H (.ty n) (.ty n) []
 |tup {a:Addr} {vs:List V} {ds:List D}:SqT K H a vs->Reps K U H vs ds []->Rep K U H (.ref a) (.tup ds) []
 |con {a:Addr} {vs:List V} {ds:List D}:SqF K H a vs->Reps K U H vs ds []->Rep K U H (.ref a) (.con ds) []
 |lst {a:Addr} {vs:List V} {ds:List D} {fp:List Addr}:H a=some (.lst vs)->Reps K U H vs ds fp->Rep K U H (.ref a) (.lst true ds) (a::fp)
 |lstF {a:Addr} {o:Obj} {vs:List V} {ds:List D}:H a=some (.frz o (.lst vs))->Reps K U H vs ds []->Rep K U H (.ref a) (.lst false ds) []
 |dic {a:Addr} {kvs:List (Key×V)} {ks:List Key} {ds:List D} {fp:List Addr}:H a=some (.dK kvs)->kvs.map (·.1)=ks->Reps K U H (kvs.map (·.2)) ds fp->Rep K U H (.ref a) (.dic true ks ds) (a::fp)
 |dicF {a:Addr} {o:Obj} {kvs:List (Key×V)} {ks:List Key} {ds:List D}:H a=some (.frz o (.dK kvs))->kvs.map (·.1)=ks->Reps K U H (kvs.map (·.2)) ds []->Rep K U H (.ref a) (.dic false ks ds) []
 |obj {a dx:Addr} {C:Str} {fs:List (Str×V)} {ns:List Str} {ds:List D} {fp:List Addr}:H a=some (.ins (U C) dx fs)->fs.map (·.1)=ns->Reps K U H (fs.map (·.2)) ds fp->Rep K U H (.ref a) (.obj true C ns ds) (a::fp)
 |objF {a dx:Addr} {o:Obj} {C:Str} {fs:List (Str×V)} {ns:List Str} {ds:List D}:H a=some (.frz o (.ins (U C) dx fs))->fs.map (·.1)=ns->Reps K U H (fs.map (·.2)) ds []->Rep K U H (.ref a) (.obj false C ns ds) []
inductive Reps(K:tz0)(U:tz9)(H:Hp):List V->List D->List Addr->Prop
 |nil:Reps K U H [] [] []
 |cons {v:V} {vs:List V} {d:D} {ds:List D} {f g:List Addr}:Rep K U H v d f->Reps K U H vs ds g->Reps K U H (v::vs) (d::ds) (f++g)
end
section
variable{K:tz0}{U:tz9}{H H':Hp}
theorem SqT.tf(t:∀a o,H a=some o->tf o=true->H' a=some o){a:Addr}{xs:List V}(h:SqT K H a xs):SqT K H' a xs:=by
 rcases h with (h|⟨o,h⟩)|h
 ·exact .inl (.inl (t _ _ h rfl))
 ·exact .inl (.inr ⟨o,t _ _ h rfl⟩)
 ·exact .inr h
theorem SqF.tf(t:∀a o,H a=some o->tf o=true->H' a=some o){a:Addr}{xs:List V}(h:SqF K H a xs):SqF K H' a xs:=h.elim (fun⟨o,h⟩=> .inl ⟨o,t _ _ h rfl⟩) .inr
theorem SqF.l(h:SqF K H a xs):SqL K H a xs:=h.elim (fun⟨o,h⟩=> .inl (.inr ⟨o,h⟩)) .inr
theorem iI{P:Addr->Prop}:∀a∈([]:List Addr),P a:=fun _ h=>nomatch h
theorem Reps.move(t:∀a o,H a=some o->tf o=true->H' a=some o){vs:List V}{ds:List D}{fp:List Addr}(h:Reps K U H vs ds fp):(∀a∈fp,H' a=H a)->Reps K U H' vs ds fp:=
 Reps.rec (motive_1:=fun v d fp _=>(∀a∈fp,H' a=H a)->Rep K U H' v d fp) (motive_2:=fun vs ds fp _=>(∀a∈fp,H' a=H a)->Reps K U H' vs ds fp)
  (fun _=> .non) (fun b _=> .bl b) (fun b _=> .int b) (fun b _=> .str b) (fun b _=> .ty b) (fun h _ ih _=> .tup (h.tf t) (ih iI)) (fun h _ ih _=> .con (h.tf t) (ih iI))
  (fun h _ ih k=> .lst ((k _ Z0).trans h) (ih fun a ha=>k a (Z1 _ ha))) (fun h _ ih _=> .lstF (t _ _ h rfl) (ih iI))
  (fun h e _ ih k=> .dic ((k _ Z0).trans h) e (ih fun a ha=>k a (Z1 _ ha))) (fun h e _ ih _=> .dicF (t _ _ h rfl) e (ih iI))
  (fun h e _ ih k=> .obj ((k _ Z0).trans h) e (ih fun a ha=>k a (Z1 _ ha))) (fun h e _ ih _=> .objF (t _ _ h rfl) e (ih iI))
  (fun _=> .nil) (fun _ _ i1 i2 k=> .cons (i1 fun a ha=>k a (Zj _ ha)) (i2 fun a ha=>k a (Z7 _ ha))) h
theorem Reps.nil_fp(h:Reps K U H vs [] fp):vs=[]/\fp=[]:=by cases h;exact⟨rfl,rfl⟩
theorem Reps.one_inv(r:Reps K U H vs [d] fp):∃v,vs=[v]/\Rep K U H v d fp:=by
 cases r with
 |cons h hs=>
  obtain⟨rfl,rfl⟩:=hs.nil_fp
  exact⟨_,rfl,by rw [Zq];exact h⟩
theorem Reps.one(h:Rep K U H v d f):Reps K U H [v] [d] f:=by have:=Reps.cons h (Reps.nil (K:=K) (U:=U) (H:=H));rwa [Zq] at this
theorem Rep.move(t:∀a o,H a=some o->tf o=true->H' a=some o){v:V}{d:D}{fp:List Addr}(h:Rep K U H v d fp)(k:∀a∈fp,H' a=H a):Rep K U H' v d fp:=by
 obtain⟨u,e,r⟩:=((Reps.one h).move t k).one_inv
 cases e;exact r
theorem Reps.own{vs:List V}{ds:List D}{fp:List Addr}(h:Reps K U H vs ds fp):∀a∈fp,∃o,H a=some o/\kd o=true/\tf o=false:=
 Reps.rec (motive_1:=fun _ _ fp _=>∀a∈fp,∃o,H a=some o/\kd o=true/\tf o=false) (motive_2:=fun _ _ fp _=>∀a∈fp,∃o,H a=some o/\kd o=true/\tf o=false)
  iI (fun _=>iI) (fun _=>iI) (fun _=>iI) (fun _=>iI) (fun _ _ _=>iI) (fun _ _ _=>iI)
  (fun h _ ih a ha=>(Z2.mp ha).elim (fun e=>e▸⟨_,h,rfl,rfl⟩) (ih a)) (fun _ _ _=>iI)
  (fun h _ _ ih a ha=>(Z2.mp ha).elim (fun e=>e▸⟨_,h,rfl,rfl⟩) (ih a)) (fun _ _ _ _=>iI)
  (fun h _ _ ih a ha=>(Z2.mp ha).elim (fun e=>e▸⟨_,h,rfl,rfl⟩) (ih a)) (fun _ _ _ _=>iI)
  iI (fun _ _ i1 i2 a ha=>(Zk.mp ha).elim (i1 a) (i2 a)) h
theorem Rep.own(h:Rep K U H v d fp):∀a∈fp,∃o,H a=some o/\kd o=true/\tf o=false:=(Reps.one h).own
theorem Rep.imm(h:Rep K U H v d fp)(e:d.imm=true):fp=[]:=by
 cases h<;>first|rfl|exact nomatch e
theorem Reps.imm:∀{vs:List V} {ds:List D} {fp:List Addr},Reps K U H vs ds fp->D.imms ds=true->fp=[]
 |_,_,_,.nil,_=>rfl
 |_,_,_,.cons h hs,e=>by
  rw [D.imms,ZA] at e
  rw [h.imm e.1,Reps.imm hs e.2];rfl
theorem Reps.length:∀{vs:List V} {ds:List D} {fp:List Addr},Reps K U H vs ds fp->vs.length=ds.length
 |_,_,_,.nil=>rfl
 |_,_,_,.cons _ hs=>by rw [Z6,Z6,Reps.length hs]
theorem Reps.get:∀{vs:List V} {ds:List D} {fp:List Addr} {i:Nat} {d:D},Reps K U H vs ds fp->ds[i]? =some d->∃v f,vs[i]? =some v/\Rep K U H v d f/\∀a∈f,a∈fp
 |_,_,_,_,_,.nil,e=>by simp at e
 |_,_,_,0,_,.cons h _,e=>by simp at e;subst e;exact⟨_,_,rfl,h,fun a ha=>Zj _ ha⟩
 |_,_,_,i+1,_,.cons _ hs,e=>by
  obtain⟨v,f,h1,h2,h3⟩:=Reps.get (i:=i) hs (by simpa using e)
  exact⟨v,f,by simpa using h1,h2,fun a ha=>Z7 _ (h3 a ha)⟩
theorem Reps.append:∀{vs:List V} {ds:List D} {f:List Addr} {us:List V} {es:List D} {g:List Addr},Reps K U H vs ds f->Reps K U H us es g->Reps K U H (vs++us) (ds++es) (f++g)
 |_,_,_,_,_,_,.nil,r=>r
 |_,_,_,_,_,_,.cons h hs,r=>by rw [Zt];exact .cons h (Reps.append hs r)
theorem Reps.split:∀{vs:List V} {d:D} {ds:List D} {fp:List Addr},Reps K U H vs (d::ds) fp->∃v us f g,vs=v::us/\Rep K U H v d f/\Reps K U H us ds g/\fp=f++g
 |_,_,_,_,.cons h hs=>⟨_,_,_,_,rfl,h,hs,rfl⟩
theorem Reps.nilp:∀{vs:List V} {ds:List D},Reps K U H vs ds []->Paired (fun v d=>Rep K U H v d []) vs ds:=by
 intro vs ds h
 generalize e:([]:List Addr)=fp at h
 induction h using Reps.rec (motive_1:=fun _ _ _ _=>True) with
 |nil=>exact .nil
 |cons h hs _ ih=>
  obtain⟨e1,e2⟩:=W0.mp e.symm
  subst e1;subst e2
  exact .cons h (ih rfl)
 |_=>trivial
theorem Reps.ofp:∀{vs:List V} {ds:List D},Paired (fun v d=>Rep K U H v d []) vs ds->Reps K U H vs ds []
 |_,_,.nil=> .nil
 |_,_,.cons h hs=> .cons (f:=[]) (g:=[]) h (Reps.ofp hs)
end
theorem Paired.takeN:∀{l₁:List α} {l₂:List β} (n:Nat),Paired R l₁ l₂->Paired R (l₁.take n) (l₂.take n)
 |_,_,0,_=> .nil
 |_,_,_+1,.nil=> .nil
 |_,_,n+1,.cons h t=> .cons h (Paired.takeN n t)
theorem Paired.dropN:∀{l₁:List α} {l₂:List β} (n:Nat),Paired R l₁ l₂->Paired R (l₁.drop n) (l₂.drop n)
 |_,_,0,r=>r
 |_,_,_+1,.nil=> .nil
 |_,_,n+1,.cons _ t=>Paired.dropN n t
theorem Paired.app:∀{l₁:List α} {l₂:List β} {m₁:List α} {m₂:List β},Paired R l₁ l₂->Paired R m₁ m₂->Paired R (l₁++m₁) (l₂++m₂)
 |_,_,_,_,.nil,r=>r
 |_,_,_,_,.cons h t,r=> .cons h (Paired.app t r)
structure SameK(H H':Hp):Prop where
 keep:∀a o,H a=some o->kd o=true->H' a=some o
 grow:∀a,H' a=none->H a=none
theorem SameK.refl(H:Hp):SameK H H:=⟨fun _ _ h _=>h,fun _ h=>h⟩
theorem SameK.trans(a:SameK H H1)(b:SameK H1 H2):SameK H H2:=⟨fun c o h k=>b.keep c o (a.keep c o h k) k,fun c h=>a.grow c (b.grow c h)⟩
theorem SameK.of(h:yy6 H H'):SameK H H':=⟨fun a o e _=>h a o e,fun a e=>h.free e⟩
theorem SameK.new(h:H p=none)(o:HO):SameK H (upd H p o):= .of (xn1 h o)
section
variable{K:tz0}{U:tz9}{H H':Hp}
theorem Rep.same(e:SameK H H'){v:V}{d:D}{fp:List Addr}(r:Rep K U H v d fp):Rep K U H' v d fp:=
 r.move (fun a o h t=>e.keep a o h (nO t)) fun a ha=>by obtain⟨o,h,k,_⟩:=r.own a ha;rw [h];exact e.keep a o h k
theorem Reps.same(e:SameK H H'){v:List V}{d:List D}{fp:List Addr}(r:Reps K U H v d fp):Reps K U H' v d fp:=
 r.move (fun a o h t=>e.keep a o h (nO t)) fun a ha=>by obtain⟨o,h,k,_⟩:=r.own a ha;rw [h];exact e.keep a o h k
end
theorem PE.imp(h:PE X e t)(k:∀σ H Q,t' σ H Q->t σ H Q):PE X e t':=⟨fun pins s σ H Q I q=>h pins s σ H Q I (k σ H Q q)⟩
theorem PT.imp(h:PT X e t)(k:∀σ H Q,t' σ H Q->t σ H Q):PT X e t':=⟨fun pins s σ H Q I q=>h pins s σ H Q I (k σ H Q q)⟩
theorem PW.imp(h:PW X e t)(k:∀σ H Q,t' σ H Q->t σ H Q):PW X e t':=⟨fun wh pins s σ H Q I q=>h wh pins s σ H Q I (k σ H Q q)⟩
theorem PA.imp(h:PA X e t)(k:∀σ H Q,t' σ H Q->t σ H Q):PA X e t':=⟨fun pos pins s σ H Q I q=>h pos pins s σ H Q I (k σ H Q q)⟩
theorem PS.imp{X:Cx}{st:Stmt}{t t':TS}(h:PS X st t)(k:∀D σ H,t' D σ H->t D σ H):PS X st t':=⟨fun pins s σ H D I q=>h pins s σ H D I (k D σ H q)⟩
theorem PSs.imp{X:Cx}{st:List Stmt}{t t':TS}(h:PSs X st t)(k:∀D σ H,t' D σ H->t D σ H):PSs X st t':=⟨fun pins s σ H D I q=>h pins s σ H D I (k D σ H q)⟩
abbrev PSt:=List (Option D)
abbrev _root_.tz7:=List D->Option (D×List D)
abbrev _root_.tz8:=PSt->Option (D×PSt)
abbrev _root_.tz3:=PSt->Option (List D)
abbrev _root_.tz4:=PSt->Option Bool
abbrev _root_.tz6:=List D->Option D
abbrev _root_.tz2:=PSt->Option D
abbrev _root_.tz5:=PSt->Bool
def WS(K:tz0)(U:tz9)(H:Hp)(σ:St)(ps:PSt):Prop:=∀(i:Nat) (d:D),ps[i]? =some (some d)->∃v fp,σ[i]? =some (some v)/\Rep K U H v d fp
theorem WS.same{K:tz0}{U:tz9}{H H':Hp}{σ:St}{ps:PSt}(w:WS K U H σ ps)(e:SameK H H'):WS K U H' σ ps:=fun i d h=>by
 obtain⟨v,fp,h1,h2⟩:=w i d h
 exact⟨v,fp,h1,h2.same e⟩
def lA(K:tz0)(U:tz9)(H:Hp)(d:D)(Q:VK):Prop:=∀v H' fv,SameK H H'->(∀a∈fv,H a=none)->fv.Nodup->Rep K U H' v d fv->Q v H'
def wm5(K:tz0)(U:tz9)(H:Hp)(d:D)(Q:VK):Prop:=∀v H' fp,SameK H H'->Rep K U H' v d fp->Q v H'
def tV(K:tz0)(U:tz9)(f:tz2):TE:=fun σ H Q=>∃ps d,WS K U H σ ps/\f ps=some d/\wm5 K U H d Q
def tP(K:tz0)(U:tz9)(f:tz2):TE:=fun σ H Q=>∃ps d,WS K U H σ ps/\f ps=some d/\lA K U H d Q
def tQ(K:tz0)(U:tz9)(f:tz4):TT:=fun σ H Q=>∃ps b,WS K U H σ ps/\f ps=some b/\∀H',SameK H H'->Q b H'
def tVA(K:tz0)(U:tz9)(f:tz3):TA:=fun σ H Q=>∃ps ds,WS K U H σ ps/\f ps=some ds/\∀vs H' fp,SameK H H'->Reps K U H' vs ds fp->Q vs H'
def tPA(K:tz0)(U:tz9)(f:tz3):TA:=fun σ H Q=>∃ps ds,WS K U H σ ps/\f ps=some ds/\∀vs H' fv,SameK H H'->(∀a∈fv,H a=none)->fv.Nodup->Reps K U H' vs ds fv->Q vs H'
abbrev QV(X:Cx)(U:tz9)(e:Expr)(f:tz2):Prop:=PE X e (tV X.K U f)
abbrev QP(X:Cx)(U:tz9)(e:Expr)(f:tz2):Prop:=PE X e (tP X.K U f)
abbrev QT(X:Cx)(U:tz9)(e:Expr)(f:tz4):Prop:=PT X e (tQ X.K U f)
abbrev QW(X:Cx)(U:tz9)(e:Expr)(f:tz4):Prop:=PW X e (tQ X.K U f)
abbrev QVA(X:Cx)(U:tz9)(es:List Expr)(f:tz3):Prop:=PA X es (tVA X.K U f)
abbrev QPA(X:Cx)(U:tz9)(es:List Expr)(f:tz3):Prop:=PA X es (tPA X.K U f)
theorem lA.see{K:tz0}{U:tz9}{H:Hp}{d:D}{Q:VK}(h:wm5 K U H d Q):lA K U H d Q:=fun v H' fv s _ _ r=>h v H' fv s r
theorem lA.after{K:tz0}{U:tz9}{H H1:Hp}{d:D}{Q:VK}(h:lA K U H d Q)(s:SameK H H1):lA K U H1 d Q:=
 fun v H' fv s' n nd r=>h v H' fv (s.trans s') (fun a ha=>s.grow a (n a ha)) nd r
theorem lA.now{K:tz0}{U:tz9}{H:Hp}{d:D}{Q:VK}{v:V}(h:lA K U H d Q)(r:Rep K U H v d []):Q v H:=h v H [] (.refl H) (fun _ h=>absurd h (by simp)) Zr r
theorem lA.at{K:tz0}{U:tz9}{H:Hp}{d:D}{Q:VK}{p:Addr}{o:HO}{fv:List Addr}(h:lA K U H d Q)(hp:H p=none)(hn:∀a∈fv,H a=none)(nd:fv.Nodup)(r:Rep K U (upd H p o) (.ref p) d fv):Q (.ref p) (upd H p o):=
 h _ _ fv (.new hp o) hn nd r
section
variable{X:Cx}{U:tz9}{e a b:Expr}{f fa fb:tz2}
theorem QP.v(h:QP X U e f):QV X U e f:=h.imp fun _ _ _ ⟨ps,d,w,e,q⟩=>⟨ps,d,w,e,.see q⟩
def aY(f:tz2):tz2:=fun ps=>(f ps).bind fun d=>if d.imm=true then some d else none
theorem QV.p(h:QV X U e f):QP X U e (aY f):=h.imp fun σ H Q hh_=>by
 obtain⟨ps,d,w,e,q⟩:=hh_
 unfold aY at e
 cases e1:f ps with
 |none=>rw [e1] at e;cases e
 | some d1=>
  rw [e1] at e
  by_cases hi:d1.imm=true
  ·have e2:d1=d:=by simpa [hi] using e
   subst e2
   refine⟨ps,d1,w,e1,fun v H' fp s r=> ?_⟩
   have:=r.imm hi;subst this
   exact q v H' [] s (fun _ h=>absurd h (by simp)) Zr r
  ·simp [hi] at e
def aA(i:Nat):tz2:=fun ps=>(ps[i]?).join
theorem aC(i:Nat){x:Str}{pos:Pos}(hN:X.N[i]? =some x:=by rfl)(hv:Vis X.env.scope x:=by first|exact Or.inl rfl|exact Or.inr (Or.inl rfl)|exact Or.inr (Or.inr rfl))(hd:(x==("__debug__":Str))=false:=by decide)
  (hcd:(x==("__classdict__":Str))=false:=by decide):QV X U (.Name x pos) (aA i):=(qP hN hv hd hcd).imp fun σ H Q hh_=>by
 obtain⟨ps,d,w,e,q⟩:=hh_
 have e':ps[i]? =some (some d):=by
  unfold aA at e
  cases q:ps[i]? with
  |none=>rw [q] at e;cases e
  |some o=>rw [q] at e;exact ZK some e
 obtain⟨v,fp,h1,h2⟩:=w i d e'
 exact⟨v,h1,q v H fp (.refl H) h2⟩
def fC(d:D):tz2:=fun _=>some d
theorem aG{i j pos}:QP X U (.Constant (.int i) j pos) (fC (.int i)):=iR.imp fun σ H Q ⟨ps,d,w,e,q⟩=>by cases e;exact q _ H [] (.refl H) (fun _ h=>absurd h (by simp)) Zr (.int i)
theorem cD{x j pos}:QP X U (.Constant (.str x) j pos) (fC (.str x)):=xa2.imp fun σ H Q ⟨ps,d,w,e,q⟩=>by cases e;exact q _ H [] (.refl H) (fun _ h=>absurd h (by simp)) Zr (.str x)
theorem jA{b j pos}:QP X U (.Constant (.bool b) j pos) (fC (.bl b)):=xu8.imp fun σ H Q ⟨ps,d,w,e,q⟩=>by cases e;exact q _ H [] (.refl H) (fun _ h=>absurd h (by simp)) Zr (.bl b)
theorem oA{j pos}:QP X U (.Constant .none j pos) (fC .non):=xa1.imp fun σ H Q ⟨ps,d,w,e,q⟩=>by cases e;exact q _ H [] (.refl H) (fun _ h=>absurd h (by simp)) Zr .non
theorem xy8(hg:Gl X x)(hm:X.mg x=some u)(r:cI v u)(hd:∀H,Rep X.K U H v d [])(hdb:(x==("__debug__":Str))=false:=by decide):QP X U (.Name x pos) (fC d):=
 (zc3 hg hm r hdb).imp fun σ H Q ⟨ps,d,w,e,q⟩=>by cases e;exact q _ H [] (.refl H) (fun _ h=>absurd h (by simp)) Zr (hd H)
theorem zj9(hg:Gl X x)(hm:X.mg x=none)(hv:bootBuiltins x=some (.type n))(hn:x≠"__name__":=by decide)(hd:(x==("__debug__":Str))=false:=by decide):QP X U (.Name x pos) (fC (.ty n)):=
 (yn2 (v:= .ty n) hg hm hv rfl hn hd).imp fun σ H Q ⟨ps,d,w,e,q⟩=>by cases e;exact q _ H [] (.refl H) (fun _ h=>absurd h (by simp)) Zr (.ty n)
def f2(g:D->D->Option D)(fa fb:tz2):tz2:=fun ps=>(fa ps).bind fun x=>(fb ps).bind fun y=>g x y
def POp(K:tz0)(U:tz9)(g:D->D->Option D):R2:=fun x y H Q=>∃dx dy d fx fy,Rep K U H x dx fx/\Rep K U H y dy fy/\g dx dy=some d/\lA K U H d Q
theorem wJ(h:f2 g fa fb ps=some d):∃x y,fa ps=some x/\fb ps=some y/\g x y=some d:=by
 unfold f2 at h
 cases e1:fa ps with
 |none=>rw [e1] at h;cases h
 |some x=>
  rw [e1] at h
  cases e2:fb ps with
  |none=>rw [e2] at h;cases h
  |some y=>rw [e2] at h;exact⟨x,y,rfl,rfl,h⟩
theorem yd9(hr:∀x y H Q,POp X.K U g x y H Q->r x y H Q)(h:tP X.K U (f2 g fa fb) σ H Q):tOp r (tV X.K U fa) (tV X.K U fb) σ H Q:=by
 obtain⟨ps,d,w,e,q⟩:=h
 obtain⟨x,y,e1,e2,e3⟩:=wJ e
 exact⟨ps,x,w,e1,fun v H1 fp s1 r1=>⟨ps,y,w.same s1,e2,fun u H2 fq s2 r2=>hr _ _ _ _ ⟨x,y,d,fp,fq,r1.same s2,r2,e3,q.after (s1.trans s2)⟩⟩⟩
theorem bG(ho:OpR X (binaryOp op) (POp X.K U g))(ha:QV X U a fa)(hb:QV X U b fb):QP X U (.BinOp a op b pos) (f2 g fa fb):=
 (gL ho ha hb).imp fun _ _ _ h=>yd9 (fun _ _ _ _ h=>h) h
theorem qQ(ho:OpR X (compareOp op) (POp X.K U g))(ha:QV X U a fa)(hb:QV X U b fb)(hm:behindInMarks op b=false):QP X U (.Compare a [op] [b] pos) (f2 g fa fb):=
 (yn8 ho ha hb hm).imp fun _ _ _ h=>yd9 (fun _ _ _ _ h=>h) h
def dB:D->Option Bool
 | .bl b=>some b
 |_=>none
def fB(f:tz2):tz4:=fun ps=>(f ps).bind dB
theorem yo4{f:tz2}{ps:PSt}{b:Bool}(h:fB f ps=some b):f ps=some (.bl b):=by
 unfold fB at h
 cases e:f ps with
 |none=>rw [e] at h;cases h
 |some d=>rw [e] at h;cases d<;>first|(cases h;rfl)|cases h
theorem Rep.is_bl{K:tz0}{H:Hp}{v:V}{b:Bool}{fp:List Addr}(r:Rep K U H v (.bl b) fp):v= .bl b:=by cases r;rfl
theorem Rep.is_int{K:tz0}{H:Hp}{v:V}{b:Int}{fp:List Addr}(r:Rep K U H v (.int b) fp):v= .int b:=by cases r;rfl
theorem Rep.is_str{K:tz0}{H:Hp}{v:V}{b:Str}{fp:List Addr}(r:Rep K U H v (.str b) fp):v= .str b:=by cases r;rfl
theorem cE(ho:OpR X (compareOp op) (POp X.K U g))(ha:QV X U a fa)(hb:QV X U b fb)(hm:behindInMarks op b=false):QT X U (.Compare a [op] [b] pos) (fB (f2 g fa fb)):=
 (yn9 ho ha hb hm).imp fun σ H Q ⟨ps,c,w,e,q⟩=>yd9 (Q:=fun x H'=>∃k,x= .bl k/\Q k H') (fun _ _ _ _ h=>h) ⟨ps,_,w,yo4 e,fun v H' fv s _ _ r=>⟨c,r.is_bl,q H' s⟩⟩
def zt9:D->Option Bool
 | .non=>some false
 | .bl b=>some b
 | .int i=>some (i !=0)
 | .str y=>if y.length<=sizeLine then some ((y.length:Int) !=0) else none
 | .lst _ xs=>some (!xs.isEmpty)
 | .tup xs=>some (!xs.isEmpty)
 | .con xs=>some (!xs.isEmpty)
 |_=>none
theorem oB{K:tz0}{H:Hp}{vs:List V}{ds:List D}{fp:List Addr}(r:Reps K U H vs ds fp):ds.isEmpty=vs.isEmpty:=by cases r<;>rfl
theorem yo5{K:tz0}{H:Hp}{v:V}{d:D}{fp:List Addr}{b:Bool}(r:Rep K U H v d fp)(h:zt9 d=some b):xt6 K v H b:=by
 cases r with
 |non=>cases h;rfl
 |bl b=>cases h;rfl
 |int i=>cases h;rfl
 |str x=>
  rw [zt9] at h
  split at h
  ·cases h;exact⟨by assumption,rfl⟩
  ·cases h
 |tup s rs=>cases h;exact .inr (.inl ⟨_,s,by rw [oB rs]⟩)
 |con s rs=>cases h;exact .inl ⟨_,s.l,by rw [oB rs]⟩
 |lst s rs=>cases h;exact .inl ⟨_,.inl (.inl s),by rw [oB rs]⟩
 |lstF s rs=>cases h;exact .inl ⟨_,.inl (.inr ⟨_,s⟩),by rw [oB rs]⟩
 |_=>cases h
def fT(f:tz2):tz4:=fun ps=>(f ps).bind zt9
theorem xy9{f:tz2}{ps:PSt}{b:Bool}(h:fT f ps=some b):∃d,f ps=some d/\zt9 d=some b:=by
 unfold fT at h
 cases e:f ps with
 |none=>rw [e] at h;cases h
 |some d=>rw [e] at h;exact⟨d,rfl,h⟩
theorem eQ(ha:QV X U a fa)(he:∀whole,isTrue a X.env whole=(do let v<-whole;standAt a.pos;holding [v] (truthy v)):=by intro _;rfl):QT X U a (fT fa):=
 (yd2 ha he).imp fun σ H Q hh_=>by
  obtain⟨ps,c,w,e,q⟩:=hh_
  obtain⟨d,e1,e2⟩:=xy9 e
  exact⟨ps,d,w,e1,fun v H' fp s r=>⟨c,yo5 r e2,q H' s⟩⟩
def eK(f g:tz4):tz4:=fun ps=>(f ps).bind fun c=>if c=true then g ps else some false
def rW(f g:tz4):tz4:=fun ps=>(f ps).bind fun c=>if c=true then some true else g ps
def fA(f:tz4):tz4:=fun ps=>(f ps).map (!·)
variable{pos:Pos}{rest:List Expr}{ta tb:tz4}
theorem nS(ha:QT X U a ta):QW X U (.BoolOp .And [a] pos) ta:=xx0 ha
theorem zk0(ha:QT X U a ta):QW X U (.BoolOp .Or [a] pos) ta:=xa4 ha
theorem oC(ha:QT X U a ta)(hb:QW X U (.BoolOp .And (b::rest) pos) tb):QW X U (.BoolOp .And (a::b::rest) pos) (eK ta tb):=
 (we4 ha hb).imp fun σ H Q hh_=>by
  obtain⟨ps,c,w,e,q⟩:=hh_
  unfold eK at e
  cases e1:ta ps with
  |none=>rw [e1] at e;cases e
  | some k=>
   rw [e1] at e
   refine⟨ps,k,w,e1,fun H1 s1=> ?_⟩
   cases k with
   |true=>rw [if_pos rfl];exact⟨ps,c,w.same s1,by simpa using e,fun H2 s2=>q H2 (s1.trans s2)⟩
   |false=>
    rw [if_neg Zb]
    have:c=false:=by simpa using e.symm
    subst this;exact q H1 s1
theorem zk1(ha:QT X U a ta)(hb:QW X U (.BoolOp .Or (b::rest) pos) tb):QW X U (.BoolOp .Or (a::b::rest) pos) (rW ta tb):=
 (xu9 ha hb).imp fun σ H Q hh_=>by
  obtain⟨ps,c,w,e,q⟩:=hh_
  unfold rW at e
  cases e1:ta ps with
  |none=>rw [e1] at e;cases e
  | some k=>
   rw [e1] at e
   refine⟨ps,k,w,e1,fun H1 s1=> ?_⟩
   cases k with
   |true=>
    rw [if_pos rfl]
    have:c=true:=by simpa using e.symm
    subst this;exact q H1 s1
   |false=>rw [if_neg Zb];exact⟨ps,c,w.same s1,by simpa using e,fun H2 s2=>q H2 (s1.trans s2)⟩
theorem rT(h:QW X U a ta):QT X U a ta:=PW.pt h
theorem jU(ha:QT X U a ta):QT X U (.UnaryOp .Not a pos) (fA ta):=
 (yc9 ha).imp fun σ H Q hh_=>by
  obtain⟨ps,c,w,e,q⟩:=hh_
  unfold fA at e
  cases e1:ta ps with
  |none=>rw [e1] at e;cases e
  |some k=>
   rw [e1] at e
   have:c= !k:=by simpa using e.symm
   subst this
   exact⟨ps,k,w,e1,fun H1 s1=>q H1 s1⟩
def oN(f g:tz2):tz2:=fun ps=>(f ps).bind fun c=>match c with
 | .bl true=>g ps
 | .bl false=>some (.bl false)
 |_=>none
def fOr(f g:tz2):tz2:=fun ps=>(f ps).bind fun c=>match c with
 | .bl true=>some (.bl true)
 | .bl false=>g ps
 |_=>none
theorem yu5{d:D}{α:Type}{x y:Option α}{z:α}(h:(match d with| .bl true=>x| .bl false=>y|_=>none)=some z):∃b,d= .bl b/\(if b=true then x else y)=some z:=by
 cases d with
 |bl b=>cases b<;>exact⟨_,rfl,h⟩
 |_=>cases h
theorem zk2{op}(h:QP X U a fa):QP X U (.BoolOp op [a] pos) fa:=we5 h
theorem zk3(ha:QP X U a fa)(hb:QP X U (.BoolOp .And (b::rest) pos) fb):QP X U (.BoolOp .And (a::b::rest) pos) (oN fa fb):=
 (we6 ha hb).imp fun σ H Q hh_=>by
  obtain⟨ps,d,w,e,q⟩:=hh_
  unfold oN at e
  cases e1:fa ps with
  |none=>rw [e1] at e;cases e
  | some k=>
   rw [e1] at e
   obtain⟨c,rfl,e2⟩:=yu5 (x:=fb ps) (y:=some (.bl false)) e
   refine⟨ps,_,w,e1,fun v H1 fv s1 _ _ r1=>⟨c,r1.is_bl,?_⟩⟩
   cases c with
   |true=>rw [if_pos rfl] at e2|-;exact⟨ps,d,w.same s1,e2,q.after s1⟩
   |false=>
    rw [if_neg Zb] at e2|-
    cases e2;exact(q.after s1).now (.bl false)
theorem wo3(ha:QP X U a fa)(hb:QP X U (.BoolOp .Or (b::rest) pos) fb):QP X U (.BoolOp .Or (a::b::rest) pos) (fOr fa fb):=
 (wn5 ha hb).imp fun σ H Q hh_=>by
  obtain⟨ps,d,w,e,q⟩:=hh_
  unfold fOr at e
  cases e1:fa ps with
  |none=>rw [e1] at e;cases e
  |some k=>
   rw [e1] at e
   obtain⟨c,rfl,e2⟩:=yu5 (d:=k) (x:=some (D.bl true)) (y:=fb ps) (z:=d) e
   refine⟨ps,_,w,e1,fun v H1 fv s1 _ _ r1=>⟨c,r1.is_bl,?_⟩⟩
   cases c with
   |true=>rw [if_pos rfl] at e2|-;cases e2;exact(q.after s1).now (.bl true)
   |false=>rw [if_neg Zb] at e2|-;exact⟨ps,d,w.same s1,e2,q.after s1⟩
def yy7(f:tz2):tz2:=fun ps=>(f ps).bind fun c=>match c with
 | .bl true=>some (.bl false)
 | .bl false=>some (.bl true)
 |_=>none
theorem wg9(ha:QP X U a fa):QP X U (.UnaryOp .Not a pos) (yy7 fa):=
 (xa5 ha).imp fun σ H Q hh_=>by
  obtain⟨ps,d,w,e,q⟩:=hh_
  unfold yy7 at e
  cases e1:fa ps with
  |none=>rw [e1] at e;cases e
  |some k=>
   rw [e1] at e
   obtain⟨c,rfl,e2⟩:=yu5 (x:=some (D.bl false)) (y:=some (D.bl true)) e
   refine⟨ps,_,w,e1,fun v H1 fv s1 _ _ r1=>⟨c,r1.is_bl,?_⟩⟩
   cases c with
   |true=>rw [if_pos rfl] at e2;cases e2;exact(q.after s1).now (.bl false)
   |false=>rw [if_neg Zb] at e2;cases e2;exact(q.after s1).now (.bl true)
def dP(f:tz2):tz2:=fun ps=>(f ps).bind fun c=>match c with
 | .int i=>some (.int (-i))
 |_=>none
theorem qR(ha:QV X U a fa):QP X U (.UnaryOp .USub a pos) (dP fa):=
 (wn6 wf1 ha).imp fun σ H Q hh_=>by
  obtain⟨ps,d,w,e,q⟩:=hh_
  unfold dP at e
  cases e1:fa ps with
  |none=>rw [e1] at e;cases e
  |some k=>
   rw [e1] at e
   cases k with
   |int i=>cases e;exact⟨ps,_,w,e1,fun v H1 fp s1 r1=>⟨i,r1.is_int,(q.after s1).now (.int _)⟩⟩
   |_=>cases e
end
section
variable{X:Cx}{U:tz9}
theorem Inv.lstR(I:Inv X pins σ H s)(h:Rd H l (.lst xs)):
  xs.length<=sizeLine/\∃(its:List Value) (n:Nat),bQ xs its/\xs.length=its.length/\s.heap.get? l=some {cls:= .type "list",data:= .seq its.toArray n}:=by
 obtain⟨z,its,n,r,e⟩:=h.ok I.hok
 exact⟨z,its,n,r,r.length,e⟩
theorem xz0:OpR X (binaryOp .Add) (fun x y H Q=>∃l b xs zs,x= .ref l/\y= .ref b/\Rd H l (.lst xs)/\Rd H b (.lst zs)/\xs.length+zs.length<=sizeLine/\∀p,H p=none->Q (.ref p) (upd H p (.lst (xs++zs)))):=⟨by
 intro pins s σ H x y v u Q I rx ry h
 obtain⟨l,b,xs,zs,rfl,rfl,hH,hB,hz,q⟩:=h
 cases rx
 cases ry
 obtain⟨z,its,n,r,hl,e⟩:=I.lstR hH
 obtain⟨z2,its2,n2,r2,hl2,e2⟩:=I.lstR hB
 refine PySem.P.add_list e e2 ?_ (by rw [Zl,Zl];omega)
 have ea:its.toArray++its2.toArray=(its++its2).toArray:=by simp
 rw [ea]
 exact⟨.ref _,_,I.lnew (t':=s.toks) (r.append r2) (by rw [Z5];omega),rfl,q _ I.fresh⟩⟩
theorem xn4:OpR X (binaryOp .Add) (fun x y H Q=>∃a b ys,x= .ref a/\y= .ref b/\SqT X.K H a []/\SqT X.K H b ys/\Q (.ref b) H):=⟨by
 intro pins s σ H x y v u Q I rx ry h
 obtain⟨a,b,ys,rfl,rfl,ha,hb,q⟩:=h
 cases rx
 cases ry
 obtain⟨its,r1,p1,_⟩:=I.tuple ha
 obtain⟨its2,r2,p2,_⟩:=I.tuple hb
 cases r1
 obtain⟨⟨cls,dd,data,sl⟩,ho,hc,n,hd⟩:=id p1
 obtain⟨⟨cls2,dd2,data2,sl2⟩,ho2,hc2,n2,hd2⟩:=id p2
 simp only at hc hd hc2 hd2
 subst hc hd hc2 hd2
 exact concat_meets ⟨_,ho,rfl⟩ ⟨_,ho2,rfl⟩ XL Wp YX YV (YQ _ _)
   (tuple_addW0 a b _ _ n n2 dd dd2 sl sl2 rfl) ⟨ho,ho2,⟨.ref b,H,I,rfl,q⟩⟩⟩
theorem Rep.lst_inv{K:tz0}{H:Hp}{v:V}{o:Bool}{ds:List D}{fp:List Addr}(r:Rep K U H v (.lst o ds) fp):∃a vs g,v= .ref a/\Rd H a (.lst vs)/\Reps K U H vs ds g/\g.Sublist fp:=by
 cases r with
 |lst h hs=>exact⟨_,_,_,rfl,.inl h,hs,YY _ _⟩
 |lstF h hs=>exact⟨_,_,_,rfl,.inr ⟨_,h⟩,hs,.refl _⟩
theorem Rep.lstT_inv{K:tz0}{H:Hp}{v:V}{ds:List D}{fp:List Addr}(r:Rep K U H v (.lst true ds) fp):∃a vs g,v= .ref a/\H a=some (.lst vs)/\Reps K U H vs ds g/\fp=a::g:=by
 cases r with
 |lst h hs=>exact⟨_,_,_,rfl,h,hs,rfl⟩
theorem Rep.objT_inv{K:tz0}{H:Hp}{v:V}{C:Str}{ns:List Str}{ds:List D}{fp:List Addr}(r:Rep K U H v (.obj true C ns ds) fp):∃a dx fs g,v= .ref a/\H a=some (.ins (U C) dx fs)/\fs.map (·.1)=ns/\Reps K U H (fs.map (·.2)) ds g/\fp=a::g:=by
 cases r with
 |obj h e hs=>exact⟨_,_,_,_,rfl,h,e,hs,rfl⟩
theorem Rep.tup_inv{K:tz0}{H:Hp}{v:V}{ds:List D}{fp:List Addr}(r:Rep K U H v (.tup ds) fp):∃a vs,v= .ref a/\SqT K H a vs/\Reps K U H vs ds []:=by
 cases r with
 |tup h hs=>exact⟨_,_,rfl,h,hs⟩
theorem Reps.pair{K:tz0}{H:Hp}{vs:List V}{ds:List D}{fp:List Addr}(r:Reps K U H vs ds fp)(h:D.imms ds=true):Paired (fun v d=>Rep K U H v d []) vs ds:=by
 have e:=r.imm h
 subst e
 exact r.nilp
theorem Rep.con_inv{K:tz0}{H:Hp}{v:V}{ds:List D}{fp:List Addr}(r:Rep K U H v (.con ds) fp):∃a vs,v= .ref a/\SqF K H a vs/\Reps K U H vs ds []:=by
 cases r with
 |con h hs=>exact⟨_,_,rfl,h,hs⟩
theorem zc7{K:tz0}{H:Hp}{vs:List V}{ds:List D}{Q:VK}{p:Addr}(hp:H p=none)(r:Paired (fun v d=>Rep K U H v d []) vs ds)(q:lA K U H (.lst true ds) Q):Q (.ref p) (upd H p (.lst vs)):=
 q.at hp (fv:=[p]) (fun a ha=>by simp at ha;subst ha;exact hp) (by simp) (.lst cX ((Reps.ofp r).same (.new hp _)))
theorem zq8{K:tz0}{H:Hp}{vs:List V}{ds:List D}{Q:VK}{p:Addr}(hp:H p=none)(r:Paired (fun v d=>Rep K U H v d []) vs ds)(q:lA K U H (.tup ds) Q):Q (.ref p) (upd H p (.tup vs)):=
 q.at hp (fv:=[]) (fun a ha=>by simp at ha) (by simp) (.tup (.inl (.inl cX)) ((Reps.ofp r).same (.new hp _)))
def cJ:D->D->Option D
 | .int i,.int j=>some (.int (i+j))
 | .str x,.str y=>if x.length+y.length<=sizeLine then some (.str (x++y)) else none
 | .lst _ xs,.lst _ ys=>if (D.imms xs&&D.imms ys&&decide (xs.length+ys.length<=sizeLine))=true then some (.lst true (xs++ys)) else none
 | .tup xs,.tup ys=>if xs.length+ys.length<=sizeLine then some (.tup (xs++ys)) else none
 |_,_=>none
theorem bind_some(h:o.bind g=some z):∃x,o=some x/\g x=some z:=by
 cases o with
 |none=>cases h
 |some x=>exact⟨x,rfl,h⟩
theorem bV[Decidable c]{x:Option α}{z:α}(h:(if c then x else none)=some z):c/\x=some z:=by
 by_cases k:c
 ·rw [if_pos k] at h;exact⟨k,h⟩
 ·rw [if_neg k] at h;cases h
theorem eW:OpR X (binaryOp .Add) (POp X.K U cJ):=⟨by
 rintro pins s σ H x y v u Q I rx ry ⟨dx,dy,d,fx,fy,r1,r2,e,q⟩
 unfold cJ at e
 split at e
 ·rename_i i j
  cases e;exact wI pins s σ H x y v u Q I rx ry ⟨i,j,r1.is_int,r2.is_int,q.now (.int _)⟩
 ·rename_i i j
  obtain⟨hc,e⟩:=bV e
  cases e;exact yt3 pins s σ H x y v u Q I rx ry ⟨i,j,r1.is_str,r2.is_str,hc,q.now (.str _)⟩
 ·rename_i o xs o' ys
  obtain⟨hc,e⟩:=bV e
  simp only [ZA,ZX] at hc
  cases e
  obtain⟨a,vs,g,rfl,h1,s1,_⟩:=r1.lst_inv
  obtain⟨b,us,g',rfl,h2,s2,_⟩:=r2.lst_inv
  exact xz0 pins s σ H _ _ v u Q I rx ry ⟨a,b,vs,us,rfl,rfl,h1,h2,by rw [s1.length,s2.length];exact hc.2,fun p hp=>zc7 hp (Paired.app (s1.pair hc.1.1) (s2.pair hc.1.2)) q⟩
 ·rename_i xs ys
  obtain⟨hc,e⟩:=bV e
  cases e
  obtain⟨a,vs,rfl,h1,s1⟩:=r1.tup_inv
  obtain⟨b,us,rfl,h2,s2⟩:=r2.tup_inv
  have l1:=s1.length;have l2:=s2.length
  cases vs with
  |nil=>
   cases s1
   exact xn4 pins s σ H _ _ v u Q I rx ry ⟨a,b,us,rfl,rfl,h1,h2,q.now (.tup h2 s2)⟩
  |cons w ws=>
   refine xx8 pins s σ H _ _ v u Q I rx ry ⟨a,b,_,us,rfl,rfl,h1,h2,by simp,by omega,fun z=> ?_,fun z p hp=>zq8 hp (Paired.app s1.nilp s2.nilp) q⟩
   subst z
   cases s2
   rw [Zq] at q
   exact q.now (.tup h1 s1)
 ·cases e⟩
def dII(C:Int->Int->Bool)(g:Int->Int->D):D->D->Option D
 | .int i,.int j=>if C i j=true then some (g i j) else none
 |_,_=>none
theorem ye0(h:dII C g x y=some d):∃i j,x= .int i/\y= .int j/\C i j=true/\d=g i j:=by
 unfold dII at h
 split at h
 ·obtain⟨hc,h⟩:=bV h
  cases h;exact⟨_,_,rfl,rfl,hc,rfl⟩
 ·cases h
def lB:D->D->Option D
 | .int i,.int j=>some (.int (i-j))
 |_,_=>none
theorem qC:OpR X (binaryOp .Sub) (POp X.K U lB):=⟨by
 rintro pins s σ H x y v u Q I rx ry ⟨dx,dy,d,fx,fy,r1,r2,e,q⟩
 unfold lB at e
 split at e
 ·rename_i i j
  cases e;exact we9 pins s σ H x y v u Q I rx ry ⟨i,j,r1.is_int,r2.is_int,q.now (.int _)⟩
 ·cases e⟩
def oO(i j:Int):Bool:=(decide (-(2^64)<i)&&decide (i<2^64))||(decide (-(2^64)<j)&&decide (j<2^64))
def iL:D->D->Option D
 | .int i,.int j=>if oO i j=true then some (.int (i*j)) else none
 | .str x,.int n=>if (decide (x.length<=1)&&decide (-(2^63)<=n)&&decide (n<=16777216))=true then some (.str (Txt.mul x n)) else none
 |_,_=>none
theorem yu6:OpR X (binaryOp .Mult) (fun x y H Q=>∃z n,x= .str z/\y= .int n/\MulOk z n/\Q (.str (Txt.mul z n)) H):=⟨by
 rintro pins s σ H x y v u Q I rx ry ⟨z,n,e1,e2,ok,q⟩
 subst e1 e2
 obtain⟨t,rfl⟩:=rx
 obtain⟨t',rfl⟩:=ry
 exact SB.mul ok fun t' k=>⟨.str _,H,I.tok k,⟨_,rfl⟩,q⟩⟩
theorem uX:OpR X (binaryOp .Mult) (POp X.K U iL):=⟨by
 rintro pins s σ H x y v u Q I rx ry ⟨dx,dy,d,fx,fy,r1,r2,e,q⟩
 unfold iL at e
 split at e
 ·rename_i i j
  obtain⟨hc,e⟩:=bV e
  cases e
  refine nZ pins s σ H x y v u Q I rx ry ⟨i,j,r1.is_int,r2.is_int,?_,q.now (.int _)⟩
  unfold oO at hc
  simp only [Bool.or_eq_true,ZA,ZX] at hc
  exact hc
 ·rename_i z n
  obtain⟨hc,e⟩:=bV e
  simp only [ZA,ZX] at hc
  cases e
  exact yu6 pins s σ H _ _ v u Q I rx ry ⟨z,n,r1.is_str,r2.is_int,mulOk_of 1 16777216 hc.1.1 (by omega) hc.1.2 (by decide) (by decide),q.now (.str _)⟩
 ·cases e⟩
def dX:D->D->Option D:=dII (fun _ j=>decide (0<j)) fun i j=> .int (i % j)
theorem gM:OpR X (binaryOp .Mod) (POp X.K U dX):=⟨by
 rintro pins s σ H x y v u Q I rx ry ⟨dx,dy,d,fx,fy,r1,r2,e,q⟩
 obtain⟨i,j,rfl,rfl,hc,rfl⟩:=ye0 e
 exact zj3 pins s σ H x y v u Q I rx ry ⟨i,j,r1.is_int,r2.is_int,Xk hc,q.now (.int _)⟩⟩
def gI:D->D->Option D:=dII (fun _ j=>decide (0<j)&&decide (j<1073741824)) fun i j=> .int (i/j)
theorem nG:OpR X (binaryOp .FloorDiv) (POp X.K U gI):=⟨by
 rintro pins s σ H x y v u Q I rx ry ⟨dx,dy,d,fx,fy,r1,r2,e,q⟩
 obtain⟨i,j,rfl,rfl,hc,rfl⟩:=ye0 e
 simp only [ZA,ZX] at hc
 exact yn4 pins s σ H x y v u Q I rx ry ⟨i,j,r1.is_int,r2.is_int,hc,q.now (.int _)⟩⟩
def D.ints:List D->Option (List Int)
 |[]=>some []
 | .int i::ds=>(D.ints ds).map (i::·)
 |_::_=>none
theorem sZ{K:tz0}{H:Hp}:∀{vs:List V} {ds:List D} {fp:List Addr} {ns:List Int},Reps K U H vs ds fp->D.ints ds=some ns->vs=ns.map V.int
 |_,_,_,_,.nil,e=>by cases e;rfl
 | _,d::ds,_,ns,.cons h hs,e=>by
  cases d with
  |int i=>
   rw [D.ints] at e
   cases e1:D.ints ds with
   |none=>rw [e1] at e;cases e
   |some ms=>rw [e1] at e;cases e;rw [h.is_int,sZ hs e1];rfl
  |_=>cases e
def dLt:D->D->Option D
 | .int i,.int j=>some (.bl (decide (i<j)))
 |_,_=>none
theorem zK(hu:X.A.units<cLine):OpR X (compareOp .Lt) (POp X.K U dLt):=⟨by
 rintro pins s σ H x y v u Q I rx ry ⟨dx,dy,d,fx,fy,r1,r2,e,q⟩
 unfold dLt at e
 split at e
 ·rename_i i j
  cases e;exact wn7 pins s σ H x y v u Q I rx ry ⟨i,j,r1.is_int,r2.is_int,q.now (.bl _)⟩
 ·cases e⟩
def dLe:D->D->Option D
 | .int i,.int j=>some (.bl (decide (i<=j)))
 |_,_=>none
theorem xn5:OpR X (compareOp .LtE) (POp X.K U dLe):=⟨by
 rintro pins s σ H x y v u Q I rx ry ⟨dx,dy,d,fx,fy,r1,r2,e,q⟩
 unfold dLe at e
 split at e
 ·rename_i i j
  cases e;exact wn8 pins s σ H x y v u Q I rx ry ⟨i,j,r1.is_int,r2.is_int,q.now (.bl _)⟩
 ·cases e⟩
def dGt:D->D->Option D
 | .int i,.int j=>some (.bl (decide (j<i)))
 |_,_=>none
theorem zq9:OpR X (compareOp .Gt) (POp X.K U dGt):=⟨by
 rintro pins s σ H x y v u Q I rx ry ⟨dx,dy,d,fx,fy,r1,r2,e,q⟩
 unfold dGt at e
 split at e
 ·rename_i i j
  cases e;exact wn9 pins s σ H x y v u Q I rx ry ⟨i,j,r1.is_int,r2.is_int,q.now (.bl _)⟩
 ·cases e⟩
def dGe:D->D->Option D
 | .int i,.int j=>some (.bl (decide (j<=i)))
 |_,_=>none
theorem wh0:OpR X (compareOp .GtE) (POp X.K U dGe):=⟨by
 rintro pins s σ H x y v u Q I rx ry ⟨dx,dy,d,fx,fy,r1,r2,e,q⟩
 unfold dGe at e
 split at e
 ·rename_i i j
  cases e;exact wo0 pins s σ H x y v u Q I rx ry ⟨i,j,r1.is_int,r2.is_int,q.now (.bl _)⟩
 ·cases e⟩
mutual
def D.data:D->Option PyData
 | .non=>some .none
 | .bl b=>some (.bool b)
 | .int i=>some (.int i)
 | .str x=>some (.str x)
 | .tup xs=>(D.datas xs).map .tuple
 | .lst _ xs=>(D.datas xs).map .list
 |_=>none
def D.datas:List D->Option (List PyData)
 |[]=>some []
 |d::ds=>d.data.bind fun p=>(D.datas ds).map (p::·)
end
theorem Reps.dps{K:tz0}{H:Hp}{vs:List V}{ds:List D}{fp:List Addr}(h:Reps K U H vs ds fp):∀{p:List PyData},D.datas ds=some p->DpAll K H vs p:=
 Reps.rec (motive_1:=fun v d _ _=>∀{p:PyData},d.data=some p->Dp K H v p) (motive_2:=fun vs ds _ _=>∀{p:List PyData},D.datas ds=some p->DpAll K H vs p)
  (fun e=>by cases e;exact .non) (fun b _ e=>by cases e;exact .bl b) (fun b _ e=>by cases e;exact .int b) (fun b _ e=>by cases e;exact .str b) (fun b _ e=>nomatch e)
  (fun h _ ih _ e=>by obtain⟨ps,e1,e⟩:=Zp.mp e;subst e;exact .tup h (ih e1)) (fun _ _ _ _ e=>nomatch e)
  (fun h _ ih _ e=>by obtain⟨ps,e1,e⟩:=Zp.mp e;subst e;exact .lst (.inl (.inl h)) (ih e1))
  (fun h _ ih _ e=>by obtain⟨ps,e1,e⟩:=Zp.mp e;subst e;exact .lst (.inl (.inr ⟨_,h⟩)) (ih e1))
  (fun _ _ _ _ _ e=>nomatch e) (fun _ _ _ _ _ e=>nomatch e) (fun _ _ _ _ _ e=>nomatch e) (fun _ _ _ _ _ e=>nomatch e)
  (fun e=>by cases e;exact .nil)
  (fun _ _ i1 i2 _ e=>by
   obtain⟨q,e1,e⟩:=bind_some e
   obtain⟨qs,e2,e⟩:=Zp.mp e
   subst e
   exact .cons (i1 e1) (i2 e2)) h
theorem Rep.dp{K:tz0}{H:Hp}{v:V}{d:D}{fp:List Addr}{p:PyData}(h:Rep K U H v d fp)(e:d.data=some p):Dp K H v p:=by
 have:=(Reps.one h).dps (p:=[p]) (by show(d.data.bind _)=_;rw [e];rfl)
 cases this;assumption
def uL(x y:D):Option Bool:=x.data.bind fun a=>y.data.bind fun b=>if (a.canLay0&&b.canLay0&&decide (a.depth<=60))=true then some (PyData.eqv a b) else none
def eqB(x y:D):Option Bool:=match x,y with
 | .int i,.int j=>some (decide (i=j))
 | .str i,.str j=>some (decide (i=j))
 |x,y=>uL x y
def dEq(x y:D):Option D:=(eqB x y).map .bl
def dNe(x y:D):Option D:=(eqB x y).map fun b=> .bl (!b)
theorem zv4(h:eqB x y=some b):(∃i j,x= .int i/\y= .int j/\b=decide (i=j))\/(∃i j,x= .str i/\y= .str j/\b=decide (i=j))\/
  ∃p q,x.data=some p/\y.data=some q/\p.canLay0=true/\q.canLay0=true/\p.depth<=60/\b=PyData.eqv p q:=by
 have gen:uL x y=some b->∃p q,x.data=some p/\y.data=some q/\p.canLay0=true/\q.canLay0=true/\p.depth<=60/\b=PyData.eqv p q:=fun h=>by
  unfold uL at h
  cases e1:x.data with
  |none=>rw [e1] at h;cases h
  | some p=>
   rw [e1] at h
   cases e2:y.data with
   |none=>rw [e2] at h;cases h
   | some q=>
    rw [e2] at h
    have h':(if (p.canLay0&&q.canLay0&&decide (p.depth<=60))=true then some (PyData.eqv p q) else none)=some b:=h
    split at h'
    ·rename_i hc
     simp only [ZA,ZX] at hc
     exact⟨p,q,rfl,rfl,hc.1.1,hc.1.2,hc.2,(ZB h').symm⟩
    ·cases h'
 unfold eqB at h
 split at h
 ·cases h;exact .inl ⟨_,_,rfl,rfl,rfl⟩
 ·cases h;exact .inr (.inl ⟨_,_,rfl,rfl,rfl⟩)
 ·exact .inr (.inr (gen h))
theorem gS(hu:X.A.units+64<cLine):OpR X (compareOp .Eq) (POp X.K U dEq):=⟨by
 rintro pins s σ H x y v u Q I rx ry ⟨dx,dy,d,fx,fy,r1,r2,e,q⟩
 unfold dEq at e
 cases e1:eqB dx dy with
 |none=>rw [e1] at e;cases e
 | some b=>
  rw [e1] at e
  cases e
  rcases zv4 e1 with ⟨i,j,rfl,rfl,rfl⟩|⟨i,j,rfl,rfl,rfl⟩|⟨p,p',h1,h2,h3,h4,h5,rfl⟩
  ·rw [r1.is_int] at rx;rw [r2.is_int] at ry
   exact yt1 pins s σ H _ _ v u Q I rx ry ⟨rfl,by rw [show decide (V.int i=V.int j)=decide (i=j) by simp];exact q.now (.bl _)⟩
  ·rw [r1.is_str] at rx;rw [r2.is_str] at ry
   exact yt1 pins s σ H _ _ v u Q I rx ry ⟨rfl,by rw [show decide (V.str i=V.str j)=decide (i=j) by simp];exact q.now (.bl _)⟩
  ·exact wg6 hu pins s σ H _ _ v u Q I rx ry ⟨p,p',r1.dp h1,r2.dp h2,h3,h4,h5,q.now (.bl _)⟩⟩
theorem xn6(hu:X.A.units+64<cLine):OpR X (compareOp .NotEq) (POp X.K U dNe):=⟨by
 rintro pins s σ H x y v u Q I rx ry ⟨dx,dy,d,fx,fy,r1,r2,e,q⟩
 unfold dNe at e
 cases e1:eqB dx dy with
 |none=>rw [e1] at e;cases e
 | some b=>
  rw [e1] at e
  cases e
  rcases zv4 e1 with ⟨i,j,rfl,rfl,rfl⟩|⟨i,j,rfl,rfl,rfl⟩|⟨p,p',h1,h2,h3,h4,h5,rfl⟩
  ·rw [r1.is_int] at rx;rw [r2.is_int] at ry
   exact xv0 pins s σ H _ _ v u Q I rx ry ⟨rfl,by rw [show decide (V.int i=V.int j)=decide (i=j) by simp];exact q.now (.bl _)⟩
  ·rw [r1.is_str] at rx;rw [r2.is_str] at ry
   exact xv0 pins s σ H _ _ v u Q I rx ry ⟨rfl,by rw [show decide (V.str i=V.str j)=decide (i=j) by simp];exact q.now (.bl _)⟩
  ·exact wg7 hu pins s σ H _ _ v u Q I rx ry ⟨p,p',r1.dp h1,r2.dp h2,h3,h4,h5,q.now (.bl _)⟩⟩
def zo2:D->Bool
 | .non=>true
 |_=>false
theorem ye1{K:tz0}{H:Hp}{v:V}{d:D}{fp:List Addr}(r:Rep K U H v d fp):decide (v= .non)=zo2 d:=by cases r<;>first|rfl|simp [zo2]
def dIs:D->D->Option D
 |x,.non=>some (.bl (zo2 x))
 |_,_=>none
def za8:D->D->Option D
 |x,.non=>some (.bl (!(zo2 x)))
 |_,_=>none
theorem wh1:OpR X (compareOp .Is) (POp X.K U dIs):=⟨by
 rintro pins s σ H x y v u Q I rx ry ⟨dx,dy,d,fx,fy,r1,r2,e,q⟩
 cases dy with
 |non=>
  cases e;cases r2
  refine wf2 pins s σ H x _ v u Q I rx ry ⟨rfl,?_⟩
  rw [ye1 r1];exact q.now (.bl _)
 |_=>cases e⟩
theorem yo6:OpR X (compareOp .IsNot) (POp X.K U za8):=⟨by
 rintro pins s σ H x y v u Q I rx ry ⟨dx,dy,d,fx,fy,r1,r2,e,q⟩
 cases dy with
 |non=>
  cases e;cases r2
  refine xx2 pins s σ H x _ v u Q I rx ry ⟨rfl,?_⟩
  rw [ye1 r1];exact q.now (.bl _)
 |_=>cases e⟩
def D.flat:D->Option V
 | .non=>some .non
 | .bl b=>some (.bl b)
 | .int i=>some (.int i)
 | .str x=>some (.str x)
 |_=>none
def D.flats:List D->Option (List V)
 |[]=>some []
 |d::ds=>d.flat.bind fun v=>(D.flats ds).map (v::·)
theorem yo7{K:tz0}{H:Hp}{v w:V}{d:D}{fp:List Addr}(r:Rep K U H v d fp)(h:d.flat=some w):v=w/\lG v=true:=by
 cases r<;>first|(cases h;exact⟨rfl,rfl⟩)|cases h
theorem ye2{K:tz0}{H:Hp}:∀{vs ws:List V} {ds:List D} {fp:List Addr},Reps K U H vs ds fp->D.flats ds=some ws->vs=ws/\vs.all lG=true
 |_,_,_,_,.nil,e=>by cases e;exact⟨rfl,rfl⟩
 | _,ws,d::ds,_,.cons h hs,e=>by
  rw [D.flats] at e
  cases e1:d.flat with
  |none=>rw [e1] at e;cases e
  | some w=>
   rw [e1] at e
   cases e2:D.flats ds with
   |none=>rw [e2] at e;cases e
   |some us=>
    rw [e2] at e;cases e
    obtain⟨a1,a2⟩:=yo7 h e1
    obtain⟨b1,b2⟩:=ye2 hs e2
    exact⟨by rw [a1,b1],by rw [XM,a2,b2];rfl⟩
def mO(x:D)(ds:List D):Option Bool:=x.flat.bind fun v=>(D.flats ds).map fun ws=>inV v ws
def inB(x:D):D->Option Bool
 | .lst _ ds=>mO x ds
 | .tup ds=>mO x ds
 |_=>none
def dIn(x y:D):Option D:=(inB x y).map .bl
theorem wh2{H:Hp}{x y:V}{dx dy:D}{fx fy:List Addr}{b:Bool}(r1:Rep X.K U H x dx fx)(r2:Rep X.K U H y dy fy)(e:inB dx dy=some b):
  ∃p xs,y= .ref p/\(SqL X.K H p xs\/SqT X.K H p xs)/\lG x=true/\xs.all lG=true/\b=inV x xs:=by
 have gen:∀{vs:List V} {ds:List D} {g:List Addr},Reps X.K U H vs ds g->mO dx ds=some b->lG x=true/\vs.all lG=true/\b=inV x vs:=fun {vs ds g} rs h=>by
  unfold mO at h
  cases e1:dx.flat with
  |none=>rw [e1] at h;cases h
  | some w=>
   rw [e1] at h
   cases e2:D.flats ds with
   |none=>rw [e2] at h;cases h
   |some ws=>
    rw [e2] at h
    obtain⟨a1,a2⟩:=yo7 r1 e1
    obtain⟨b1,b2⟩:=ye2 rs e2
    subst a1 b1
    exact⟨a2,b2,(ZB h).symm⟩
 cases dy with
 |lst o ds=>
  obtain⟨a,vs,g,rfl,h,hs,_⟩:=r2.lst_inv
  obtain⟨g1,g2,g3⟩:=gen hs e
  exact⟨a,vs,rfl,.inl (.inl h),g1,g2,g3⟩
 |tup ds=>
  obtain⟨a,vs,rfl,h,hs⟩:=r2.tup_inv
  obtain⟨g1,g2,g3⟩:=gen hs e
  exact⟨a,vs,rfl,.inr h,g1,g2,g3⟩
 |_=>cases e
theorem ws3:OpR X (compareOp .In) (POp X.K U dIn):=⟨by
 rintro pins s σ H x y v u Q I rx ry ⟨dx,dy,d,fx,fy,r1,r2,e,q⟩
 unfold dIn at e
 cases e1:inB dx dy with
 |none=>rw [e1] at e;cases e
 |some b=>
  rw [e1] at e;cases e
  obtain⟨p,xs,ey,h,f1,f2,rfl⟩:=wh2 r1 r2 e1
  exact xc1 pins s σ H x y v u Q I rx ry ⟨p,xs,ey,h,f1,f2,q.now (.bl _)⟩⟩
end
theorem Reps.getS{K:tz0}{U:tz9}{H:Hp}:∀{vs:List V} {ds:List D} {fp:List Addr} {i:Nat} {d:D},Reps K U H vs ds fp->ds[i]? =some d->∃v f,vs[i]? =some v/\Rep K U H v d f/\f.Sublist fp
 |_,_,_,_,_,.nil,e=>by simp at e
 |_,_,_,0,_,.cons h _,e=>by simp at e;subst e;exact⟨_,_,rfl,h,XO _ _⟩
 |_,_,_,i+1,_,.cons _ hs,e=>by
  obtain⟨v,f,h1,h2,h3⟩:=Reps.getS (i:=i) hs (by simpa using e)
  exact⟨v,f,by simpa using h1,h2,h3.trans (XI _ _)⟩
theorem Reps.atI{K:tz0}{U:tz9}{H:Hp}{vs:List V}{ds:List D}{fp:List Addr}{i:Int}{d:D}(r:Reps K U H vs ds fp)(h:L2.atI ds i=some d):∃v f,L2.atI vs i=some v/\Rep K U H v d f/\f.Sublist fp:=by
 unfold L2.atI at h|-
 rw [r.length]
 cases e:ixN ds.length i with
 |none=>rw [e] at h;cases h
 |some j=>rw [e] at h;exact r.getS h
section
variable{X:Cx}{U:tz9}{e a b:Expr}{es:List Expr}{f fa fb:tz2}{g:tz3}{pos p2:Pos}
def aE:tz3:=fun _=>some []
def aB(f:tz2)(g:tz3):tz3:=fun ps=>(f ps).bind fun d=>(g ps).bind fun ds=>some (d::ds)
theorem xG(h:aB f g ps=some ds):∃d es,f ps=some d/\g ps=some es/\ds=d::es:=by
 unfold aB at h
 cases e1:f ps with
 |none=>rw [e1] at h;cases h
 |some d=>
  rw [e1] at h
  cases e2:g ps with
  |none=>rw [e2] at h;cases h
  |some es=>rw [e2] at h;cases h;exact⟨d,es,rfl,rfl,rfl⟩
theorem aQ:QVA X U [] aE:=kO.imp fun σ H Q ⟨ps,ds,w,e,q⟩=>by cases e;exact q [] H [] (.refl H) .nil
theorem aF(ha:QV X U e f)(hr:QVA X U es g)(hs:starEach (e::es) X.env=(false,eval e X.env)::starEach es X.env:=by rfl):QVA X U (e::es) (aB f g):=
 (eL ha hr hs).imp fun σ H Q hh_=>by
  obtain⟨ps,ds,w,e,q⟩:=hh_
  obtain⟨d,es,e1,e2,rfl⟩:=xG e
  exact⟨ps,d,w,e1,fun v H1 fp s1 r1=>⟨ps,es,w.same s1,e2,fun vs H2 fq s2 r2=>q _ H2 _ (s1.trans s2) (.cons (r1.same s2) r2)⟩⟩
theorem bA:QPA X U [] aE:=kO.imp fun σ H Q ⟨ps,ds,w,e,q⟩=>by cases e;exact q [] H [] (.refl H) (fun _ h=>absurd h (by simp)) Zr .nil
theorem xd6{K:tz0}{H1:Hp}{v:V}{d:D}{fv fw:List Addr}(r:Rep K U H1 v d fv)(n1:fv.Nodup)(hw:∀a∈fw,H1 a=none)(n2:fw.Nodup):(fv++fw).Nodup:=by
 rw [ZI]
 refine⟨n1,n2,fun a ha b hb e=> ?_⟩
 subst e
 obtain⟨o,h,_⟩:=r.own a ha
 rw [hw a hb] at h;cases h
theorem aP(ha:QP X U e f)(hr:QPA X U es g)(hs:starEach (e::es) X.env=(false,eval e X.env)::starEach es X.env:=by rfl):QPA X U (e::es) (aB f g):=
 (eL ha hr hs).imp fun σ H Q hh_=>by
  obtain⟨ps,ds,w,e,q⟩:=hh_
  obtain⟨d,es,e1,e2,rfl⟩:=xG e
  refine⟨ps,d,w,e1,fun v H1 fv s1 n1 nd1 r1=>⟨ps,es,w.same s1,e2,fun vs H2 fw s2 n2 nd2 r2=> ?_⟩⟩
  refine q _ H2 (fv++fw) (s1.trans s2) (fun a ha=> ?_) (xd6 r1 nd1 n2 nd2) (.cons (r1.same s2) r2)
  rcases Zk.mp ha with z|z
  ·exact n1 a z
  ·exact s1.grow a (n2 a z)
def cK(g:tz3):tz2:=fun ps=>(g ps).bind fun ds=>if (D.imms ds&&decide (ds.length<=1000))=true then some (.tup ds) else none
def cV(g:tz3):tz2:=fun ps=>(g ps).bind fun ds=>if ds.length<=1000 then some (.lst true ds) else none
theorem dJ{x1}(h:QPA X U es g):QP X U (.Tuple es x1 pos) (cK g):=
 (xb6 h).imp fun σ H Q hh_=>by
  obtain⟨ps,d,w,e,q⟩:=hh_
  obtain⟨ds,e1,e2⟩:=bind_some e
  obtain⟨hc,e3⟩:=bV e2
  cases e3
  rw [ZA,ZX] at hc
  refine⟨ps,ds,w,e1,fun vs H1 fv s1 n1 nd1 r1=>⟨by rw [r1.length];exact ya9 hc.2,fun p hp=> ?_⟩⟩
  exact zq8 hp (r1.pair hc.1) (q.after s1)
theorem dZ(h:QPA X U es g):QP X U (.List es pos) (cV g):=
 (wf6 h).imp fun σ H Q hh_=>by
  obtain⟨ps,d,w,e,q⟩:=hh_
  obtain⟨ds,e1,e2⟩:=bind_some e
  obtain⟨hc,e3⟩:=bV e2
  cases e3
  refine⟨ps,ds,w,e1,fun vs H1 fv s1 n1 nd1 r1=>⟨by rw [r1.length];exact ya9 hc,fun p hp=> ?_⟩⟩
  refine q _ _ (p::fv) (s1.trans (.new hp _)) (fun a ha=> ?_) (Zu.mpr ⟨fun hm=> ?_,nd1⟩) (.lst cX (r1.same (.new hp _)))
  ·rcases Z2.mp ha with z|z
   ·rw [z];exact s1.grow p hp
   ·exact n1 a z
  ·obtain⟨o,h,_⟩:=r1.own p hm
   rw [hp] at h;cases h
def dIx:D->D->Option D
 | .lst _ xs,.int i=>atI xs i
 | .tup xs,.int i=>atI xs i
 | .con xs,.int i=>atI xs i
 | .str z,.int i=>if z.length<=sizeLine then(atI z.cps.toList i).map fun c=> .str ⟨#[c]⟩ else none
 |_,_=>none
theorem xd7{K:tz0}{H:Hp}{x y:V}{dx dy d:D}{fx fy:List Addr}{Q:VK}(r1:Rep K U H x dx fx)(r2:Rep K U H y dy fy)(e:dIx dx dy=some d)(q:∀v f,Rep K U H v d f->f.Sublist fx->Q v H):rIx K x y H Q:=by
 unfold dIx at e
 split at e
 ·rename_i o xs i
  obtain⟨a,vs,g,rfl,h,hs,sub⟩:=r1.lst_inv
  obtain⟨v,f,h1,h2,h3⟩:=hs.atI e
  exact .inl ⟨a,vs,i,v,rfl,r2.is_int,.inl h,h1,q v f h2 (h3.trans sub)⟩
 ·rename_i xs i
  obtain⟨a,vs,rfl,h,hs⟩:=r1.tup_inv
  obtain⟨v,f,h1,h2,h3⟩:=hs.atI e
  cases List.sublist_nil.mp h3
  exact .inr (.inl ⟨a,vs,i,v,rfl,r2.is_int,h,h1,q v [] h2 (Xr _)⟩)
 ·rename_i xs i
  obtain⟨a,vs,rfl,h,hs⟩:=r1.con_inv
  obtain⟨v,f,h1,h2,h3⟩:=hs.atI e
  cases List.sublist_nil.mp h3
  exact .inl ⟨a,vs,i,v,rfl,r2.is_int,h.l,h1,q v [] h2 (Xr _)⟩
 ·rename_i z i
  obtain⟨hz,e⟩:=bV e
  obtain⟨c,e1,e⟩:=Zp.mp e
  subst e
  exact .inr (.inr ⟨z,i,c,r1.is_str,r2.is_int,hz,e1,q _ [] (.str _) (Xr _)⟩)
 ·cases e
theorem aZ(ha:QV X U a fa)(hb:QV X U b fb)(hs:ze1 b:=by exact fun _ _=>rfl):QV X U (.Subscript a b pos) (f2 dIx fa fb):=
 (ya7 xb9 ha hb hs).imp fun σ H Q hh_=>by
  obtain⟨ps,d,w,e,q⟩:=hh_
  obtain⟨x,y,e1,e2,e3⟩:=wJ e
  exact⟨ps,x,w,e1,fun v H1 fp s1 r1=>⟨ps,y,w.same s1,e2,fun u H2 fq s2 r2=>xd7 (r1.same s2) r2 e3 fun v f r _=>q v H2 f (s1.trans s2) r⟩⟩
theorem sH(ha:QP X U a fa)(hb:QV X U b fb)(hs:ze1 b:=by exact fun _ _=>rfl):QP X U (.Subscript a b pos) (f2 dIx fa fb):=
 (ya7 xb9 ha hb hs).imp fun σ H Q hh_=>by
  obtain⟨ps,d,w,e,q⟩:=hh_
  obtain⟨x,y,e1,e2,e3⟩:=wJ e
  exact⟨ps,x,w,e1,fun v H1 fv s1 n1 nd1 r1=>⟨ps,y,w.same s1,e2,fun u H2 fq s2 r2=>xd7 (r1.same s2) r2 e3 fun v f r sub=>q v H2 f (s1.trans s2) (fun c hc=>n1 c (sub.subset hc)) (nd1.sublist sub) r⟩⟩
def tO(K:tz0)(U:tz9)(f:PSt->Option (Option Int)):TO:=fun σ H Q=>∃ps o,WS K U H σ ps/\f ps=some o/\∀H',SameK H H'->Q o H'
abbrev QO(X:Cx)(U:tz9)(e:Option Expr)(f:PSt->Option (Option Int)):Prop:=PO X e (tO X.K U f)
def gB:PSt->Option (Option Int):=fun _=>some none
def jP(f:tz2):PSt->Option (Option Int):=fun ps=>(f ps).bind fun d=>match d with
 | .int i=>some (some i)
 |_=>none
theorem yo8:QO X U none gB:=⟨fun pins s σ H Q I ⟨ps,o,w,e,q⟩=>by cases e;exact xx6 pins s σ H Q I (q H (.refl H))⟩
theorem yo9(h:QV X U e f):QO X U (some e) (jP f):=⟨fun pins s σ H Q I hh_=>by
 obtain⟨ps,o,w,e,q⟩:=hh_
 obtain⟨d,e1,e2⟩:=bind_some e
 cases d with
 |int i=>cases e2;exact xx7 h pins s σ H Q I ⟨ps,_,w,e1,fun v H1 fp s1 r1=>⟨i,r1.is_int,q H1 s1⟩⟩
 |_=>cases e2⟩
def yj6(xs:List D)(lo hi:Option Int):List D:=(xs.drop (HT.sIx xs.length 0 lo)).take (HT.sIx xs.length xs.length hi-HT.sIx xs.length 0 lo)
def dSl:D->Option Int->Option Int->Option D
 | .lst _ xs,lo,hi=>if D.imms xs=true then some (.lst true (yj6 xs lo hi)) else none
 |_,_,_=>none
theorem xn7{K:tz0}{H:Hp}{vs:List V}{ds:List D}{lo hi:Option Int}(r:Paired (fun v d=>Rep K U H v d []) vs ds):Paired (fun v d=>Rep K U H v d []) (zt7 vs lo hi) (yj6 ds lo hi):=by
 unfold zt7 yj6
 rw [ZJ r]
 exact Paired.takeN _ (Paired.dropN _ r)
def PSl(K:tz0)(U:tz9):V->Option Int->Option Int->Hp->VK->Prop:=fun x lo hi H Q=>∃dx d fx,Rep K U H x dx fx/\dSl dx lo hi=some d/\lA K U H d Q
theorem wh3:SlR X (PSl X.K U):=by
 rintro pins s σ H x v vl vu lo hi sl Q I rx hs pl pu ⟨dx,d,fx,r,e,q⟩
 unfold dSl at e
 split at e
 ·obtain⟨hc,e2⟩:=bV e
  cases e2
  obtain⟨a,vs,g,rfl,h,rs,sub⟩:=r.lst_inv
  exact xx9 pins s σ H _ v vl vu _ _ sl Q I rx hs pl pu ⟨a,vs,rfl,.inl h,fun p hp=>zc7 hp (xn7 (rs.pair hc)) q⟩
 ·cases e
def fSl(f:tz2)(fl fh:PSt->Option (Option Int)):tz2:=fun ps=>(f ps).bind fun d=>(fl ps).bind fun l=>(fh ps).bind fun h=>dSl d l h
theorem ye3{lo hi:Option Expr}{fl fh:PSt->Option (Option Int)}(he:QV X U e f)(hl:QO X U lo fl)(hh:QO X U hi fh):QP X U (.Subscript e (.Slice lo hi none p2) pos) (fSl f fl fh):=
 (xm6 wh3 he hl hh).imp fun σ H Q hh_=>by
  obtain⟨ps,d,w,e,q⟩:=hh_
  obtain⟨d1,e1,e2⟩:=bind_some e
  obtain⟨l,e3,e4⟩:=bind_some e2
  obtain⟨h,e5,e6⟩:=bind_some e4
  exact⟨ps,d1,w,e1,fun v H1 fp s1 r1=>⟨ps,l,w.same s1,e3,fun H2 s2=>⟨ps,h,(w.same s1).same s2,e5,fun H3 s3=>⟨d1,d,fp,(r1.same s2).same s3,e6,q.after ((s1.trans s2).trans s3)⟩⟩⟩⟩
def PCl(K:tz0)(U:tz9)(g:tz6):List V->Hp->VK->Prop:=fun vs H Q=>∃ds fp d,Reps K U H vs ds fp/\g ds=some d/\lA K U H d Q
def aH(h:tz6)(g:tz3):tz2:=fun ps=>(g ps).bind h
theorem xd8(q:tP X.K U (aH h g) σ H Q):tCB (PCl X.K U h) (tVA X.K U g) σ H Q:=by
 obtain⟨ps,d,w,e,q⟩:=q
 obtain⟨ds,e1,e2⟩:=bind_some e
 exact⟨ps,ds,w,e1,fun vs H1 fp s1 r1=>⟨ds,fp,d,r1,e2,q.after s1⟩⟩
theorem bY{x:Str}{id:String}{p:Pos}{h:tz6}(hc:CallR X (.builtin id) (PCl X.K U h))(hg:Gl X x)(hm:X.mg x=none)(hv:bootBuiltins x=some (.builtin id))(ha:QVA X U (e::es) g)(hn:x≠"__name__":=by decide)(hdb:(x==("__debug__":Str))=false:=by decide)
  (hs:starEach (e::es) X.env=(false,eval e X.env)::starEach es X.env:=by rfl) (hpl:(backTo pos (starEach es X.env)).any (·.1)=false:=by rfl):QP X U (.Call (.Name x p) (e::es) [] pos) (aH h g):=
 (nN hc hg hm hv ha hn hdb hs hpl).imp fun _ _ _ q=>xd8 q
theorem lJ(hc:CallR X (.type T) (PCl X.K U h))(hg:Gl X x)(hm:X.mg x=none)(hv:bootBuiltins x=some (.type T))(ha:QVA X U (e::es) g)(hn:x≠"__name__":=by decide)(hdb:(x==("__debug__":Str))=false:=by decide)
  (hs:starEach (e::es) X.env=(false,eval e X.env)::starEach es X.env:=by rfl) (hpl:(backTo pos (starEach es X.env)).any (·.1)=false:=by rfl):QP X U (.Call (.Name x p) (e::es) [] pos) (aH h g):=
 (xb8 hc hg hm hv ha hn hdb hs hpl).imp fun _ _ _ q=>xd8 q
theorem Reps.two_inv{K:tz0}{H:Hp}{vs:List V}{d e:D}{fp:List Addr}(r:Reps K U H vs [d,e] fp):∃v u f g,vs=[v,u]/\Rep K U H v d f/\Rep K U H u e g:=by
 obtain⟨v,us,f,g,rfl,h,t,rfl⟩:=r.split
 obtain⟨u,rfl,h2⟩:=t.one_inv
 exact⟨v,u,f,g,rfl,h,h2⟩
def cW:tz6
 |[.lst _ xs]=>some (.int xs.length)
 |[.tup xs]=>some (.int xs.length)
 |[.con xs]=>some (.int xs.length)
 |[.str z]=>if z.length<=sizeLine then some (.int z.length) else none
 |_=>none
theorem gN:CallR X (.builtin "len") (PCl X.K U cW):=⟨by
 rintro pins s σ H vs us Q I r ⟨ds,fp,d,rs,e,q⟩
 unfold cW at e
 split at e
 ·cases e
  obtain⟨v,rfl,r1⟩:=rs.one_inv
  obtain⟨a,ws,g,rfl,h,hs,_⟩:=r1.lst_inv
  exact jT pins s σ H _ us Q I r ⟨a,ws,rfl,.inl (.inl h),by rw [hs.length];exact q.now (.int _)⟩
 ·cases e
  obtain⟨v,rfl,r1⟩:=rs.one_inv
  obtain⟨a,ws,rfl,h,hs⟩:=r1.tup_inv
  exact jT pins s σ H _ us Q I r ⟨a,ws,rfl,.inr h,by rw [hs.length];exact q.now (.int _)⟩
 ·cases e
  obtain⟨v,rfl,r1⟩:=rs.one_inv
  obtain⟨a,ws,rfl,h,hs⟩:=r1.con_inv
  exact jT pins s σ H _ us Q I r ⟨a,ws,rfl,.inl h.l,by rw [hs.length];exact q.now (.int _)⟩
 ·obtain⟨hz,e⟩:=bV e
  cases e
  obtain⟨v,rfl,r1⟩:=rs.one_inv
  exact yd6 pins s σ H _ us Q I r ⟨_,by rw [r1.is_str],hz,q.now (.int _)⟩
 ·cases e⟩
def qE:tz6
 |[.int i,.int j]=>some (.int (if j>i then j else i))
 |_=>none
def mP:tz6
 |[.int i,.int j]=>some (.int (if j<i then j else i))
 |_=>none
theorem xd9(hc:X.calm=true):CallR X (.builtin "max") (PCl X.K U qE):=⟨by
 rintro pins s σ H vs us Q I r ⟨ds,fp,d,rs,e,q⟩
 unfold qE at e
 split at e
 ·cases e
  obtain⟨v,u,f,g,rfl,r1,r2⟩:=rs.two_inv
  exact zu2 hc pins s σ H _ us Q I r ⟨_,_,by rw [r1.is_int,r2.is_int],q.now (.int _)⟩
 ·cases e⟩
theorem ye4(hc:X.calm=true):CallR X (.builtin "min") (PCl X.K U mP):=⟨by
 rintro pins s σ H vs us Q I r ⟨ds,fp,d,rs,e,q⟩
 unfold mP at e
 split at e
 ·cases e
  obtain⟨v,u,f,g,rfl,r1,r2⟩:=rs.two_inv
  exact xb3 hc pins s σ H _ us Q I r ⟨_,_,by rw [r1.is_int,r2.is_int],q.now (.int _)⟩
 ·cases e⟩
def dTy:D->Option String
 | .non=>some "NoneType"
 | .bl _=>some "bool"
 | .int _=>some "int"
 | .str _=>some "str"
 | .lst _ _=>some "list"
 | .tup _=>some "tuple"
 | .dic true _ _=>some "dict"
 |_=>none
def mU:tz6
 |[x,.ty c]=>(dTy x).bind fun t=>if c∈["bool","int","str","list","tuple","dict"] then some (.bl (yF t c)) else none
 |_=>none
theorem wh4{K:tz0}{H:Hp}{v:V}{d:D}{fp:List Addr}{t:String}(r:Rep K U H v d fp)(h:dTy d=some t):(wX H v=some t\/(t="tuple"/\∃a xs,v= .ref a/\SqT K H a xs)):=by
 cases r with
 |non=>cases h;exact .inl rfl
 |bl _=>cases h;exact .inl rfl
 |int _=>cases h;exact .inl rfl
 |str _=>cases h;exact .inl rfl
 |tup s _=>cases h;exact .inr ⟨rfl,_,_,rfl,s⟩
 |lst s _=>cases h;exact .inl (by simp [wX,s])
 |lstF s _=>cases h;exact .inl (by simp [wX,s])
 |dic s _ _=>cases h;exact .inl (by simp [wX,s])
 |_=>cases h
theorem zk4:CallR X (.builtin "isinstance") (PCl X.K U mU):=⟨by
 rintro pins s σ H vs us Q I r ⟨ds,fp,d,rs,e,q⟩
 unfold mU at e
 split at e
 ·obtain⟨t,e1,e2⟩:=bind_some e
  obtain⟨hc,e3⟩:=bV e2
  cases e3
  obtain⟨v,u,f,g,rfl,r1,r2⟩:=rs.two_inv
  cases r2
  rcases wh4 r1 e1 with h|⟨rfl,a,xs,rfl,h⟩
  ·exact xn2 pins s σ H _ us Q I r ⟨_,_,t,rfl,h,hc,q.now (.bl _)⟩
  ·obtain⟨u1,u2,rfl,rx,rc⟩:=ya6 r
   cases(show u2=Value.type _ from rc)
   cases(show u1=Value.ref a from rx)
   obtain⟨its,rv,⟨o,h1,h2,_⟩,_⟩:=I.tuple h
   exact ZN Wm I.kIn ⟨o,h1,h2⟩ (yd7 X.K "tuple" (by decide) _ hc) (fun z=>nomatch z) fun tk=>⟨.bl _,H,I.tok tk,rfl,q.now (.bl _)⟩
 ·cases e⟩
def gY:tz6
 |[.lst _ xs]=>if D.imms xs=true then some (.tup xs) else none
 |[.tup xs]=>some (.tup xs)
 |_=>none
theorem tD:CallR X (.type "tuple") (PCl X.K U gY):=⟨by
 rintro pins s σ H vs us Q I r ⟨ds,fp,d,rs,e,q⟩
 unfold gY at e
 split at e
 ·obtain⟨hc,e⟩:=bV e
  cases e
  obtain⟨v,rfl,r1⟩:=rs.one_inv
  obtain⟨a,ws,g,rfl,h,hs,_⟩:=r1.lst_inv
  exact yV pins s σ H _ us Q I r ⟨a,ws,rfl,.inl ⟨.inl h,fun p hp=>zq8 hp (hs.pair hc) q⟩⟩
 ·cases e
  obtain⟨v,rfl,r1⟩:=rs.one_inv
  obtain⟨a,ws,rfl,h,hs⟩:=r1.tup_inv
  exact yV pins s σ H _ us Q I r ⟨a,ws,rfl,.inr ⟨h,q.now (.tup h hs)⟩⟩
 ·cases e⟩
def nH:tz6
 |[.int i]=>some (.int i)
 |[.bl k]=>some (.int (if k then 1 else 0))
 |_=>none
theorem wo4:CallR X (.type "int") (PCl X.K U nH):=⟨by
 rintro pins s σ H vs us Q I r ⟨ds,fp,d,rs,e,q⟩
 unfold nH at e
 split at e
 ·cases e
  obtain⟨v,rfl,r1⟩:=rs.one_inv
  exact zu3 pins s σ H _ us Q I r (.inl ⟨_,by rw [r1.is_int],q.now (.int _)⟩)
 ·cases e
  obtain⟨v,rfl,r1⟩:=rs.one_inv
  exact zu3 pins s σ H _ us Q I r (.inr ⟨_,by rw [r1.is_bl],q.now (.int _)⟩)
 ·cases e⟩
def D.bools:List D->Option (List Bool)
 |[]=>some []
 | .bl b::ds=>(D.bools ds).map (b::·)
 |_::_=>none
theorem ye5{K:tz0}{H:Hp}:∀{vs:List V} {ds:List D} {fp:List Addr} {ns:List Bool},Reps K U H vs ds fp->D.bools ds=some ns->vs=ns.map V.bl
 |_,_,_,_,.nil,e=>by cases e;rfl
 | _,d::ds,_,ns,.cons h hs,e=>by
  cases d with
  |bl i=>
   rw [D.bools] at e
   cases e1:D.bools ds with
   |none=>rw [e1] at e;cases e
   |some ms=>rw [e1] at e;cases e;rw [h.is_bl,ye5 hs e1];rfl
  |_=>cases e
def yy8:tz6
 |[.lst _ xs]=>(D.bools xs).map fun bs=> .bl (bs.all id)
 |_=>none
theorem wo5(hc:X.calm=true):CallR X (.builtin "all") (PCl X.K U yy8):=⟨by
 rintro pins s σ H vs us Q I r ⟨ds,fp,d,rs,e,q⟩
 unfold yy8 at e
 split at e
 ·rename_i xs
  cases e1:D.bools xs with
  |none=>rw [e1] at e;cases e
  |some bs=>
   rw [e1] at e;cases e
   obtain⟨v,rfl,r1⟩:=rs.one_inv
   obtain⟨a,ws,g,rfl,h,hs,_⟩:=r1.lst_inv
   rw [ye5 hs e1] at h
   exact xd0 hc pins s σ H _ us Q I r ⟨a,bs,rfl,.inl h,q.now (.bl _)⟩
 ·cases e⟩
def yy9:tz6
 |[.lst _ xs]=>(D.ints xs).map fun ns=> .int ns.sum
 |_=>none
theorem wo6(hc:X.calm=true):CallR X (.builtin "sum") (PCl X.K U yy9):=⟨by
 rintro pins s σ H vs us Q I r ⟨ds,fp,d,rs,e,q⟩
 unfold yy9 at e
 split at e
 ·rename_i xs
  cases e1:D.ints xs with
  |none=>rw [e1] at e;cases e
  |some bs=>
   rw [e1] at e;cases e
   obtain⟨v,rfl,r1⟩:=rs.one_inv
   obtain⟨a,ws,g,rfl,h,hs,_⟩:=r1.lst_inv
   rw [sZ hs e1] at h
   exact xd1 hc pins s σ H _ us Q I r ⟨a,bs,rfl,.inl h,q.now (.int _)⟩
 ·cases e⟩
def PMt(K:tz0)(U:tz9)(g:D->tz6):V->List V->Hp->VK->Prop:=fun x vs H Q=>∃dx ds fx fp d,Rep K U H x dx fx/\Reps K U H vs ds fp/\g dx ds=some d/\lA K U H d Q
def ze2:D->Bool
 | .str _=>true
 |_=>false
def fMt(h:D->tz6)(f:tz2)(g:tz3):tz2:=fun ps=>(f ps).bind fun x=>(g ps).bind fun ds=>if ze2 x=true then h x ds else none
theorem zc8{name:Str}{id:String}{apos:Pos}{h:D->tz6}(slot:Slot "str" name id)(hty:typeOf (.builtin id)=pure (.type "method_descriptor"))(hm:MtR X id (PMt X.K U h))(ho:QV X U a fa)(ha:QVA X U (e::es) g)
  (hbase:attributeBase a name X.env (eval a X.env)=eval a X.env:=by rfl)
  (hfew:((backTo pos (starEach (e::es) X.env)).all (fun x=> !x.1)&&(backToKw pos (keywordEach [] X.env)).all (fun x=>x.1.isSome)
   &&decide ((e::es).length+([]:List Keyword).length+(if ([]:List Keyword).isEmpty then 0 else 1)<30))=true:=by rfl)
  (hline:(apos.endLine==pos.line)=true:=by rfl) (hs:starEach (e::es) X.env=(false,eval e X.env)::starEach es X.env:=by rfl) (hplain:(backTo pos (starEach es X.env)).any (·.1)=false:=by rfl):
  QP X U (.Call (.Attribute a name apos) (e::es) [] pos) (fMt h fa g):=
 (xv2 PySem.F.plainAttrs_str slot hty hm ho ha hbase hfew hline hs hplain).imp fun σ H Q hh_=>by
  obtain⟨ps,d,w,e,q⟩:=hh_
  obtain⟨x,e1,e2⟩:=bind_some e
  obtain⟨ds,e3,e4⟩:=bind_some e2
  obtain⟨hc,e5⟩:=bV e4
  refine⟨ps,x,w,e1,fun v H1 fp s1 r1=>⟨?_,ps,ds,w.same s1,e3,fun vs H2 fq s2 r2=>⟨x,ds,fp,fq,d,r1.same s2,r2,e5,q.after (s1.trans s2)⟩⟩⟩
  cases x with
  |str z=>rw [r1.is_str];rfl
  |_=>cases hc
def eI(l:List Str):List D:=l.map .str
theorem zv5{K:tz0}{H:Hp}:∀l:List Str,Paired (fun v d=>Rep K U H v d []) (l.map V.str) (eI l)
 |[]=> .nil
 |x::l=> .cons (.str x) (zv5 l)
def mZ:D->tz6
 | .str z,[.str y]=>if ((y.length==0)=false/\z.length<1000000) then some (.lst true (eI (Txt.split z y))) else none
 |_,_=>none
theorem zr0:MtR X "str.split" (PMt X.K U mZ):=⟨by
 rintro pins s σ H x vs v us Q I rx r ⟨dx,ds,fx,fp,d,r1,rs,e,q⟩
 unfold mZ at e
 split at e
 ·obtain⟨hc,e⟩:=bV e
  cases e
  obtain⟨w,rfl,r2⟩:=rs.one_inv
  exact xn3 pins s σ H x _ v us Q I rx r ⟨_,_,r1.is_str,by rw [r2.is_str],hc.1,hc.2,fun p hp=>zc7 hp (zv5 _) q⟩
 ·cases e⟩
def D.strs:List D->Option (List Str)
 |[]=>some []
 | .str b::ds=>(D.strs ds).map (b::·)
 |_::_=>none
theorem wK{K:tz0}{H:Hp}:∀{vs:List V} {ds:List D} {fp:List Addr} {ns:List Str},Reps K U H vs ds fp->D.strs ds=some ns->vs=ns.map V.str
 |_,_,_,_,.nil,e=>by cases e;rfl
 | _,d::ds,_,ns,.cons h hs,e=>by
  cases d with
  |str i=>
   rw [D.strs] at e
   cases e1:D.strs ds with
   |none=>rw [e1] at e;cases e
   |some ms=>rw [e1] at e;cases e;rw [h.is_str,wK hs e1];rfl
  |_=>cases e
def zo3:D->tz6
 | .str z,[.lst _ xs]=>(D.strs xs).bind fun ys=>if (z.length<=16/\(ys.map (·.length)).sum+ys.length<=1048576) then some (.str (Txt.join z ys)) else none
 |_,_=>none
theorem wh5:MtR X "str.join" (PMt X.K U zo3):=⟨by
 rintro pins s σ H x vs v us Q I rx r ⟨dx,ds,fx,fp,d,r1,rs,e,q⟩
 unfold zo3 at e
 split at e
 ·obtain⟨ys,e1,e2⟩:=bind_some e
  obtain⟨hc,e⟩:=bV e2
  cases e
  obtain⟨w,rfl,r2⟩:=rs.one_inv
  obtain⟨a,ws,g,rfl,h,hs,_⟩:=r2.lst_inv
  rw [wK hs e1] at h
  exact xy7 pins s σ H x _ v us Q I rx r ⟨_,a,ys,r1.is_str,rfl,.inl h,hc.1,hc.2,q.now (.str _)⟩
 ·cases e⟩
end
structure Fx where
 K:tz0
 U:tz9
 bor:Nat->Bool
 M:Nat->Bool
 B:Nat->Addr->Prop
structure RS(φ:Fx)(H:Hp)(σ:St)(ps:PSt)(F:Nat->List Addr):Prop where
 rep:∀(i:Nat) (d:D),ps[i]? =some (some d)->∃v fp,σ[i]? =some (some v)/\Rep φ.K φ.U H v d fp/\(φ.bor i=false->fp=F i)/\(φ.bor i=true->∀a∈fp,φ.B i a)
 emp:∀i a,a∈F i->φ.bor i=false/\∃d,ps[i]? =some (some d)
 dis:∀i j a,a∈F i->a∈F j->i=j
 nd:∀i,(F i).Nodup
 nb:∀i a,a∈F i->∀k,¬φ.B k a
 bt:∀k a,φ.B k a->H a≠none
 len:ps.length<=σ.length
structure Frm(F:Nat->List Addr)(H H':Hp):Prop where
 keep:∀a o,H a=some o->kd o=true->(∀i,a∉F i)->H' a=some o
 grow:∀a,H' a=none->H a=none
structure Stp(φ:Fx)(σ:St)(H:Hp)(F:Nat->List Addr)(σ':St)(H':Hp)(ps':PSt)(F':Nat->List Addr):Prop where
 fr:Frm F H H'
 nw:∀i a,a∈F' i->(∃j,a∈F j)\/H a=none
 rs:RS φ H' σ' ps' F'
 msk:∀i,φ.M i=true->σ'[i]? =σ[i]?
structure OwnV(F:Nat->List Addr)(H:Hp)(F':Nat->List Addr)(fv:List Addr):Prop where
 nw:∀a∈fv,(∃j,a∈F j)\/H a=none
 nd:fv.Nodup
 dis:∀i,∀a∈F' i,a∉fv
section
variable{φ:Fx}{H H' H1 H2:Hp}{σ σ1 σ2:St}{ps ps1 ps2:PSt}{F F1 F2:Nat->List Addr}
theorem RS.own(R:RS φ H σ ps F){i:Nat}{a:Addr}(h:a∈F i):∃o,H a=some o/\kd o=true/\tf o=false:=by
 obtain⟨b,d,e⟩:=R.emp i a h
 obtain⟨v,fp,_,r,q,_⟩:=R.rep i d e
 rw [<-q b] at h
 exact r.own a h
theorem RS.ws(R:RS φ H σ ps F):WS φ.K φ.U H σ ps:=fun i d h=>by
 obtain⟨v,fp,h1,h2,_⟩:=R.rep i d h
 exact⟨v,fp,h1,h2⟩
theorem RS.same(R:RS φ H σ ps F)(s:SameK H H'):RS φ H' σ ps F:=
 ⟨fun i d h=>by obtain⟨v,fp,h1,h2,h3⟩:=R.rep i d h;exact⟨v,fp,h1,h2.same s,h3⟩,R.emp,R.dis,R.nd,R.nb,fun k a h z=>R.bt k a h (s.grow a z),R.len⟩
theorem RS.notB(R:RS φ H σ ps F){a:Addr}(h:(∃j,a∈F j)\/H a=none):∀k,¬φ.B k a:=fun k hb=>h.elim (fun⟨j,hj⟩=>R.nb j a hj k hb) fun z=>R.bt k a hb z
theorem Stp.same(R:RS φ H σ ps F)(s:SameK H H'):Stp φ σ H F σ H' ps F:=
 ⟨⟨fun a o h k _=>s.keep a o h k,s.grow⟩,fun i a h=> .inl ⟨i,h⟩,R.same s,fun _ _=>rfl⟩
theorem Stp.refl(R:RS φ H σ ps F):Stp φ σ H F σ H ps F:= .same R (.refl H)
theorem Stp.trans(s1:Stp φ σ H F σ1 H1 ps1 F1)(s2:Stp φ σ1 H1 F1 σ2 H2 ps2 F2):Stp φ σ H F σ2 H2 ps2 F2:=by
 refine⟨⟨fun a o h k n=>s2.fr.keep a o (s1.fr.keep a o h k n) k fun i hi=> ?_,fun a h=>s1.fr.grow a (s2.fr.grow a h)⟩,fun i a h=> ?_,s2.rs,fun i h=>(s2.msk i h).trans (s1.msk i h)⟩
 ·rcases s1.nw i a hi with ⟨j,hj⟩|z
  ·exact n j hj
  ·rw [h] at z;cases z
 ·rcases s2.nw i a h with ⟨j,hj⟩|z
  ·exact s1.nw j a hj
  ·exact .inr (s1.fr.grow a z)
theorem OwnV.after(s1:Stp φ σ H F σ1 H1 ps1 F1)(o:OwnV F1 H1 F2 fv):OwnV F H F2 fv:=
 ⟨fun a ha=>(o.nw a ha).elim (fun⟨j,hj⟩=>s1.nw j a hj) fun z=> .inr (s1.fr.grow a z),o.nd,o.dis⟩
theorem OwnV.new(R:RS φ H σ ps F)(n:∀a∈fv,H a=none)(nd:fv.Nodup):OwnV F H F fv:=
 ⟨fun a ha=> .inr (n a ha),nd,fun i a ha hb=>by obtain⟨o,h,_⟩:=R.own ha;rw [n a hb] at h;cases h⟩
def wA(F:Nat->List Addr)(i:Nat)(fv:List Addr):Nat->List Addr:=fun j=>if j=i then fv else F j
theorem fH:wA F i fv i=fv:=by simp [wA]
theorem fJ(h:j≠i):wA F i fv j=F j:=by simp [wA,h]
theorem kE(h:a∈wA F i fv j):a∈fv\/a∈F j:=by
 by_cases e:j=i
 ·subst e;rw [fH] at h;exact .inl h
 ·rw [fJ e] at h;exact .inr h
theorem RS.drop(R:RS φ H σ ps F)(i:Nat):RS φ H σ (ps.set i none) (wA F i []):=by
 have eF:∀j a,a∈wA F i [] j->j≠i/\a∈F j:=fun j a h=>by
  by_cases e:j=i
  ·subst e;rw [fH] at h;exact absurd h (by simp)
  ·rw [fJ e] at h;exact⟨e,h⟩
 refine⟨fun j d h=> ?_,fun j a h=> ?_,fun j k a h1 h2=>R.dis j k a (eF j a h1).2 (eF k a h2).2,fun j=> ?_,fun j a h=>R.nb j a (eF j a h).2,R.bt,by simpa using R.len⟩
 ·have e:j≠i:=by
   rintro rfl
   by_cases hj:j<ps.length
   ·rw [Zy hj] at h;cases h
   ·rw [Yw (by simpa using hj)] at h;cases h
  rw [Zs (fun z=>e z.symm)] at h
  rw [fJ e]
  exact R.rep j d h
 ·obtain⟨e,h⟩:=eF j a h
  obtain⟨b,d,q⟩:=R.emp j a h
  exact⟨b,d,by rw [Zs (fun z=>e z.symm)];exact q⟩
 ·by_cases e:j=i
  ·subst e;rw [fH];exact Zr
  ·rw [fJ e];exact R.nd j
theorem RS.set(R:RS φ H σ ps F){i:Nat}{v:V}{d:D}{fv:List Addr}(r:Rep φ.K φ.U H v d fv)(hb:φ.bor i=false\/fv=[])(hd:∀j,j≠i->∀a∈F j,a∉fv)(hn:fv.Nodup)(hB:∀a∈fv,∀k,¬φ.B k a):
  RS φ H (σ.set i (some v)) (ps.set i (some d)) (wA F i (if i<ps.length then fv else [])):=by
 by_cases hi:i<ps.length
 ·rw [if_pos hi]
  have hl:=R.len
  refine⟨fun j d' h=> ?_,fun j a h=> ?_,fun j k a h1 h2=> ?_,fun j=> ?_,fun j a h=> ?_,R.bt,by simpa using R.len⟩
  ·by_cases e:j=i
   ·subst e
    rw [Zy hi] at h
    cases h
    refine⟨v,fv,by rw [Zy (by omega)],r,fun _=>fH.symm,fun z=> ?_⟩
    rcases hb with q|q
    ·rw [q] at z;cases z
    ·subst q;intro a ha;exact absurd ha (by simp)
   ·rw [Zs (fun z=>e z.symm)] at h|-
    rw [fJ e]
    exact R.rep j d' h
  ·by_cases e:j=i
   ·subst e
    rw [fH] at h
    refine⟨?_,d,by rw [Zy hi]⟩
    rcases hb with q|q
    ·exact q
    ·subst q;exact absurd h (by simp)
   ·rw [fJ e] at h
    obtain⟨b,d',q⟩:=R.emp j a h
    exact⟨b,d',by rw [Zs (fun z=>e z.symm)];exact q⟩
  ·by_cases e1:j=i
   ·by_cases e2:k=i
    ·rw [e1,e2]
    ·subst e1;rw [fH] at h1;rw [fJ e2] at h2;exact absurd h1 (hd k e2 a h2)
   ·by_cases e2:k=i
    ·subst e2;rw [fH] at h2;rw [fJ e1] at h1;exact absurd h2 (hd j e1 a h1)
    ·rw [fJ e1] at h1;rw [fJ e2] at h2;exact R.dis j k a h1 h2
  ·by_cases e:j=i
   ·subst e;rw [fH];exact hn
   ·rw [fJ e];exact R.nd j
  ·rcases kE h with z|z
   ·exact hB a z
   ·exact R.nb j a z
 ·rw [if_neg hi]
  have e0:ps.set i (some d)=ps:=XQ (by omega)
  rw [e0]
  have R':=R.drop i
  rw [XQ (by omega)] at R'
  refine⟨fun j d' h=> ?_,R'.emp,R'.dis,R'.nd,R'.nb,R'.bt,by simpa using R.len⟩
  have hj:j≠i:=by
   rintro rfl
   have:=(Z4.mp h).1
   omega
  rw [Zs (fun z=>hj z.symm)]
  exact R'.rep j d' h
theorem Stp.set(s1:Stp φ σ H F σ1 H1 ps1 F1)(o:OwnV F H F1 fv)(R:RS φ H σ ps F)(r:Rep φ.K φ.U H1 v d fv)(hb:φ.bor i=false\/fv=[])(hm:φ.M i=false):
  ∃F',Stp φ σ H F (σ1.set i (some v)) H1 (ps1.set i (some d)) F':=by
 refine⟨_,s1.fr,fun j a h=> ?_,s1.rs.set r hb (fun j _=>o.dis j) o.nd fun a ha=>R.notB (o.nw a ha),fun j h=> ?_⟩
 ·rcases kE h with z|z
  ·by_cases k:i<ps1.length
   ·rw [if_pos k] at z;exact o.nw a z
   ·rw [if_neg k] at z;exact absurd z (by simp)
  ·exact s1.nw j a z
 ·rw [Zs (fun z=>by subst z;rw [hm] at h;cases h)]
  exact s1.msk j h
end
inductive Fl where
 |nx|bk|ct|ret (d:D)
abbrev _root_.tz1:=PSt->Option (Fl×PSt)
def yG(φ:Fx)(E:Ends)(σ:St)(H:Hp)(F:Nat->List Addr)(fl:Fl)(ps':PSt):Prop:=match fl with
 | .nx=>∀σ' H' F',Stp φ σ H F σ' H' ps' F'->E.nx σ' H'
 | .bk=>∀σ' H' F',Stp φ σ H F σ' H' ps' F'->E.bk σ' H'
 | .ct=>∀σ' H' F',Stp φ σ H F σ' H' ps' F'->E.ct σ' H'
 | .ret d=>∀v σ' H' F' fv,Stp φ σ H F σ' H' ps' F'->OwnV F H F' fv->Rep φ.K φ.U H' v d fv->E.rt v H'
def tS(φ:Fx)(f:tz1):TS:=fun E σ H=>∃ps F fl ps',RS φ H σ ps F/\f ps=some (fl,ps')/\yG φ E σ H F fl ps'
def tE(φ:Fx)(f:tz8):TE:=fun σ H Q=>∃ps F d ps',RS φ H σ ps F/\f ps=some (d,ps')/\∀v H' F' fv,Stp φ σ H F σ H' ps' F'->OwnV F H F' fv->Rep φ.K φ.U H' v d fv->Q v H'
def tTE(φ:Fx)(f:PSt->Option (Bool×PSt)):TT:=fun σ H Q=>∃ps F b ps',RS φ H σ ps F/\f ps=some (b,ps')/\∀H' F',Stp φ σ H F σ H' ps' F'->Q b H'
structure F0 where
 bor:Nat->Bool
 M:Nat->Bool
 B:Nat->Addr->Prop
def F0.fx(φ:F0)(K:tz0)(U:tz9):Fx:=⟨K,U,φ.bor,φ.M,φ.B⟩
abbrev QS(X:Cx)(U:tz9)(φ:F0)(st:Stmt)(f:tz1):Prop:=PS X st (tS (φ.fx X.K U) f)
abbrev QSs(X:Cx)(U:tz9)(φ:F0)(st:List Stmt)(f:tz1):Prop:=PSs X st (tS (φ.fx X.K U) f)
abbrev QE(X:Cx)(U:tz9)(φ:F0)(e:Expr)(f:tz8):Prop:=PE X e (tE (φ.fx X.K U) f)
abbrev QTE(X:Cx)(U:tz9)(φ:F0)(e:Expr)(f:PSt->Option (Bool×PSt)):Prop:=PT X e (tTE (φ.fx X.K U) f)
theorem zg6(s1:Stp φ σ H F σ1 H1 ps1 F1)(e:f ps1=some (fl,ps2))(q:yG φ E σ H F fl ps2):tS φ f E σ1 H1:=by
 refine⟨ps1,F1,fl,ps2,s1.rs,e,?_⟩
 cases fl with
 |nx=>exact fun σ' H' F' s=>q σ' H' F' (s1.trans s)
 |bk=>exact fun σ' H' F' s=>q σ' H' F' (s1.trans s)
 |ct=>exact fun σ' H' F' s=>q σ' H' F' (s1.trans s)
 |ret d=>exact fun v σ' H' F' fv s o r=>q v σ' H' F' fv (s1.trans s) (o.after s1) r
def bN:tz1:=fun ps=>some (.nx,ps)
def aV(f g:tz1):tz1:=fun ps=>(f ps).bind fun r=>match r with
 |(.nx,ps')=>g ps'
 |(.bk,ps')=>some (.bk,ps')
 |(.ct,ps')=>some (.ct,ps')
 |(.ret d,ps')=>some (.ret d,ps')
def wY:tz1:=fun _=>none
section
variable{X:Cx}{U:tz9}{φ:F0}{st:Stmt}{rest:List Stmt}{f g:tz1}{pos:Pos}
theorem bU:QSs X U φ [] bN:=zq2.imp fun E σ H ⟨ps,F,fl,ps',R,e,q⟩=>by cases e;exact q σ H F (.refl R)
theorem aL(h:QS X U φ st f):QSs X U φ [st] f:=wE h
theorem aJ(h1:QS X U φ st f)(h2:QSs X U φ rest g):QSs X U φ (st::rest) (aV f g):=
 (kD h1 h2).imp fun E σ H hh_=>by
  obtain⟨ps,F,fl,ps',R,e,q⟩:=hh_
  obtain⟨⟨fl1,ps1⟩,e1,e2⟩:=bind_some e
  refine⟨ps,F,fl1,ps1,R,e1,?_⟩
  cases fl1 with
  |nx=>exact fun σ' H' F' s=>zg6 s e2 q
  |bk=>cases e2;exact q
  |ct=>cases e2;exact q
  |ret d=>cases e2;exact q
theorem tZ:QS X U φ st wY:=xl6.imp fun E σ H ⟨ps,F,fl,ps',R,e,q⟩=>by cases e
def aI(f:tz2):tz8:=fun ps=>(f ps).bind fun d=>some (d,ps)
theorem QP.e{e:Expr}{f:tz2}(h:PE X e (tP X.K U f)):QE X U φ e (aI f):=h.imp fun σ H Q hh_=>by
 obtain⟨ps,F,d,ps',R,e,q⟩:=hh_
 obtain⟨d1,e1,e2⟩:=bind_some e
 cases e2
 exact⟨ps,_,R.ws,e1,fun v H' fv s n nd r=>q v H' F fv (.same R s) (.new R n nd) r⟩
def aU(f:tz4):PSt->Option (Bool×PSt):=fun ps=>(f ps).bind fun d=>some (d,ps)
theorem QT.e{e:Expr}{f:tz4}(h:PT X e (tQ X.K U f)):QTE X U φ e (aU f):=h.imp fun σ H Q hh_=>by
 obtain⟨ps,F,d,ps',R,e,q⟩:=hh_
 obtain⟨d1,e1,e2⟩:=bind_some e
 cases e2
 exact⟨ps,_,R.ws,e1,fun H' s=>q H' F (.same R s)⟩
def aW(i:Nat)(f:tz8):tz1:=fun ps=>(f ps).bind fun r=>some (.nx,r.2.set i (some r.1))
theorem bB(i:Nat){x:Str}{e:Expr}{pos':Pos}{f:tz8}(hN:X.N.Nodup)(hi:X.N[i]? =some x)(hx:Loc X.env.scope x)(hb:φ.bor i=false)(hm:φ.M i=false)(he:QE X U φ e f)(hs:swapsWith e (some (.Name x pos')) pos.line X.env=pure false:=by rfl)(hf:X.fn x=true\/X.env.scope.names.lookup x=some .local:=by first|exact .inl rfl|exact .inr rfl|assumption):
  QS X U φ (.Assign [.Name x pos'] e pos) (aW i f):=(tT hN hi hx he hs hf).imp fun E σ H hh_=>by
 obtain⟨ps,F,fl,ps',R,e,q⟩:=hh_
 obtain⟨⟨d,ps1⟩,e1,e2⟩:=bind_some e
 cases e2
 refine⟨ps,F,d,ps1,R,e1,fun v H' F' fv s o r=> ?_⟩
 obtain⟨F2,s2⟩:=s.set o R r (.inl hb) hm (i:=i)
 exact q _ _ F2 s2
def cN(f:tz8):tz1:=fun ps=>(f ps).bind fun r=>some (.nx,r.2)
theorem eM{e:Expr}{f:tz8}(he:QE X U φ e f)(hs:swapsWith e none pos.line X.env=pure false:=by rfl):QS X U φ (.Expr e pos) (cN f):=(xx1 he hs).imp fun E σ H hh_=>by
 obtain⟨ps,F,fl,ps',R,e,q⟩:=hh_
 obtain⟨⟨d,ps1⟩,e1,e2⟩:=bind_some e
 cases e2
 exact⟨ps,F,d,ps1,R,e1,fun v H' F' fv s o r=>q _ _ F' s⟩
def bS(f:tz8):tz1:=fun ps=>(f ps).bind fun r=>some (.ret r.1,r.2)
theorem bL{e:Expr}{f:tz8}(he:QE X U φ e f):QS X U φ (.Return (some e) pos) (bS f):=(wH he).imp fun E σ H hh_=>by
 obtain⟨ps,F,fl,ps',R,e,q⟩:=hh_
 obtain⟨⟨d,ps1⟩,e1,e2⟩:=bind_some e
 cases e2
 exact⟨ps,F,d,ps1,R,e1,fun v H' F' fv s o r=>q v σ H' F' fv s o r⟩
def sM(i:Nat):tz1:=fun ps=>((ps[i]?).join).bind fun d=>some (.ret d,ps.set i none)
theorem join_some{ps:PSt}{i:Nat}{d:D}(h:(ps[i]?).join=some d):ps[i]? =some (some d):=by
 cases q:ps[i]? with
 |none=>rw [q] at h;cases h
 |some o=>rw [q] at h;exact ZK some h
theorem pL(i:Nat){x:Str}{p:Pos}(hb:φ.bor i=false)(hN:X.N[i]? =some x:=by rfl)(hv:Vis X.env.scope x:=by first|exact Or.inl rfl|exact Or.inr (Or.inl rfl)|exact Or.inr (Or.inr rfl))(hd:(x==("__debug__":Str))=false:=by decide)
  (hcd:(x==("__classdict__":Str))=false:=by decide):QS X U φ (.Return (some (.Name x p)) pos) (sM i):=(wH (qP hN hv hd hcd)).imp fun E σ H hh_=>by
 obtain⟨ps,F,fl,ps',R,e,q⟩:=hh_
 obtain⟨d,e1,e2⟩:=bind_some e
 cases e2
 obtain⟨v,fp,h1,h2,h3,_⟩:=R.rep i d (join_some e1)
 have h3:=h3 hb
 subst h3
 refine⟨v,h1,q v σ H (wA F i []) (F i) ⟨⟨fun a o h _ _=>h,fun a h=>h⟩,fun j a h=> ?_,R.drop i,fun _ _=>rfl⟩ ⟨fun a h=> .inl ⟨i,h⟩,R.nd i,fun j a h1 h2=> ?_⟩ h2⟩
 ·rcases kE h with z|z
  ·exact absurd z (by simp)
  ·exact .inl ⟨j,z⟩
 ·rcases kE h1 with z|z
  ·exact absurd z (by simp)
  ·have:=R.dis j i a z h2
   subst this
   rw [fH] at h1;exact absurd h1 (by simp)
def fIf(c:PSt->Option (Bool×PSt))(f g:tz1):tz1:=fun ps=>(c ps).bind fun r=>if r.1=true then f r.2 else g r.2
theorem cB(hc:QTE X U φ c tc)(ha:QSs X U φ a f)(hb:QSs X U φ b g):QS X U φ (.If c a b pos) (fIf tc f g):=(ya4 hc ha hb).imp fun E σ H hh_=>by
 obtain⟨ps,F,fl,ps',R,e,q⟩:=hh_
 obtain⟨⟨k,ps1⟩,e1,e2⟩:=bind_some e
 refine⟨ps,F,k,ps1,R,e1,fun H' F' s=> ?_⟩
 cases k with
 |true=>rw [if_pos rfl] at e2|-;exact zg6 s e2 q
 |false=>rw [if_neg Zb] at e2|-;exact zg6 s e2 q
end
def lU(c:PSt->Option (Bool×PSt))(f:tz1):Nat->tz1
 |0,_=>none
 | n+1,ps=>(c ps).bind fun r=>if r.1=true then(f r.2).bind fun q=>match q with
   |(.nx,p)=>lU c f n p
   |(.ct,p)=>lU c f n p
   |(.bk,p)=>some (.nx,p)
   |(.ret d,p)=>some (.ret d,p)
  else some (.nx,r.2)
section
variable{X:Cx}{φ:Fx}{pos:Pos}{body:List Stmt}{f:tz1}
theorem yG.back(s1:Stp φ σ H F σ1 H1 ps1 F1)(q:yG φ E σ H F fl ps2):yG φ E σ1 H1 F1 fl ps2:=by
 cases fl with
 |nx=>exact fun σ' H' F' s=>q σ' H' F' (s1.trans s)
 |bk=>exact fun σ' H' F' s=>q σ' H' F' (s1.trans s)
 |ct=>exact fun σ' H' F' s=>q σ' H' F' (s1.trans s)
 |ret d=>exact fun v σ' H' F' fv s o r=>q v σ' H' F' fv (s1.trans s) (o.after s1) r
def wu9(φ:Fx)(σ:St)(H:Hp)(F:Nat->List Addr)(tc:PSt->Option (Bool×PSt))(f:tz1)(fl:Fl)(ps':PSt)(m:Nat)(σ1:St)(H1:Hp):Prop:=∃ps1 F1,Stp φ σ H F σ1 H1 ps1 F1/\lU tc f m ps1=some (fl,ps')
theorem xn8{U:tz9}{φ:F0}(n:Nat){c:Expr}{tc:PSt->Option (Bool×PSt)}(hp:PassesOwn (model X.prog X.w) X.A X.env X.xe)(hc:QTE X U φ c tc)(hb:QSs X U φ body f):QS X U φ (.While c body [] pos) (lU tc f n):=
 (xl7 hp hc hb).imp fun E σ H hh_=>by
  obtain⟨ps,F,fl,ps',R,e,q⟩:=hh_
  refine⟨wu9 (φ.fx X.K U) σ H F tc f fl ps',⟨n,ps,F,.refl R,e⟩,?_⟩
  rintro m σ1 H1 ⟨ps1,F1,s1,e1⟩
  cases m with
  |zero=>cases e1
  | succ m=>
   rw [lU] at e1
   obtain⟨⟨k,ps2⟩,e2,e3⟩:=bind_some e1
   refine⟨ps1,F1,k,ps2,s1.rs,e2,fun H2 F2 s2=> ?_⟩
   have s12:=s1.trans s2
   cases k with
   |true=>
    dsimp only at e3|-
    rw [if_pos rfl] at e3|-
    obtain⟨⟨fl3,ps3⟩,e4,e5⟩:=bind_some e3
    refine⟨fun σ' H'=>∃F',Stp (φ.fx X.K U) σ1 H2 F2 σ' H' ps3 F'/\lU tc f m ps3=some (fl,ps'),fun σ' H' ⟨F',s,e⟩=>⟨m,Xo m,ps3,F',s12.trans s,e⟩,?_⟩
    refine⟨ps2,F2,fl3,ps3,s2.rs,e4,?_⟩
    cases fl3 with
    |nx=>exact fun σ' H' F' s=>⟨F',s,e5⟩
    |ct=>exact fun σ' H' F' s=>⟨F',s,e5⟩
    |bk=>cases e5;exact fun σ' H' F' s=>q σ' H' F' (s12.trans s)
    |ret d=>cases e5;exact fun v σ' H' F' fv s o r=>q v σ' H' F' fv (s12.trans s) (o.after s12) r
   |false=>
    dsimp only at e3|-
    rw [if_neg Zb] at e3|-
    cases e3
    exact q _ _ F2 s12
end
def rX(Z:List Addr)(H H':Hp):Prop:=∀a o,H a=some o->(tf o=true\/(kd o=true/\a∈Z))->H' a=some o
structure Walk(K:tz0)(U:tz9)(J:It)(Z:List Addr)(H1:Hp)(ds:List D):Prop where
 go:∀H',rX Z H1 H'->∀(i:Nat) d,ds[i]? =some d->J.go i H'/\∀x H2,J.yld i H' x H2->H2=H'/\Rep K U H' x d []
 stop:∀H',rX Z H1 H'->J.stop ds.length H'
def tIV(K:tz0)(U:tz9)(f:tz3):TI:=fun σ H R=>∃ps ds,WS K U H σ ps/\f ps=some ds/\∀J H1 Z,SameK H H1->Walk K U J Z H1 ds->R J H1
def tIP(K:tz0)(U:tz9)(f:tz3):TI:=fun σ H R=>∃ps ds,WS K U H σ ps/\f ps=some ds/\∀J H1 Z,SameK H H1->(∀a∈Z,H a=none/\H1 a≠none)->Walk K U J Z H1 ds->R J H1
theorem rX.sq{K:tz0}{Z:List Addr}{H H':Hp}{a:Addr}{vs:List V}(k:rX Z H H')(h:Rd H a (.lst vs))(hz:H a=some (.lst vs)->a∈Z):SqL K H' a vs:=by
 rcases h with h|⟨o,h⟩
 ·exact .inl (.inl (k a _ h (.inr ⟨rfl,hz h⟩)))
 ·exact .inl (.inr ⟨o,k a _ h (.inl rfl)⟩)
theorem rX.rep{K:tz0}{U:tz9}{Z:List Addr}{H H':Hp}{v:V}{d:D}(k:rX Z H H')(r:Rep K U H v d []):Rep K U H' v d []:=r.move (fun a o h t=>k a o h (.inl t)) fun a ha=>absurd ha (by simp)
theorem lK:∀{l₁:List α} {l₂:List β} {i:Nat} {y:β},Paired R l₁ l₂->l₂[i]? =some y->∃x,l₁[i]? =some x/\R x y
 |_,_,_,_,.nil,e=>by simp at e
 |_,_,0,_,.cons h _,e=>by simp at e;subst e;exact⟨_,rfl,h⟩
 |_,_,i+1,_,.cons _ t,e=>by obtain⟨x,h1,h2⟩:=lK (i:=i) t (by simpa using e);exact⟨x,by simpa using h1,h2⟩
section
variable{K:tz0}{U:tz9}{H1:Hp}{a:Addr}{vs:List V}{ds:List D}{Z:List Addr}
theorem zv6(h:Rd H1 a (.lst vs))(hz:H1 a=some (.lst vs)->a∈Z)(r:Paired (fun v d=>Rep K U H1 v d []) vs ds):Walk K U (Itl K a) Z H1 ds where
 go:=fun H' k i d e=>by
  obtain⟨x,e1,r1⟩:=lK r e
  have sq:SqL K H' a vs:=k.sq h hz
  refine⟨⟨vs,x,sq,e1⟩,fun y H2 hy=>⟨hy.1,?_⟩⟩
  have e2:=hy.2 vs sq
  rw [e1] at e2;cases e2
  exact k.rep r1
 stop:=fun H' k=>⟨vs,k.sq h hz,by rw [ZJ r];exact Zc _⟩
theorem xn9(h:SqF K H1 a vs)(r:Paired (fun v d=>Rep K U H1 v d []) vs ds):Walk K U (Itl K a) Z H1 ds where
 go:=fun H' k i d e=>by
  obtain⟨x,e1,r1⟩:=lK r e
  have sq:SqL K H' a vs:=(h.tf fun a o e t=>k a o e (.inl t)).l
  refine⟨⟨vs,x,sq,e1⟩,fun y H2 hy=>⟨hy.1,?_⟩⟩
  have e2:=hy.2 vs sq
  rw [e1] at e2;cases e2
  exact k.rep r1
 stop:=fun H' k=>⟨vs,(h.tf fun a o e t=>k a o e (.inl t)).l,by rw [ZJ r];exact Zc _⟩
theorem xo0(h:SqT K H1 a vs)(r:Paired (fun v d=>Rep K U H1 v d []) vs ds):Walk K U (Itt K a) Z H1 ds where
 go:=fun H' k i d e=>by
  obtain⟨x,e1,r1⟩:=lK r e
  have sq:SqT K H' a vs:=h.tf fun a o e t=>k a o e (.inl t)
  refine⟨⟨vs,x,sq,e1⟩,fun y H2 hy=>⟨hy.1,?_⟩⟩
  have e2:=hy.2 vs sq
  rw [e1] at e2;cases e2
  exact k.rep r1
 stop:=fun H' k=>⟨vs,h.tf fun a o e t=>k a o e (.inl t),by rw [ZJ r];exact Zc _⟩
end
def gD(lo:Int)(n:Nat):List D:=(List.range n).map fun(k:Nat)=> .int (lo+(k:Int))
theorem zk5{K:tz0}{U:tz9}{H1:Hp}{Z:List Addr}(lo:Int)(n:Nat):Walk K U (Itr lo n) Z H1 (gD lo n) where
 go:=fun H' _ i d e=>by
  have hi:=(Z4.mp e).1
  unfold gD at hi e
  rw [Z8,Yt] at hi
  rw [Zd,List.getElem?_range hi] at e
  cases e
  exact⟨hi,fun x H2 ⟨h1,h2⟩=>⟨h1,by rw [h2];exact .int _⟩⟩
 stop:=fun H' _=>by
  show n<=(gD lo n).length
  unfold gD
  rw [Z8,Yt];exact Zc _
abbrev QIV(X:Cx)(U:tz9)(tg iter:Expr)(f:tz3):Prop:=PI X tg iter (tIV X.K U f)
abbrev QIP(X:Cx)(U:tz9)(tg iter:Expr)(f:tz3):Prop:=PI X tg iter (tIP X.K U f)
theorem PI.imp(h:PI X tg e t)(k:∀σ H Q,t' σ H Q->t σ H Q):PI X tg e t':=⟨fun pins s σ H Q I q=>h pins s σ H Q I (k σ H Q q)⟩
section
variable{X:Cx}{U:tz9}{tg l a b:Expr}{f:tz2}{g:tz3}{p pos:Pos}
def vD:List D->Option (List D)
 |[.int j]=>if (-(2^62)<=j/\j<2^62) then some (gD 0 j.toNat) else none
 |_=>none
def vE:List D->Option (List D)
 |[.int i,.int j]=>if (-(2^62)<=i/\i<2^62/\ -(2^62)<=j/\j<2^62) then some (gD i (j-i).toNat) else none
 |_=>none
def qF(g:tz3):tz3:=fun ps=>(g ps).bind vD
def sN(g:tz3):tz3:=fun ps=>(g ps).bind vE
theorem zv7(hg:Gl X "range")(hm:X.mg "range"=none)(ha:QVA X U [a] g)(hs:starEach [a] X.env=[(false,eval a X.env)]:=by rfl):QIP X U tg (.Call (.Name "range" p) [a] [] pos) (qF g):=
 PI.imp (xa8 hg hm ha hs) fun σ H R hh_=>by
  obtain⟨ps,ds,w,e,q⟩:=hh_
  obtain⟨as,e1,e2⟩:=bind_some e
  refine⟨ps,as,w,e1,fun vs H1 fp s1 r1=> ?_⟩
  unfold vD at e2
  split at e2
  ·obtain⟨hc,e3⟩:=bV e2
   cases e3
   obtain⟨v,rfl,r⟩:=r1.one_inv
   exact⟨_,by rw [r.is_int],hc.1,hc.2,q _ H1 [] s1 (fun _ h=>absurd h (by simp)) (zk5 _ _)⟩
  ·cases e2
theorem xe0(hg:Gl X "range")(hm:X.mg "range"=none)(ha:QVA X U [a,b] g)(hs:starEach [a,b] X.env=[(false,eval a X.env),(false,eval b X.env)]:=by rfl)(hs2:starEach [b] X.env=[(false,eval b X.env)]:=by rfl):QIP X U tg (.Call (.Name "range" p) [a,b] [] pos) (sN g):=
 PI.imp (xa9 hg hm ha hs hs2) fun σ H R hh_=>by
  obtain⟨ps,ds,w,e,q⟩:=hh_
  obtain⟨as,e1,e2⟩:=bind_some e
  refine⟨ps,as,w,e1,fun vs H1 fp s1 r1=> ?_⟩
  unfold vE at e2
  split at e2
  ·obtain⟨hc,e3⟩:=bV e2
   cases e3
   obtain⟨v,u,f,g,rfl,r,r'⟩:=r1.two_inv
   exact⟨_,_,by rw [r.is_int,r'.is_int],hc,q _ H1 [] s1 (fun _ h=>absurd h (by simp)) (zk5 _ _)⟩
  ·cases e2
def wv0(K:tz0)(tl:TE):TI:=fun σ H R=>tl σ H fun x H1=>∃a,x= .ref a/\(((∃xs,SqL K H1 a xs)/\R (Itl K a) H1)\/((∃xs,SqT K H1 a xs)/\R (Itt K a) H1))
theorem ye6(hl:PE X l tl):PI X tg l (wv0 X.K tl):=⟨by
 intro pins s σ H R I h
 refine thn (hl pins s σ H _ I h) fun v s1 ⟨x,H1,I1,r1,q1⟩=> ?_
 obtain⟨a,e,q1⟩:=q1
 subst e
 cases r1
 rcases q1 with ⟨⟨xs,hq⟩,q⟩|⟨⟨xs,hq⟩,q⟩
 ·obtain⟨its,rv,p,hz⟩:=I1.list hq
  refine wpAny_pyIter_list p.isList ?_
  refine⟨s1.heap.objs.size,[s1.heap.objs.size],_,_,H1,rfl,I1.kept (t':=s1.toks) fun b o e=>Zf _ e,xa7 a _,⟨_,Zw _ rfl,rfl,rfl⟩,fun b hb=> ?_,q⟩
  have e:b=s1.heap.objs.size:=by simpa using hb
  subst e
  exact I1.fpOk (Zc _) (I1.hok.fresh (Zc _))
 ·obtain⟨its,rv,p,hz⟩:=I1.tuple hq
  refine wpAny_pyIter_tuple (show s1.heap.IsTuple a its.toArray from p) ?_
  refine⟨s1.heap.objs.size,[s1.heap.objs.size],_,_,H1,rfl,I1.kept (t':=s1.toks) fun b o e=>Zf _ e,ys7 a _,⟨_,Zw _ rfl,rfl,rfl⟩,fun b hb=> ?_,q⟩
  have e:b=s1.heap.objs.size:=by simpa using hb
  subst e
  exact I1.fpOk (Zc _) (I1.hok.fresh (Zc _))⟩
def lC:D->Option (List D)
 | .lst _ xs=>if D.imms xs=true then some xs else none
 | .tup xs=>some xs
 | .con xs=>some xs
 |_=>none
theorem zr1{K:tz0}{H:Hp}{v:V}{d:D}{fp:List Addr}{ds:List D}{R:It->Hp->Prop}(r:Rep K U H v d fp)(e:lC d=some ds)(q:∀J Z,(∀a∈Z,a∈fp)->Walk K U J Z H ds->R J H):
  ∃a,v= .ref a/\(((∃xs,SqL K H a xs)/\R (Itl K a) H)\/((∃xs,SqT K H a xs)/\R (Itt K a) H)):=by
 cases d with
 |lst o xs=>
  obtain⟨hc,e⟩:=bV e
  cases e
  cases r with
  |lst h hs=>exact⟨_,rfl,.inl ⟨⟨_,.inl (.inl h)⟩,q _ [_] (fun a ha=>by simp at ha;subst ha;exact Z0) (zv6 (.inl h) (fun _=>by simp) (hs.pair hc))⟩⟩
  |lstF h hs=>exact⟨_,rfl,.inl ⟨⟨_,.inl (.inr ⟨_,h⟩)⟩,q _ [] (fun a ha=>absurd ha (by simp)) (zv6 (.inr ⟨_,h⟩) (fun z=>by rw [h] at z;cases z) (hs.pair hc))⟩⟩
 |tup xs=>
  cases e
  obtain⟨a,vs,rfl,h,hs⟩:=r.tup_inv
  exact⟨a,rfl,.inr ⟨⟨_,h⟩,q _ [] (fun a ha=>absurd ha (by simp)) (xo0 h hs.nilp)⟩⟩
 |con xs=>
  cases e
  obtain⟨a,vs,rfl,h,hs⟩:=r.con_inv
  exact⟨a,rfl,.inl ⟨⟨_,h.l⟩,q _ [] (fun a ha=>absurd ha (by simp)) (xn9 h hs.nilp)⟩⟩
 |_=>cases e
def cP(f:tz2):tz3:=fun ps=>(f ps).bind lC
theorem xe1(h:QP X U l f):QIP X U tg l (cP f):=PI.imp (ye6 h) fun σ H R hh_=>by
 obtain⟨ps,ds,w,e,q⟩:=hh_
 obtain⟨d,e1,e2⟩:=bind_some e
 exact⟨ps,d,w,e1,fun v H1 fv s1 n1 nd1 r1=>zr1 r1 e2 fun J Z hz k=>q J H1 Z s1 (fun a ha=>⟨n1 a (hz a ha),fun z=>by obtain⟨o,h,_⟩:=r1.own a (hz a ha);rw [z] at h;cases h⟩) k⟩
theorem wL(h:QV X U l f):QIV X U tg l (cP f):=PI.imp (ye6 h) fun σ H R hh_=>by
 obtain⟨ps,ds,w,e,q⟩:=hh_
 obtain⟨d,e1,e2⟩:=bind_some e
 exact⟨ps,d,w,e1,fun v H1 fv s1 r1=>zr1 r1 e2 fun J Z _ k=>q J H1 Z s1 k⟩
end
def cT(i:Nat)(f:tz1):List D->tz1
 |[],ps=>some (.nx,ps)
 | d::ds,ps=>(f (ps.set i (some d))).bind fun q=>match q with
   |(.nx,p)=>cT i f ds p
   |(.ct,p)=>cT i f ds p
   |(.bk,p)=>some (.nx,p)
   |(.ret d,p)=>some (.ret d,p)
section
variable{X:Cx}{φ:Fx}{pos:Pos}{body:List Stmt}{f:tz1}
theorem Frm.kept(R:RS φ H σ ps F)(k:Frm F H H')(hz:∀a∈Z,∀i,a∉F i):rX Z H H':=fun a o h t=>by
 rcases t with t|⟨t1,t2⟩
 ·refine k.keep a o h (nO t) fun i hi=> ?_
  obtain⟨o',h',_,t'⟩:=R.own hi
  rw [h] at h';cases h';rw [t] at t';cases t'
 ·exact k.keep a o h t1 (hz a t2)
def wr9(J:It)(E:Ends)(V:Nat->Nat->St->Hp->Prop)(g:TG)(tb:TS)(k m:Nat)(σ:St)(H:Hp):Prop:=
 (J.stop k H/\E.nx σ H)\/(J.go k H/\∃N:St->Hp->Prop,(∀σ' H',N σ' H'->∃m',m'<m/\V (k+1) m' σ' H')/\∀x H',J.yld k H x H'->g x σ H' fun σ2 H2=>tb {E with nx:=N,ct:=N,bk:=E.nx} σ2 H2)
def wv1(φ:Fx)(σ:St)(H:Hp)(F:Nat->List Addr)(i:Nat)(f:tz1)(ds:List D)(fl:Fl)(ps':PSt)(k m:Nat)(σ1:St)(H1:Hp):Prop:=k<=ds.length/\m=ds.length-k/\∃ps1 F1,Stp φ σ H F σ1 H1 ps1 F1/\cT i f (ds.drop k) ps1=some (fl,ps')
theorem ye7(R:RS φ H σ ps F)(hz:∀a∈Z,H a≠none/\∀i,a∉F i)(W:Walk φ.K φ.U J Z H ds)(hb:φ.bor i=false)(hm:φ.M i=false)
  (e:cT i f ds ps=some (fl,ps')) (q:yG φ E σ H F fl ps'):∃V:Nat->Nat->St->Hp->Prop,(∃m,V 0 m σ H)/\∀k m σ H,V k m σ H->wr9 J E V (yE i) (tS φ f) k m σ H:=by
 refine⟨wv1 φ σ H F i f ds fl ps',⟨_,ZT _,rfl,ps,F,.refl R,by rw [XH];exact e⟩,?_⟩
 rintro k m σ1 H1 ⟨hk,rfl,ps1,F1,s1,e1⟩
 have kp:rX Z H H1:=s1.fr.kept R fun a ha=>(hz a ha).2
 by_cases hlt:k<ds.length
 ·right
  have ed:ds[k]? =some ds[k]:=Zn hlt
  obtain⟨hgo,hy⟩:=W.go H1 kp k _ ed
  rw [ZR hlt,cT] at e1
  obtain⟨⟨fl2,ps2⟩,e2,e3⟩:=bind_some e1
  refine⟨hgo,fun σ' H'=>∃F',Stp φ σ H F σ' H' ps2 F'/\cT i f (ds.drop (k+1)) ps2=some (fl,ps'),fun σ' H' ⟨F',s,e⟩=>⟨ds.length-(k+1),by omega,hlt,rfl,ps2,F',s,e⟩,fun x H' y=> ?_⟩
  obtain⟨rfl,rx⟩:=hy x H' y
  obtain⟨F2,s2⟩:=(Stp.refl s1.rs).set (i:=i) (fv:=[]) (v:=x) (d:=ds[k]) ⟨fun _ h=>absurd h (by simp),Zr,fun _ _ _ h=>absurd h (by simp)⟩ s1.rs rx (.inl hb) hm
  have s12:=s1.trans s2
  refine⟨_,F2,fl2,ps2,s2.rs,e2,?_⟩
  cases fl2 with
  |nx=>exact fun σ' H' F' s=>⟨F',s12.trans s,e3⟩
  |ct=>exact fun σ' H' F' s=>⟨F',s12.trans s,e3⟩
  |bk=>cases e3;exact fun σ' H' F' s=>q σ' H' F' (s12.trans s)
  |ret d=>cases e3;exact fun v σ' H' F' fv s o r=>q v σ' H' F' fv (s12.trans s) (o.after s12) r
 ·left
  have ek:k=ds.length:=by omega
  subst ek
  rw [Xs,cT] at e1
  cases e1
  exact⟨W.stop H1 kp,q _ _ F1 s1⟩
def fV(i:Nat)(fi:tz3)(f:tz1):tz1:=fun ps=>(fi ps).bind fun ds=>cT i f ds ps
theorem qS{U:tz9}{φ:F0}(i:Nat){x:Str}{px:Pos}{iter:Expr}{fi:tz3}(hp:PassesOwn (model X.prog X.w) X.A X.env X.xe)(hc:X.calm=true)(hN:X.N.Nodup)(hi:X.N[i]? =some x)(hx:Loc X.env.scope x)(hb:φ.bor i=false)(hm:φ.M i=false)
  (hit:PI X (.Name x px) iter (tIP X.K U fi)) (hbd:QSs X U φ body f) (hs:∀x,foldedSetIterable iter X.env x=pure x:=by intro _;rfl) (hf:X.fn x=true\/X.env.scope.names.lookup x=some .local:=by first|exact .inl rfl|exact .inr rfl|assumption):
  QS X U φ (.For (.Name x px) iter body [] pos) (fV i fi f):=(yd1 hp hc hit (iA hN hi hx hf) hbd hs).imp fun E σ H hh_=>by
 obtain⟨ps,F,fl,ps',R,e,q⟩:=hh_
 obtain⟨ds,e1,e2⟩:=bind_some e
 refine⟨ps,ds,R.ws,e1,fun J H1 Z s1 hz W=> ?_⟩
 have s:=Stp.same R s1
 exact ye7 s.rs (fun a ha=>⟨(hz a ha).2,fun j hj=>by obtain⟨o,h,_⟩:=R.own hj;rw [(hz a ha).1] at h;cases h⟩) W hb hm e2 (q.back s)
def wm6(g:TG)(tb:TS)(E:Ends)(σ:St):It->Hp->Prop:=fun J H1=>∃W:Nat->Nat->St->Hp->Prop,(∃m,W 0 m σ H1)/\∀i m σ H,W i m σ H->
 (J.stop i H/\E.nx σ H)\/(J.go i H/\∃N:St->Hp->Prop,(∀σ' H',N σ' H'->∃m',m'<m/\W (i+1) m' σ' H')/\∀x H',J.yld i H x H'->g x σ H' fun σ2 H2=>tb {E with nx:=N,ct:=N,bk:=E.nx} σ2 H2)
theorem zc9{U:tz9}{φ:F0}(i j:Nat){x y:Str}{px py:Pos}(hp:PassesOwn (model X.prog X.w) X.A X.env X.xe)(hc:X.calm=true)(hN:X.N.Nodup)(hi:X.N[i]? =some x)(hx:Loc X.env.scope x)(hb:φ.bor i=false)(hm:φ.M i=false)(hj:φ.bor j=true)
  (hbd:QSs X U φ body f) (hNj:X.N[j]? =some y:=by rfl) (hv:Vis X.env.scope y:=by first|exact Or.inl rfl|exact Or.inr (Or.inl rfl)|exact Or.inr (Or.inr rfl)) (hd:(y==("__debug__":Str))=false:=by decide)
  (hcd:(y==("__classdict__":Str))=false:=by decide) (hs:∀x,foldedSetIterable (.Name y py) X.env x=pure x:=by intro _;rfl) (hf:X.fn x=true\/X.env.scope.names.lookup x=some .local:=by first|exact .inl rfl|exact .inr rfl|assumption):
  QS X U φ (.For (.Name x px) (.Name y py) body [] pos) (fV i (cP (aA j)) f):=(yd1 hp hc (ye6 (qP hNj hv hd hcd)) (iA hN hi hx hf) hbd hs).imp fun E σ H hh_=>by
 obtain⟨ps,F,fl,ps',R,e,q⟩:=hh_
 obtain⟨ds,e1,e2⟩:=bind_some e
 obtain⟨d,e3,e4⟩:=bind_some e1
 obtain⟨v,fp,h1,h2,_,h4⟩:=R.rep j d (join_some e3)
 refine⟨v,h1,?_⟩
 refine zr1 (R:=wm6 (yE i) (tS (φ.fx X.K U) f) E σ) h2 e4 fun J Z hz W=> ?_
 exact ye7 R (fun a ha=>⟨R.bt j a (h4 hj a (hz a ha)),fun k hk=>R.nb k a hk j (h4 hj a (hz a ha))⟩) W hb hm e2 q
end
def gP(np n:Nat)(f:tz1):tz6:=fun ds=>if ds.length=np then(f (ds.map some++List.replicate n none)).bind fun r=>match r with
 |(.ret d,_)=>some d
 |(.nx,_)=>some .non
 |_=>none
 else none
def SpP(np:Nat)(K:tz0)(U:tz9)(g:tz6):Sp:=fun vs H Q _=>vs.length=np/\∃ds fp d,Reps K U H vs ds fp/\g ds=some d/\lA K U H d Q
def fxP(K:tz0)(U:tz9)(np:Nat)(B:Nat->Addr->Prop):Fx:=⟨K,U,fun i=>decide (i<np),fun _=>false,B⟩
def f0P(np:Nat)(B:Nat->Addr->Prop):F0:=⟨fun i=>decide (i<np),fun _=>false,B⟩
theorem xe2{N:List Str}{vs:List V}{i:Nat}{v:V}(h:vs[i]? =some v):(start N vs)[i]? =some (some v):=by
 unfold start
 have hi:=(Z4.mp h).1
 rw [ZQ (by simpa using hi),Zd,h];rfl
theorem RS.start{K:tz0}{U:tz9}{H:Hp}{N:List Str}{vs:List V}{ds:List D}{fp:List Addr}{np:Nat}(r:Reps K U H vs ds fp)(hl:vs.length=np)(hn:np<=N.length):
  RS (fxP K U np (fun _ a=>a∈fp)) H (start N vs) (ds.map some++List.replicate (N.length-np) none) (fun _=>[]):=by
 have el:=r.length
 refine⟨fun i d h=> ?_,fun i a h=>absurd h (by simp),fun i j a h=>absurd h (by simp),fun i=>Zr,fun i a h=>absurd h (by simp),fun k a h z=> ?_,?_⟩
 ·by_cases hi:i<ds.length
  ·rw [ZQ (by simpa using hi),Zd] at h
   cases e:ds[i]? with
   |none=>rw [e] at h;cases h
   |some d'=>
    rw [e] at h;cases h
    obtain⟨v,f,h1,h2,h3⟩:=r.get e
    refine⟨v,f,xe2 h1,h2,fun z=> ?_,fun _=>h3⟩
    exact absurd (Y5 z) (by omega)
  ·rw [YJ (by simpa using hi),Yq] at h
   split at h<;>cases h
 ·obtain⟨o,h,_⟩:=r.own a h
  rw [z] at h;cases h
 ·unfold L2.start
  simp only [Z5,Z8,X6]
  omega
section
variable{P:Program}{w:World}{K:tz0}{mg:tzA}{base:Heap}{U:tz9}
theorem cO{x qual:Str}{st:Stmt}{f:Addr}{fd:FuncData}{N ps:List Str}{k:Nat}{fb:tz1}(F:Fun K x qual st f fd)(S:FnScope N ps (aT st))
  (hbody:∀(cdv:Value) (A:Around) (outer:List Env) (s:Shared) (H:Hp) (E:XK) (B:Nat->Addr->Prop),Room k (A.deeper (envOfC qual (aT st) s.heap.objs.size f cdv))->
   QSs (iU CX0 P w K mg base N qual (aT st) f cdv A outer s H E).nox U (f0P ps.length B) (mM st) fb):
  FnOk P w K mg base CX0 (k+1) f fd ps (SpP ps.length K U (gP ps.length (N.length-ps.length) fb)):=by
 refine F.ok S (fun vs H Q E h=>h.1) fun cdv A outer s H vs Q E hr ⟨hl,ds,fp,d,r,e,q⟩=>⟨_,hbody cdv A outer s H E (fun _ a=>a∈fp) hr,?_⟩
 have hn:ps.length<=N.length:=by have:=ZK List.length S.pre;rw [Yz] at this;omega
 unfold gP at e
 obtain⟨_,e0⟩:=bV e
 obtain⟨⟨fl,ps'⟩,e1,e2⟩:=bind_some e0
 refine⟨_,fun _=>[],fl,ps',RS.start r hl hn,e1,?_⟩
 have sm:∀{H':Hp},Frm (fun _=>[]) H H'->SameK H H':=fun k=>⟨fun a o h kk=>k.keep a o h kk (fun _=>by simp),k.grow⟩
 cases fl with
 |ret d'=>
  cases e2
  exact fun v σ' H' F' fv s o rv=>q v H' fv (sm s.fr) (fun a ha=>(o.nw a ha).elim (fun⟨j,hj⟩=>absurd hj (by simp)) id) o.nd rv
 |nx=>
  cases e2
  exact fun σ' H' F' s=>q .non H' [] (sm s.fr) (fun a ha=>absurd ha (by simp)) Zr .non
 |bk=>cases e2
 |ct=>cases e2
end
section
variable{X:Cx}{U:tz9}{e:Expr}{es:List Expr}{g:tz3}{pos p:Pos}
theorem cM{x:Str}{st:Stmt}{ps:List Str}{f:Addr}{fd:FuncData}{k np:Nat}{h:tz6}(Dd:Dn X.K X.mg x st ps f fd)(G:FnOk X.prog X.w X.K X.mg X.base CX0 k f fd ps (SpP np X.K U h))(hr:Room k X.A)(hg:Gl X x)(hnp:(e::es).length=np)(ha:QVA X U (e::es) g)
  (hlen:∀ps ds,g ps=some ds->ds.length=(e::es).length)
  (hdb:(x==("__debug__":Str))=false:=by decide) (he:starEach (e::es) X.env=(false,eval e X.env)::starEach es X.env:=by rfl) (hpl:(backTo pos (starEach es X.env)).any (·.1)=false:=by rfl):
  QP X U (.Call (.Name x p) (e::es) [] pos) (aH h g):=(yu1 Dd G hr hg ha hdb he hpl).imp fun σ H Q hh_=>by
 obtain⟨ps,d,w,e,q⟩:=hh_
 obtain⟨ds,e1,e2⟩:=bind_some e
 refine⟨ps,ds,w,e1,fun vs H1 fp s1 r1=> ?_⟩
 show SpP np X.K U h (vs++[]) H1 Q E0
 rw [Zq]
 exact⟨by rw [r1.length,hlen ps ds e1,hnp],ds,fp,d,r1,e2,q.after s1⟩
theorem xe3{x:Str}{st:Stmt}{ps:List Str}{f:Addr}{fd:FuncData}{k:Nat}{h:tz6}(Dd:Dn X.K X.mg x st ps f fd)(G:FnOk X.prog X.w X.K X.mg X.base CX0 k f fd ps (SpP 0 X.K U h))(hr:Room k X.A)(hg:Gl X x)
  (hdb:(x==("__debug__":Str))=false:=by decide):QP X U (.Call (.Name x p) [] [] pos) (aH h aE):=(wg4 Dd G hr hg hdb).imp fun σ H Q hh_=>by
 obtain⟨ps,d,w,e,q⟩:=hh_
 obtain⟨ds,e1,e2⟩:=bind_some e
 cases e1
 exact⟨rfl,[],[],d,.nil,e2,q⟩
theorem bF:∀(ps:PSt) (ds:List D),aE ps=some ds->ds.length=([]:List Expr).length:=fun _ _ h=>by cases h;rfl
theorem aN(h:∀ps ds,g ps=some ds->ds.length=es.length):∀(ps:PSt) (ds:List D),aB f g ps=some ds->ds.length=(e::es).length:=fun ps ds q=>by
 obtain⟨d,es',_,e2,rfl⟩:=xG q
 rw [Z6,Z6,h ps es' e2]
end
def rY(pick:List (Option Nat))(ps:PSt):PSt:=pick.map fun o=>o.bind fun j=>(ps[j]?).join
def gO(psb:PSt)(ft:tz4)(fe:tz2):List D->Option (List D)
 |[]=>some []
 |d::ds=>(ft (psb.set 0 (some d))).bind fun b=>if b=true then(fe (psb.set 0 (some d))).bind fun r=>(gO psb ft fe ds).bind fun rs=>some (r::rs) else gO psb ft fe ds
def iD(pick:List (Option Nat))(fi:tz3)(ft:tz4)(fe:tz2):tz2:=fun ps=>(fi ps).bind fun ds=>if ds.length<=sizeLine then(gO (rY pick ps) ft fe ds).bind fun rs=>some (.lst true rs) else none
def iG:tz4:=fun _=>some true
theorem WS.sub{K:tz0}{U:tz9}{H:Hp}{σ:St}{ps:PSt}(pick:List (Option Nat))(w:WS K U H σ ps):WS K U H (rV pick σ) (rY pick ps):=fun i d h=>by
 unfold rY at h
 unfold rV
 rw [Zd] at h|-
 cases e:pick[i]? with
 |none=>rw [e] at h;cases h
 | some o=>
  rw [e] at h
  cases o with
  |none=>cases h
  |some j=>
   have h':(ps[j]?).join=some d:=ZB h
   obtain⟨v,fp,h1,h2⟩:=w j d (join_some h')
   refine⟨v,fp,?_,h2⟩
   show some ((σ[j]?).join)=some (some v)
   rw [h1];rfl
theorem WS.set0{K:tz0}{U:tz9}{H:Hp}{σ:St}{ps:PSt}{v:V}{d:D}{fp:List Addr}(w:∀(i:Nat) (d:D),i≠0->ps[i]? =some (some d)->∃v fp,σ[i]? =some (some v)/\Rep K U H v d fp)(hl:ps.length<=σ.length)(r:Rep K U H v d fp):WS K U H (σ.set 0 (some v)) (ps.set 0 (some d)):=fun i d' h=>by
 by_cases e:i=0
 ·subst e
  by_cases hp:0<ps.length
  ·rw [Zy hp] at h
   cases h
   exact⟨v,fp,by rw [Zy (by omega)],r⟩
  ·rw [Yw (by simpa using hp)] at h;cases h
 ·rw [Zs (fun z=>e z.symm)] at h|-
  exact w i d' e h
section
variable{X:Cx}{U:tz9}{sc:Scope}{NX N:List Str}{pick:List (Option Nat)}{elt iter:Expr}{ifs:List Expr}{scope:Scope}{pos px:Pos}{x:Str}{fi:tz3}{ft:tz4}{fe:tz2}
theorem PTs.imp(h:PTs X ifs t)(k:∀σ H Q,t' σ H Q->t σ H Q):PTs X ifs t':=⟨fun pins s σ H Q I q=>h pins s σ H Q I (k σ H Q q)⟩
theorem tF:PTs X [] (tQ X.K U iG):=wg5.imp fun σ H Q ⟨ps,b,w,e,q⟩=>by cases e;exact q H (.refl H)
structure Grown(K:tz0)(U:tz9)(H1:Hp)(Dd:Addr)(H':Hp)(vs:List V)(rs:List D)(fv:List Addr):Prop where
 same:SameK H1 H'
 at_:H' Dd=some (.lst vs)
 rep:Reps K U H' vs rs fv
 new:∀a∈fv,H1 a=none
 ne:Dd∉fv
 nd:fv.Nodup
def ws0(K:tz0)(U:tz9)(J:It)(Dd:Addr)(q:Hp->Prop)(V:Nat->Nat->St->Hp->Prop)(ft:tz4)(fe:tz2)(i m:Nat)(σ':St)(H':Hp):Prop:=
  (J.stop i H'/\q H')\/(J.go i H'/\∀x H2,J.yld i H' x H2->yE 0 x σ' H2 fun σ3 H3=>tQ K U ft σ3 H3 fun b H4=>
   if b=true then tP K U fe σ3 H4 fun y H5=>∃ys,H5 Dd=some (.lst ys)/\ys.length<sizeLine/\∃m',m'<m/\V (i+1) m' σ3 (upd H5 Dd (.lst (ys++[y]))) else ∃m',m'<m/\V (i+1) m' σ3 H4)
def wv2(K:tz0)(U:tz9)(H1:Hp)(Dd:Addr)(pick:List (Option Nat))(ps:PSt)(ft:tz4)(fe:tz2)(ds rs:List D)(i m:Nat)(σ':St)(H':Hp):Prop:=i<=ds.length/\m=ds.length-i/\(∀(j:Nat) (d:D),j≠0->(rY pick ps)[j]? =some (some d)->∃v fp,σ'[j]? =some (some v)/\Rep K U H1 v d fp)/\(rY pick ps).length<=σ'.length/\
  ∃vs fv done rest,Grown K U H1 Dd H' vs done fv/\done.length<=i/\gO (rY pick ps) ft fe (ds.drop i)=some rest/\rs=done++rest
theorem xo1{pick:List (Option Nat)}{J:It}{Z:List Addr}{σ:St}{ps:PSt}{H1:Hp}{Dd:Addr}{ds rs:List D}{Q:Addr->Hp->Prop}(w:WS X.K U H1 σ ps)(hD:H1 Dd=none)(W:Walk X.K U J Z H1 ds)(hz:ds.length<=sizeLine)
  (e:gO (rY pick ps) ft fe ds=some rs) (q:∀H' vs fv,Grown X.K U H1 Dd H' vs rs fv->Q Dd H'):
  ∃V:Nat->Nat->St->Hp->Prop,(∃m,V 0 m (rV pick σ) (upd H1 Dd (.lst [])))/\∀i m σ' H',V i m σ' H'->ws0 X.K U J Dd (Q Dd) V ft fe i m σ' H':=by
 refine⟨wv2 X.K U H1 Dd pick ps ft fe ds rs,⟨_,ZT _,rfl,fun j d _ h=>w.sub pick j d h,by simp [rY,rV],[],[],[],rs,⟨.new hD _,cX,.nil,fun _ h=>absurd h (by simp),by simp,Zr⟩,ZT _,by rw [XH];exact e,rfl⟩,?_⟩
 rintro i m σ' H' ⟨hi,rfl,ws,wl,vs,fv,done,rest,G,hdn,er,ers⟩
 have kp:rX Z H1 H':=fun a o h t=>G.same.keep a o h (t.elim nO fun t=>t.1)
 by_cases hlt:i<ds.length
 ·right
  have ed:ds[i]? =some ds[i]:=Zn hlt
  obtain⟨hgo,hy⟩:=W.go H' kp i _ ed
  refine⟨hgo,fun x H2 y=> ?_⟩
  obtain⟨rfl,rx⟩:=hy x H2 y
  rw [ZR hlt,gO] at er
  obtain⟨b,e1,e2⟩:=bind_some er
  have wset:WS X.K U H2 (σ'.set 0 (some x)) ((rY pick ps).set 0 (some ds[i])):=WS.set0 (fun j d hj h=>by obtain⟨v,fp,h1,h2⟩:=ws j d hj h;exact⟨v,fp,h1,h2.same G.same⟩) wl rx
  refine⟨_,b,wset,e1,fun H3 s3=> ?_⟩
  have keepS:∀(j:Nat) (d:D),j≠0->(rY pick ps)[j]? =some (some d)->∃v fp,(σ'.set 0 (some x))[j]? =some (some v)/\Rep X.K U H1 v d fp:=fun j d hj h=>by
   obtain⟨v,fp,h1,h2⟩:=ws j d hj h
   exact⟨v,fp,by rw [Zs (fun z=>hj z.symm)];exact h1,h2⟩
  have Dkeep:∀{H5:Hp},SameK H2 H5->H5 Dd=some (.lst vs):=fun s=>s.keep _ _ G.at_ rfl
  cases b with
  | true=>
   dsimp only
   rw [if_pos rfl] at e2|-
   obtain⟨r,e3,e4⟩:=bind_some e2
   obtain⟨rs',e5,e6⟩:=bind_some e4
   cases e6
   refine⟨_,r,wset.same s3,e3,fun y H5 fw s5 n5 nd5 r5=> ?_⟩
   have s25:=s3.trans s5
   refine⟨vs,Dkeep s25,?_,ds.length-(i+1),by omega,hlt,rfl,keepS,by simpa using wl,vs++[y],fv++fw,done++[r],rs',?_,?_,e5,by rw [ers];simp⟩
   ·have:=G.rep.length;omega
   ·have hDw:Dd∉fw:=fun z=>by have:=s3.grow Dd (n5 Dd z);rw [G.at_] at this;cases this
    have hup:∀a,a≠Dd->upd H5 Dd (.lst (vs++[y])) a=H5 a:=fun a h=>bK h
    have tfk:∀a o,H5 a=some o->tf o=true->upd H5 Dd (.lst (vs++[y])) a=some o:=fun a o h t=>by
     rw [hup a]
     ·exact h
     ·rintro rfl;rw [Dkeep s25] at h;cases h;cases t
    have rv5:Reps X.K U H5 vs done fv:=G.rep.same s25
    refine⟨⟨fun a o h k=> ?_,fun a h=> ?_⟩,cX,Reps.append (rv5.move tfk fun a ha=>hup a fun z=>G.ne (z▸ha)) (Reps.one (r5.move tfk fun a ha=>hup a fun z=>hDw (z▸ha))),fun a ha=> ?_,fun z=> ?_,?_⟩
    ·rw [hup a (fun z=>by subst z;rw [hD] at h;cases h)]
     exact(G.same.trans s25).keep a o h k
    ·by_cases z:a=Dd
     ·subst z;rw [cX] at h;cases h
     ·rw [hup a z] at h;exact(G.same.trans s25).grow a h
    ·rcases Zk.mp ha with z|z
     ·exact G.new a z
     ·exact(G.same.trans s3).grow a (n5 a z)
    ·rcases Zk.mp z with z|z
     ·exact G.ne z
     ·exact hDw z
    ·rw [ZI]
     refine⟨G.nd,nd5,fun a ha b hb e=> ?_⟩
     subst e
     obtain⟨o,h,k,_⟩:=G.rep.own a ha
     have:=s3.keep a o h k
     rw [n5 a hb] at this;cases this
   ·rw [Z5,W7];omega
  |false=>
   dsimp only
   rw [if_neg Zb] at e2|-
   refine⟨ds.length-(i+1),by omega,hlt,rfl,keepS,by simpa using wl,vs,fv,done,rest,⟨G.same.trans s3,Dkeep s3,G.rep.same s3,G.new,G.ne,G.nd⟩,by omega,e2,ers⟩
 ·left
  have ek:i=ds.length:=by omega
  subst ek
  rw [Xs,gO] at er
  cases er
  rw [Zq] at ers
  subst ers
  exact⟨W.stop H' kp,q H' vs fv G⟩
theorem tG(S:CScope sc NX N pick scope)(hsc:X.env.scope=sc)(hNX:X.N=NX)(hc:X.calm=true)(hi:QIV X U (.Name x px) iter fi)
  (hg:∀cl fp s H,PG (cxB X N scope cl fp s H) (.Name x px) (yE 0)) (ht:∀cl fp s H,PTs (cxB X N scope cl fp s H) ifs (tQ X.K U ft)) (he:∀cl fp s H,PE (cxB X N scope cl fp s H) elt (tP X.K U fe))
  (hs:∀x,foldedSetIterable iter X.env x=pure x:=by intro _;rfl):QP X U (.ListComp elt [⟨.Name x px,iter,ifs,0⟩] scope pos) (iD pick fi ft fe):=
 (xy6 S hsc hNX hc hi hg ht he hs).imp fun σ H Q hh_=>by
  obtain⟨ps,d,w,e,q⟩:=hh_
  obtain⟨ds,e1,e2⟩:=bind_some e
  obtain⟨hz,e3⟩:=bV e2
  obtain⟨rs,e4,e5⟩:=bind_some e3
  cases e5
  refine⟨ps,ds,w,e1,fun J H1 Z s1 W Dd hD=> ?_⟩
  refine xo1 (Q:=fun Dd H'=>Q (.ref Dd) H') (w.same s1) hD W hz e4 fun H' vs fv G=> ?_
  refine q _ H' (Dd::fv) (s1.trans G.same) (fun a ha=> ?_) (Zu.mpr ⟨G.ne,G.nd⟩) (.lst G.at_ G.rep)
  rcases Z2.mp ha with z|z
  ·rw [z];exact s1.grow Dd hD
  ·exact s1.grow a (G.new a z)
end
inductive Ps1 where
 |ix (n:Nat)|fld (f:Str)
def cQ:List Str->Str->Option Nat
 |[],_=>none
 |n::ns,f=>if n=f then some 0 else(cQ ns f).map (·+1)
def fL{α:Type}(h:D->Option (α×D)):D->List Ps1->Option (α×D)
 |d,[]=>h d
 | .lst true xs,.ix n::p=>(xs[n]?).bind fun d=>(fL h d p).bind fun r=>some (r.1,.lst true (xs.set n r.2))
 | .obj true C ns vs,.fld f::p=>(cQ ns f).bind fun n=>(vs[n]?).bind fun d=>(fL h d p).bind fun r=>some (r.1,.obj true C ns (vs.set n r.2))
 |_,_=>none
def jY:D->List Ps1->Option D
 |d,[]=>some d
 | .lst true xs,.ix n::p=>(xs[n]?).bind fun d=>jY d p
 | .obj true _ ns vs,.fld f::p=>(cQ ns f).bind fun n=>(vs[n]?).bind fun d=>jY d p
 |_,_=>none
def At(H:Hp):V->List Ps1->V->Prop
 |v0,[],v=>v=v0
 |v0,.ix n::p,v=>∃a vs v1,v0= .ref a/\H a=some (.lst vs)/\vs[n]? =some v1/\At H v1 p v
 |v0,.fld f::p,v=>∃a C dx fs n v1,v0= .ref a/\H a=some (.ins C dx fs)/\cQ (fs.map (·.1)) f=some n/\(fs.map (·.2))[n]? =some v1/\At H v1 p v
theorem At.same(s:SameK H H'):∀{p:List Ps1} {v0 v:V},At H v0 p v->At H' v0 p v
 |[],_,_,h=>h
 | .ix n::p,_,_,⟨a,vs,v1,h1,h2,h3,h4⟩=>⟨a,vs,v1,h1,s.keep _ _ h2 rfl,h3,At.same s h4⟩
 | .fld f::p,_,_,⟨a,C,dx,fs,n,v1,h1,h2,h3,h4,h5⟩=>⟨a,C,dx,fs,n,v1,h1,s.keep _ _ h2 rfl,h3,h4,At.same s h5⟩
theorem At.snoc_ix(h:H a=some (.lst vs))(hv:vs[n]? =some v):∀{p:List Ps1} {v0:V},At H v0 p (.ref a)->At H v0 (p++[.ix n]) v
 |[],_,e=>⟨a,vs,v,e.symm,h,hv,rfl⟩
 | .ix m::p,_,⟨b,us,v1,h1,h2,h3,h4⟩=>⟨b,us,v1,h1,h2,h3,At.snoc_ix h hv h4⟩
 | .fld f::p,_,⟨b,C,dx,fs,m,v1,h1,h2,h3,h4,h5⟩=>⟨b,C,dx,fs,m,v1,h1,h2,h3,h4,At.snoc_ix h hv h5⟩
theorem At.snoc_fld(h:H a=some (.ins C dx fs))(hn:cQ (fs.map (·.1)) f=some n)(hv:(fs.map (·.2))[n]? =some v):∀{p:List Ps1} {v0:V},At H v0 p (.ref a)->At H v0 (p++[.fld f]) v
 |[],_,e=>⟨a,C,dx,fs,n,v,e.symm,h,hn,hv,rfl⟩
 | .ix m::p,_,⟨b,us,v1,h1,h2,h3,h4⟩=>⟨b,us,v1,h1,h2,h3,At.snoc_fld h hn hv h4⟩
 | .fld f'::p,_,⟨b,C',dx',fs',m,v1,h1,h2,h3,h4,h5⟩=>⟨b,C',dx',fs',m,v1,h1,h2,h3,h4,At.snoc_fld h hn hv h5⟩
theorem yp0(e:fL h d0 (.ix n::p)=some (r,d')):∃xs d1 d2,d0= .lst true xs/\xs[n]? =some d1/\fL h d1 p=some (r,d2)/\d'= .lst true (xs.set n d2):=by
 unfold fL at e
 split at e
 ·rename_i z;cases z
 ·rename_i z;cases z
  obtain⟨d1,h1,h2⟩:=bind_some e
  obtain⟨⟨r1,d2⟩,h3,h4⟩:=bind_some h2
  cases h4
  exact⟨_,_,_,rfl,h1,h3,rfl⟩
 ·rename_i z;cases z
 ·cases e
theorem ye8(e:fL h d0 (.fld f::p)=some (r,d')):∃C ns xs n d1 d2,d0= .obj true C ns xs/\cQ ns f=some n/\xs[n]? =some d1/\fL h d1 p=some (r,d2)/\d'= .obj true C ns (xs.set n d2):=by
 unfold fL at e
 split at e
 ·rename_i z;cases z
 ·rename_i z;cases z
 ·rename_i z;cases z
  obtain⟨n,h0,h9⟩:=bind_some e
  obtain⟨d1,h1,h2⟩:=bind_some h9
  obtain⟨⟨r1,d2⟩,h3,h4⟩:=bind_some h2
  cases h4
  exact⟨_,_,_,_,_,_,rfl,h0,h1,h3,rfl⟩
 ·cases e
theorem zr2(e:jY d0 (.ix n::p)=some d):∃xs d1,d0= .lst true xs/\xs[n]? =some d1/\jY d1 p=some d:=by
 unfold jY at e
 split at e
 ·rename_i z;cases z
 ·rename_i z;cases z
  obtain⟨d1,h1,h2⟩:=bind_some e
  exact⟨_,_,rfl,h1,h2⟩
 ·rename_i z;cases z
 ·cases e
theorem zg7(e:jY d0 (.fld f::p)=some d):∃C ns xs n d1,d0= .obj true C ns xs/\cQ ns f=some n/\xs[n]? =some d1/\jY d1 p=some d:=by
 unfold jY at e
 split at e
 ·rename_i z;cases z
 ·rename_i z;cases z
 ·rename_i z;cases z
  obtain⟨n,h0,h9⟩:=bind_some e
  obtain⟨d1,h1,h2⟩:=bind_some h9
  exact⟨_,_,_,_,_,rfl,h0,h1,h2⟩
 ·cases e
theorem nP:∀{d0:D},fL h d0 p=some (r,d')->∃d dn,jY d0 p=some d/\h d=some (r,dn):=by
 induction p generalizing d' with
 |nil=>intro d0 e;rw [fL] at e;exact⟨d0,d',by rw [jY],e⟩
 | cons s p ih=>
  intro d0 e
  cases s with
  |ix m=>
   obtain⟨xs,d1,d2,rfl,h1,h3,rfl⟩:=yp0 e
   obtain⟨d,dn,g1,g2⟩:=ih h3
   refine⟨d,dn,?_,g2⟩
   show(xs[m]?).bind _=_
   rw [h1];exact g1
  |fld f=>
   obtain⟨C,ns,xs,m,d1,d2,rfl,h0,h1,h3,rfl⟩:=ye8 e
   obtain⟨d,dn,g1,g2⟩:=ih h3
   refine⟨d,dn,?_,g2⟩
   show(cQ ns f).bind _=_
   rw [h0]
   show(xs[m]?).bind _=_
   rw [h1];exact g1
section
variable{K:tz0}{U:tz9}{H:Hp}
theorem Reps.focus:∀{vs:List V} {ds:List D} {g:List Addr} {n:Nat} {d1:D} {v1:V},Reps K U H vs ds g->ds[n]? =some d1->vs[n]? =some v1->∃f1 rest,Rep K U H v1 d1 f1/\g.Perm (f1++rest)/\
  ∀(H':Hp) (d':D) (f':List Addr),(∀a o,H a=some o->tf o=true->H' a=some o)->(∀a∈rest,H' a=H a)->Rep K U H' v1 d' f'->∃g',Reps K U H' vs (ds.set n d') g'/\g'.Perm (f'++rest)
 |_,_,_,_,_,_,.nil,e,_=>by simp at e
 |_,_,_,0,_,_,.cons (f:=f) (g:=g) h hs,e,e'=>by
  simp at e e';subst e;subst e'
  exact⟨f,g,h,.refl _,fun H' d' f' t k r=>⟨f'++g,.cons r (hs.move t k),.refl _⟩⟩
 | _,_,_,n+1,_,_,.cons (f:=f) (g:=g) h hs,e,e'=>by
  obtain⟨f1,rest,h1,h2,h3⟩:=Reps.focus (n:=n) hs (by simpa using e) (by simpa using e')
  refine⟨f1,f++rest,h1,?_,fun H' d' f' t k r=> ?_⟩
  ·refine(h2.append_left f).trans ?_
   rw [<-Zt,<-Zt]
   exact Yx.append_right rest
  ·obtain⟨g',r1,r2⟩:=h3 H' d' f' t (fun a ha=>k a (Z7 _ ha)) r
   refine⟨f++g',.cons (h.move t fun a ha=>k a (Zj _ ha)) r1,?_⟩
   refine(r2.append_left f).trans ?_
   rw [<-Zt,<-Zt]
   exact Yx.append_right rest
theorem zv8{b:Addr}{g f1 fd rest rest1:List Addr}(k2:g.Perm (f1++rest1))(m3:f1.Perm (fd++rest)):(b::g).Perm (fd++b::(rest++rest1)):=by
 refine((k2.trans (m3.append_right rest1)).cons b).trans ?_
 rw [Zt]
 exact List.perm_middle.symm
def Foc(K:tz0)(U:tz9)(H:Hp){α:Type}(h:D->Option (α×D))(r:α)(v v0:V)(d0':D)(fp:List Addr):Prop:=∃d d' fd rest,Rep K U H v d fd/\h d=some (r,d')/\fp.Perm (fd++rest)/\
  ∀(H':Hp) (f':List Addr),(∀a o,H a=some o->tf o=true->H' a=some o)->(∀a∈rest,H' a=H a)->Rep K U H' v d' f'->∃fp',Rep K U H' v0 d0' fp'/\fp'.Perm (f'++rest)
theorem focus{α:Type}{h:D->Option (α×D)}{r:α}{p:List Ps1}:∀{v0 v:V} {d0 d0':D} {fp:List Addr},Rep K U H v0 d0 fp->fL h d0 p=some (r,d0')->At H v0 p v->Foc K U H h r v v0 d0' fp:=by
 induction p with
 |nil=>
  intro v0 v d0 d0' fp R e a
  rw [fL] at e
  cases(show v=v0 from a)
  exact⟨d0,d0',fp,[],R,e,by rw [Zq],fun H' f' t k r=>⟨f',r,by rw [Zq]⟩⟩
 | cons s p ih=>
  intro v0 v d0 d0' fp R e a
  have deep:∀(b:Addr) (vs:List V) (xs:List D) (n:Nat) (d1 d2:D) (v1:V) (g:List Addr),fp=b::g->Reps K U H vs xs g->xs[n]? =some d1->vs[n]? =some v1->fL h d1 p=some (r,d2)->At H v1 p v->(∀(H':Hp) (g2:List Addr),H' b=H b->Reps K U H' vs (xs.set n d2) g2->Rep K U H' v0 d0' (b::g2))->
    Foc K U H h r v v0 d0' fp:=fun b vs xs n d1 d2 v1 g ef hs h1 e3 h3 e4 mk=>by
   subst ef
   obtain⟨f1,rest1,k1,k2,k3⟩:=hs.focus h1 e3
   obtain⟨d,d',fd,rest,m1,m2,m3,m4⟩:=ih k1 h3 e4
   refine⟨d,d',fd,b::(rest++rest1),m1,m2,zv8 k2 m3,fun H' f' t k rr=> ?_⟩
   obtain⟨g1,q1,q2⟩:=m4 H' f' t (fun a ha=>k a (Z1 _ (Zj _ ha))) rr
   obtain⟨g2,q3,q4⟩:=k3 H' d2 g1 t (fun a ha=>k a (Z1 _ (Z7 _ ha))) q1
   exact⟨b::g2,mk H' g2 (k b Z0) q3,zv8 q4 q2⟩
  cases s with
  |ix n=>
   obtain⟨b,vs,v1,e1,e2,e3,e4⟩:=a
   subst e1
   obtain⟨xs,d1,d2,rfl,h1,h3,rfl⟩:=yp0 e
   obtain⟨_,_,g,e5,hb,hs,ef⟩:=R.lstT_inv
   cases e5
   rw [e2] at hb;cases hb
   exact deep b vs xs n d1 d2 v1 g ef hs h1 e3 h3 e4 fun H' g2 k q3=> .lst (k.trans e2) q3
  |fld f=>
   obtain⟨b,C,dx,fs,n,v1,e1,e2,e2',e3,e4⟩:=a
   subst e1
   obtain⟨C',ns,xs,n',d1,d2,rfl,h0,h1,h3,rfl⟩:=ye8 e
   obtain⟨_,_,_,g,e5,hb,hn,hs,ef⟩:=R.objT_inv
   cases e5
   rw [e2] at hb;cases hb
   subst hn
   rw [e2'] at h0;cases h0
   exact deep b _ xs n d1 d2 v1 g ef hs h1 e3 h3 e4 fun H' g2 k q3=> .obj (k.trans e2) rfl q3
end
theorem wM(R:RS φ H σ ps F)(s1:SameK H H1)(hb:φ.bor j=false)(e0:ps[j]? =some (some d0))(ev:σ[j]? =some (some v0))
  (em:fL h d0 p=some (r,d0')) (at_:At H1 v0 p v):∃d d' fd,Rep φ.K φ.U H1 v d fd/\h d=some (r,d')/\fd.Nodup/\(∀a∈fd,a∈F j)/\
  ∀(H':Hp) (fd' fr:List Addr),(∀a o,H1 a=some o->kd o=true->a∉fd->H' a=some o)->(∀a,H' a=none->H1 a=none)->Rep φ.K φ.U H' v d' fd'->(fd'++fr).Nodup->(∀a∈fd'++fr,a∈fd\/H a=none)->
   ∃F',Stp φ σ H F σ H' (ps.set j (some d0')) F'/\OwnV F H F' fr:=by
 obtain⟨v0',fp,h1,h2,h3,_⟩:=R.rep j d0 e0
 rw [ev] at h1;cases h1
 have h3:=h3 hb
 subst h3
 obtain⟨d,d',fd,rest,m1,m2,m3,m4⟩:=focus (h2.same s1) em at_
 have ndF:=R.nd j
 have ndp:(fd++rest).Nodup:=m3.nodup_iff.mp ndF
 obtain⟨nd1,nd2,nd3⟩:=ZI.mp ndp
 have inF:∀a,a∈fd\/a∈rest->a∈F j:=fun a ha=>m3.mem_iff.mpr (Zk.mpr ha)
 refine⟨d,d',fd,m1,m2,nd1,fun a ha=>inF a (.inl ha),fun H' fd' fr k1 k2 k3 k4 k5=> ?_⟩
 have tfk:∀a o,H1 a=some o->tf o=true->H' a=some o:=fun a o ha t=>k1 a o ha (nO t) fun hm=>by
  obtain⟨o',q,_,q'⟩:=m1.own a hm
  rw [ha] at q;cases q;rw [t] at q';cases q'
 have keepO:∀a,(∃i,a∈F i)->a∉fd->H' a=H1 a:=fun a ⟨i,hi⟩ hn=>by
  obtain⟨o,q,q',_⟩:=R.own hi
  have q1:=s1.keep a o q q'
  rw [q1];exact k1 a o q1 q' hn
 have notfd:∀a,a∈rest->a∉fd:=fun a hr hf=>nd3 a hf a hr rfl
 obtain⟨fp',r1,r2⟩:=m4 H' fd' tfk (fun a ha=>keepO a ⟨j,inF a (.inr ha)⟩ (notfd a ha)) k3
 obtain⟨kd1,kd2,kd3⟩:=ZI.mp k4
 have memfp:∀a,a∈fp'->a∈fd'\/a∈rest:=fun a ha=>Zk.mp (r2.mem_iff.mp ha)
 have lt:j<ps.length:=(Z4.mp e0).1
 have old:∀a,a∈fd'++fr->∀i,a∈F i->a∈fd:=fun a ha i hi=>(k5 a ha).elim id fun z=>by
  obtain⟨o,q,_⟩:=R.own hi
  rw [z] at q;cases q
 refine⟨wA F j fp',⟨⟨fun a o ha hk hn=> ?_,fun a ha=>s1.grow a (k2 a ha)⟩,fun i a ha=> ?_,⟨fun i d2 hi=> ?_,fun i a ha=> ?_,fun i k a ha hk=> ?_,fun i=> ?_,fun i a ha kk hB=> ?_,fun kk a hB z=>R.bt kk a hB (s1.grow a (k2 a z)),by simpa using R.len⟩,fun _ _=>rfl⟩,⟨fun a ha=> ?_,kd2,fun i a ha hr=> ?_⟩⟩
 ·exact k1 a o (s1.keep a o ha hk) hk fun hm=>hn j (inF a (.inl hm))
 ·rcases kE ha with z|z
  ·rcases memfp a z with z|z
   ·exact(k5 a (Zj _ z)).elim (fun z=> .inl ⟨j,inF a (.inl z)⟩) .inr
   ·exact .inl ⟨j,inF a (.inr z)⟩
  ·exact .inl ⟨i,z⟩
 ·by_cases e:i=j
  ·subst e
   rw [Zy lt] at hi
   cases hi
   exact⟨v0,fp',ev,r1,fun _=>fH.symm,fun z=>by rw [hb] at z;cases z⟩
  ·rw [Zs (fun z=>e z.symm)] at hi
   obtain⟨v2,f2,q1,q2,q3,q4⟩:=R.rep i d2 hi
   refine⟨v2,f2,q1,(q2.same s1).move tfk fun a ha=> ?_,fun z=>by rw [fJ e];exact q3 z,q4⟩
   obtain⟨o,w1,w2,_⟩:=q2.own a ha
   have w3:=s1.keep a o w1 w2
   rw [w3]
   refine k1 a o w3 w2 fun hm=> ?_
   have hF:=inF a (.inl hm)
   cases hbi:φ.bor i with
   |true=>exact R.nb j a hF i (q4 hbi a ha)
   |false=>rw [q3 hbi] at ha;exact e (R.dis i j a ha hF)
 ·by_cases e:i=j
  ·subst e;exact⟨hb,d0',by rw [Zy lt]⟩
  ·rw [fJ e] at ha
   obtain⟨b1,d1,b2⟩:=R.emp i a ha
   exact⟨b1,d1,by rw [Zs (fun z=>e z.symm)];exact b2⟩
 ·have hh:∀a,a∈fp'->∀i,i≠j->a∈F i->False:=fun a ha i hij hi=>by
   rcases memfp a ha with z|z
   ·exact hij (R.dis i j a hi (inF a (.inl (old a (Zj _ z) i hi))))
   ·exact hij (R.dis i j a hi (inF a (.inr z)))
  by_cases e1:i=j
  ·by_cases e2:k=j
   ·rw [e1,e2]
   ·subst e1;rw [fH] at ha;rw [fJ e2] at hk;exact(hh a ha k e2 hk).elim
  ·by_cases e2:k=j
   ·subst e2;rw [fH] at hk;rw [fJ e1] at ha;exact(hh a hk i e1 ha).elim
   ·rw [fJ e1] at ha;rw [fJ e2] at hk;exact R.dis i k a ha hk
 ·by_cases e:i=j
  ·subst e
   rw [fH]
   refine r2.nodup_iff.mpr (ZI.mpr ⟨kd1,nd2,fun a ha b hb' e=> ?_⟩)
   subst e
   exact notfd a hb' (old a (Zj _ ha) i (inF a (.inr hb')))
  ·rw [fJ e];exact R.nd i
 ·rcases kE ha with z|z
  ·rcases memfp a z with z|z
   ·exact R.notB ((k5 a (Zj _ z)).elim (fun z=> .inl ⟨j,inF a (.inl z)⟩) .inr) kk hB
   ·exact R.nb j a (inF a (.inr z)) kk hB
  ·exact R.nb i a z kk hB
 ·exact(k5 a (Z7 _ ha)).elim (fun z=> .inl ⟨j,inF a (.inl z)⟩) .inr
 ·rcases kE ha with z|z
  ·rcases memfp a z with z|z
   ·exact kd3 a z a hr rfl
   ·exact notfd a z (old a (Z7 _ hr) j (inF a (.inr z)))
  ·have:=old a (Z7 _ hr) i z
   by_cases e:i=j
   ·subst e
    rw [fH] at ha
    rcases memfp a ha with w|w
    ·exact kd3 a w a hr rfl
    ·exact notfd a w this
   ·exact e (R.dis i j a z (inF a (.inl this)))
def oP(K:tz0)(U:tz9)(j:Nat)(pf:PSt->Option (List Ps1)):TE:=fun σ H Q=>∃ps p d0 d,WS K U H σ ps/\ps[j]? =some (some d0)/\pf ps=some p/\jY d0 p=some d/\∀v H' v0,SameK H H'->σ[j]? =some (some v0)->At H' v0 p v->Q v H'
theorem zg8{K:tz0}{U:tz9}{H:Hp}{v0 v:V}{d0 d:D}{fp:List Addr}{p:List Ps1}(R:Rep K U H v0 d0 fp)(g:jY d0 p=some d)(a:At H v0 p v):∃fd,Rep K U H v d fd:=by
 have key:∀{p:List Ps1} {v0 v:V} {d0 d:D} {fp:List Addr},Rep K U H v0 d0 fp->jY d0 p=some d->At H v0 p v->∃fd,Rep K U H v d fd:=by
  intro p
  induction p with
  |nil=>intro v0 v d0 d fp R g a;cases g;cases(show v=v0 from a);exact⟨fp,R⟩
  | cons s p ih=>
   intro v0 v d0 d fp R g a
   cases s with
   |ix n=>
    obtain⟨b,vs,v1,e1,e2,e3,e4⟩:=a
    subst e1
    obtain⟨xs,d1,rfl,h1,h2⟩:=zr2 g
    obtain⟨_,_,_,e5,hb,hs,_⟩:=R.lstT_inv
    cases e5
    rw [e2] at hb;cases hb
    obtain⟨v',f,q1,q2,_⟩:=hs.get h1
    rw [e3] at q1;cases q1
    exact ih q2 h2 e4
   |fld f=>
    obtain⟨b,C,dx,fs,n,v1,e1,e2,e2',e3,e4⟩:=a
    subst e1
    obtain⟨C',ns,xs,n',d1,rfl,h0,h1,h2⟩:=zg7 g
    obtain⟨_,_,_,_,e5,hb,hn,hs,_⟩:=R.objT_inv
    cases e5
    rw [e2] at hb;cases hb
    subst hn
    rw [e2'] at h0;cases h0
    obtain⟨v',f,q1,q2,_⟩:=hs.get h1
    rw [e3] at q1;cases q1
    exact ih q2 h2 e4
 exact key R g a
def bI:PSt->Option (List Ps1):=fun _=>some []
def fM(j:Nat)(pf:PSt->Option (List Ps1))(fb:tz2):PSt->Option (List Ps1):=fun ps=>(pf ps).bind fun p=>((ps[j]?).join).bind fun d0=>(jY d0 p).bind fun d=>(fb ps).bind fun y=>match d,y with
 | .lst true xs,.int i=>(ixN xs.length i).bind fun n=>some (p++[.ix n])
 |_,_=>none
def yb6(j:Nat)(pf:PSt->Option (List Ps1))(C f:Str):PSt->Option (List Ps1):=fun ps=>(pf ps).bind fun p=>((ps[j]?).join).bind fun d0=>(jY d0 p).bind fun d=>match d with
 | .obj true C' _ _=>if C'=C then some (p++[.fld f]) else none
 |_=>none
theorem uA:∀{fs:List (Str×V)} {f:Str} {n:Nat} {v:V},cQ (fs.map (·.1)) f=some n->(fs.map (·.2))[n]? =some v->fs.lookup f=some v
 |[],_,_,_,h,_=>by cases h
 | (g,u)::fs,f,n,v,h,hv=>by
  rw [Z9,cQ] at h
  by_cases e:g=f
  ·rw [if_pos e] at h
   cases h
   rw [ZC]
   have:(f==g)=true:=by simp [e]
   rw [this]
   simpa using hv
  ·rw [if_neg e] at h
   cases q:cQ (fs.map (·.1)) f with
   |none=>rw [q] at h;cases h
   |some m=>
    rw [q] at h;cases h
    rw [ZC]
    have:(f==g)=false:=by simp;exact fun z=>e z.symm
    rw [this]
    exact uA q (by simpa using hv)
section
variable{X:Cx}{φ:F0}{U:tz9}{K:tz0}{o e a b:Expr}{f fb fe:tz2}{g:tz3}{pf:PSt->Option (List Ps1)}{j:Nat}{pos apos:Pos}
theorem bM(j:Nat){x:Str}(hN:X.N[j]? =some x:=by rfl)(hv:Vis X.env.scope x:=by first|exact Or.inl rfl|exact Or.inr (Or.inl rfl)|exact Or.inr (Or.inr rfl))(hd:(x==("__debug__":Str))=false:=by decide)
  (hcd:(x==("__classdict__":Str))=false:=by decide):PE X (.Name x pos) (oP K U j bI):=(qP hN hv hd hcd).imp fun σ H Q hh_=>by
 obtain⟨ps,p,d0,d,w,e0,ep,eg,q⟩:=hh_
 cases ep
 obtain⟨v,fp,h1,h2⟩:=w j d0 e0
 exact⟨v,h1,q v H v (.refl H) h1 rfl⟩
theorem kF(ha:PE X a (oP X.K U j pf))(hb:QV X U b fb)(hs:ze1 b:=by exact fun _ _=>rfl):PE X (.Subscript a b pos) (oP X.K U j (fM j pf fb)):=
 (ya7 zq6 ha hb hs).imp fun σ H Q hh_=>by
  obtain⟨ps,p,d0,d,w,e0,ep,eg,q⟩:=hh_
  obtain⟨p1,e1,e2⟩:=bind_some ep
  obtain⟨d0',e3,e4⟩:=bind_some e2
  have:=join_some e3
  rw [e0] at this;cases this
  obtain⟨d1,e5,e6⟩:=bind_some e4
  obtain⟨y,e7,e8⟩:=bind_some e6
  split at e8
  ·rename_i xs i
   obtain⟨n,e9,e10⟩:=bind_some e8
   cases e10
   refine⟨ps,p1,d0,_,w,e0,e1,e5,fun v H1 v0 s1 ev a1=>⟨ps,_,w.same s1,e7,fun u H2 fq s2 r2=> ?_⟩⟩
   obtain⟨v0',fp,h1,h2⟩:=w j d0 e0
   rw [ev] at h1;cases h1
   obtain⟨fd,rd⟩:=zg8 (h2.same (s1.trans s2)) e5 (a1.same s2)
   obtain⟨l,vs,g,rfl,hl,hr,_⟩:=rd.lstT_inv
   have ln:=hr.length
   have hn:=(zc5 e9).2.1
   obtain⟨v1,hv⟩:∃v1,vs[n]? =some v1:=⟨_,Zn (by rw [ln];exact hn)⟩
   refine⟨l,vs,i,v1,rfl,r2.is_int,.inl (.inl hl),?_,q _ H2 v0 (s1.trans s2) ev (At.snoc_ix hl hv (a1.same s2))⟩
   unfold atI
   rw [ln,e9];exact hv
  ·cases e8
theorem zv9{C fn:Str}(hc:Cls X.K (U C))(hna:cF X.K (U C) fn)(ha:PE X a (oP X.K U j pf))(hb:attributeBase a fn X.env (eval a X.env)=eval a X.env:=by rfl):PE X (.Attribute a fn pos) (oP X.K U j (yb6 j pf C fn)):=
 (wf4 ha hb).imp fun σ H Q hh_=>by
  obtain⟨ps,p,d0,d,w,e0,ep,eg,q⟩:=hh_
  obtain⟨p1,e1,e2⟩:=bind_some ep
  obtain⟨d0',e3,e4⟩:=bind_some e2
  have:=join_some e3
  rw [e0] at this;cases this
  obtain⟨d1,e5,e6⟩:=bind_some e4
  split at e6
  ·rename_i C' ns xs
   obtain⟨hC,e7⟩:=bV e6
   subst hC
   cases e7
   refine⟨ps,p1,d0,_,w,e0,e1,e5,fun v H1 v0 s1 ev a1=> ?_⟩
   obtain⟨v0',fp,h1,h2⟩:=w j d0 e0
   rw [ev] at h1;cases h1
   obtain⟨fd,rd⟩:=zg8 (h2.same s1) e5 a1
   have key:∀{p:List Ps1} {d0:D},jY d0 p=some (.obj true C' ns xs)->jY d0 (p++[.fld fn])=some d->∃n d',cQ ns fn=some n/\xs[n]? =some d':=by
    intro p
    induction p with
    |nil=>
     intro d0 h1 h2
     cases h1
     obtain⟨n,k1,k2⟩:=bind_some h2
     obtain⟨d',k3,_⟩:=bind_some k2
     exact⟨n,d',k1,k3⟩
    | cons s p ih=>
     intro d0 h1 h2
     cases s with
     |ix m=>
      obtain⟨ys,x1,rfl,k1,k2⟩:=zr2 h1
      obtain⟨_,x2,z,k3,k4⟩:=zr2 h2
      cases z
      rw [k1] at k3;cases k3
      exact ih k2 k4
     |fld f'=>
      obtain⟨C2,ns2,ys,m1,x1,rfl,k0,k1,k2⟩:=zg7 h1
      obtain⟨_,_,_,m2,x2,z,k5,k3,k4⟩:=zg7 h2
      cases z
      rw [k0] at k5;cases k5
      rw [k1] at k3;cases k3
      exact ih k2 k4
   obtain⟨n,d',k1,k2⟩:=key e5 eg
   obtain⟨l,dx,fs,g,rfl,hl,hn,hr,_⟩:=rd.objT_inv
   subst hn
   obtain⟨v1,f1,k3,_⟩:=hr.get k2
   exact⟨l,U C',dx,fs,v1,rfl,hl,hc,hna,uA k1 k3,q _ H1 v0 s1 ev (At.snoc_fld hl k1 k3 a1)⟩
  ·cases e6
def dA(j:Nat)(pf:PSt->Option (List Ps1))(g:tz3)(h:List D->D->Option (D×D)):tz8:=fun ps=>((ps[j]?).join).bind fun d0=>(pf ps).bind fun p=>(g ps).bind fun ys=>(fL (h ys) d0 p).bind fun r=>some (r.1,ps.set j (some r.2))
theorem zL(e:dA j pf g h ps=some (d,ps')):∃d0 p ys d0',ps[j]? =some (some d0)/\pf ps=some p/\g ps=some ys/\fL (h ys) d0 p=some (d,d0')/\ps'=ps.set j (some d0'):=by
 obtain⟨d0,e1,e2⟩:=bind_some e
 obtain⟨p,e3,e4⟩:=bind_some e2
 obtain⟨ys,e5,e6⟩:=bind_some e4
 obtain⟨⟨r,d0'⟩,e7,e8⟩:=bind_some e6
 cases e8
 exact⟨d0,p,ys,d0',join_some e1,e3,e5,e7,rfl⟩
def dD:List D->D->Option (D×D)
 |[y],.lst true xs=>if xs.length<sizeLine then some (.non,.lst true (xs++[y])) else none
 |_,_=>none
theorem zM(h:dD ys d=some (r,d')):∃y xs,ys=[y]/\d= .lst true xs/\xs.length<sizeLine/\r= .non/\d'= .lst true (xs++[y]):=by
 unfold dD at h
 split at h
 ·obtain⟨hc,e⟩:=bV h
  cases e
  exact⟨_,_,rfl,rfl,hc,rfl,rfl⟩
 ·cases h
theorem zr3(w:WS K U H σ ps)(s1:SameK H H1)(e0:ps[j]? =some (some d0))(ev:σ[j]? =some (some v0))(g:jY d0 p=some d)(a:At H1 v0 p v):∃fd,Rep K U H1 v d fd:=by
 obtain⟨v0',fp,h1,h2⟩:=w j d0 e0
 rw [ev] at h1;cases h1
 exact zg8 (h2.same s1) g a
theorem lL(hb:φ.bor j=false)(ho:PE X o (oP X.K U j pf))(ha:PA X [e] (tPA X.K U g))
  (hbase:attributeBase o "append" X.env (eval o X.env)=eval o X.env:=by rfl)
  (hfew:((backTo pos (starEach [e] X.env)).all (fun x=> !x.1)&&(backToKw pos (keywordEach [] X.env)).all (fun x=>x.1.isSome)
   &&decide ([e].length+([]:List Keyword).length+(if ([]:List Keyword).isEmpty then 0 else 1)<30))=true:=by rfl)
  (hline:(apos.endLine==pos.line)=true:=by rfl) (hs:starEach [e] X.env=(false,eval e X.env)::starEach [] X.env:=by rfl) (hplain:(backTo pos (starEach [] X.env)).any (·.1)=false:=by rfl):
  QE X U φ (.Call (.Attribute o "append" apos) [e] [] pos) (dA j pf g dD):=
 (xv2 XU PySem.F.slot_list_append PySem.F.type_list_append zu9 ho ha hbase hfew hline hs hplain).imp fun σ H Q hh_=>by
  obtain⟨ps,F,d,ps',R,e,q⟩:=hh_
  obtain⟨d0,p,ys,d0',e0,ep,eg,em,rfl⟩:=zL e
  obtain⟨dd,dn,gp,hh⟩:=nP em
  refine⟨ps,p,d0,dd,R.ws,e0,ep,gp,fun v H1 v0 s1 ev a1=>⟨?_,ps,ys,R.ws.same s1,eg,fun vs H2 fy s2 n2 nd2 r2=> ?_⟩⟩
  ·obtain⟨y,xs,rfl,rfl,_⟩:=zM hh
   obtain⟨fd,rd⟩:=zr3 R.ws s1 e0 ev gp a1
   obtain⟨_,_,_,rfl,hl,hr,rfl⟩:=rd.lstT_inv
   exact .inl ⟨rfl,_,.inl (.inl hl)⟩
  ·obtain⟨d1,d1',fd,m1,m2,m3,m4,m5⟩:=wM R (s1.trans s2) hb e0 ev em (a1.same s2)
   obtain⟨y,xs,rfl,rfl,hz,rfl,rfl⟩:=zM m2
   obtain⟨u,rfl,ru⟩:=r2.one_inv
   obtain⟨l,us,g1,rfl,hl,hr,rfl⟩:=m1.lstT_inv
   have ln:=hr.length
   refine⟨l,us,u,rfl,rfl,hl,by omega,?_⟩
   have nl:l∉fy:=fun z=>by have:=n2 l z;have:=s1.keep l;obtain⟨o,h1,h2,_⟩:=R.own (m4 l Z0);have:=s1.keep l o h1 h2;rw [n2 l z] at this;cases this
   obtain⟨nl2,nd3⟩:=Zu.mp m3
   have up:∀a,a≠l->upd H2 l (.lst (us++[u])) a=H2 a:=fun a h=>bK h
   have tfk:∀a o,H2 a=some o->tf o=true->upd H2 l (.lst (us++[u])) a=some o:=fun a o h t=>by
    rw [up a]
    ·exact h
    ·rintro rfl;rw [hl] at h;cases h;cases t
   obtain⟨F',st,ow⟩:=m5 (upd H2 l (.lst (us++[u]))) (l::(g1++fy)) [] (fun a o h _ hn=>by rw [up a (fun z=>hn (z▸Z0))];exact h)
    (fun a h=>by
     by_cases z:a=l
     ·subst z;rw [cX] at h;cases h
     ·rw [up a z] at h;exact h)
    (.lst cX (Reps.append (hr.move tfk fun a ha=>up a fun z=>nl2 (z▸ha)) (Reps.one (ru.move tfk fun a ha=>up a fun z=>nl (z▸ha)))))
    (by
     rw [Zq,Zu,ZI]
     refine⟨fun z=>(Zk.mp z).elim nl2 nl,nd3,nd2,fun a ha b hb e=> ?_⟩
     subst e
     obtain⟨o,h1,h2,_⟩:=R.own (m4 a (Z1 _ ha))
     have:=s1.keep a o h1 h2
     rw [n2 a hb] at this;cases this)
    (fun a ha=>by
     rw [Zq] at ha
     rcases Z2.mp ha with z|z
     ·exact .inl (z▸Z0)
     ·rcases Zk.mp z with z|z
      ·exact .inl (Z1 _ z)
      ·exact .inr (s1.grow a (n2 a z)))
   exact q .non _ F' [] st ow .non
end
section
variable{K:tz0}{U:tz9}{H:Hp}{l:Addr}{o0 o:HO}
theorem xe4(hl:H l=some o0)(ht:tf o0=false):∀a u,H a=some u->tf u=true->upd H l o a=some u:=fun a u h t=>by
 rw [bK]
 ·exact h
 ·rintro rfl;rw [hl] at h;cases h;rw [ht] at t;cases t
theorem Rep.updL(r:Rep K U H v d g)(hl:H l=some o0)(ht:tf o0=false)(n:l∉g):Rep K U (upd H l o) v d g:=r.move (xe4 hl ht) fun a ha=>bK fun z=>n (z▸ha)
theorem Reps.updL(r:Reps K U H v d g)(hl:H l=some o0)(ht:tf o0=false)(n:l∉g):Reps K U (upd H l o) v d g:=r.move (xe4 hl ht) fun a ha=>bK fun z=>n (z▸ha)
theorem xH(h:H a=some u)(n:a∉l::g):upd H l o a=some u:=by
 rw [bK (fun z=>n (by rw [z];exact Z0))];exact h
theorem pM(h:upd H l o a=none):H a=none:=by
 by_cases z:a=l
 ·subst z;rw [cX] at h;cases h
 ·rw [bK z] at h;exact h
theorem Reps.pop:∀{vs:List V} {ds:List D} {g:List Addr} {d:D},Reps K U H vs ds g->ds[ds.length-1]? =some d->∃v g1 f,vs[vs.length-1]? =some v/\Rep K U H v d f/\Reps K U H vs.dropLast ds.dropLast g1/\g=g1++f
 |_,_,_,_,.nil,e=>by simp at e
 |_,[d1],_,d,.cons (f:=f) h .nil,e=>by
  have e':d1=d:=by simpa using e
  subst e'
  exact⟨_,[],f,by simp,h,.nil,by simp⟩
 |v::v2::vs,d1::d2::ds,_,d,.cons (f:=f) h (.cons (f:=f2) (g:=g2) h2 hs),e=>by
  obtain⟨w,g1,f',k1,k2,k3,k4⟩:=Reps.pop (.cons h2 hs) (d:=d) (by simpa using e)
  refine⟨w,f++g1,f',by simpa using k1,k2,?_,by rw [Zt,<-k4]⟩
  rw [Wg,Wg]
  exact .cons h k3
theorem Reps.setV:∀{vs:List V} {ds:List D} {g:List Addr} {n:Nat} {v':V} {d':D} {f':List Addr},Reps K U H vs ds g->n<ds.length->Rep K U H v' d' f'->∃f1 rest g',g.Perm (f1++rest)/\Reps K U H (vs.set n v') (ds.set n d') g'/\g'.Perm (f'++rest)
 |_,_,_,_,_,_,_,.nil,e,_=>by simp at e
 |_,_,_,0,_,_,f',.cons (f:=f) (g:=g) h hs,_,r=>⟨f,g,f'++g,.refl _,.cons r hs,.refl _⟩
 | _,_,_,n+1,_,_,f',.cons (f:=f) (g:=g) h hs,e,r=>by
  obtain⟨f1,rest,g',h1,h2,h3⟩:=Reps.setV (n:=n) hs (by simpa using e) r
  refine⟨f1,f++rest,f++g',?_,.cons h h2,?_⟩
  ·refine(h1.append_left f).trans ?_
   rw [<-Zt,<-Zt]
   exact Yx.append_right rest
  ·refine(h3.append_left f).trans ?_
   rw [<-Zt,<-Zt]
   exact Yx.append_right rest
end
section
variable{X:Cx}{φ:F0}{U:tz9}{K:tz0}{o e a b:Expr}{f fi fe:tz2}{g:tz3}{pf:PSt->Option (List Ps1)}{j:Nat}{pos apos:Pos}
def oQ:List D->D->Option (D×D)
 |[],.lst true xs=>(xs[xs.length-1]?).bind fun y=>some (y,.lst true xs.dropLast)
 |_,_=>none
theorem zw0(h:oQ ys d=some (r,d')):∃xs,ys=[]/\d= .lst true xs/\xs[xs.length-1]? =some r/\d'= .lst true xs.dropLast:=by
 unfold oQ at h
 split at h
 ·obtain⟨y,h1,h2⟩:=bind_some h
  cases h2
  exact⟨_,rfl,rfl,h1,rfl⟩
 ·cases h
theorem wh6(hb:φ.bor j=false)(ho:PE X o (oP X.K U j pf))
  (hbase:attributeBase o "pop" X.env (eval o X.env)=eval o X.env:=by rfl) (hline:(apos.endLine==pos.line)=true:=by rfl):QE X U φ (.Call (.Attribute o "pop" apos) [] [] pos) (dA j pf aE oQ):=
 (wg0 XU PySem.F.slot_list_pop PySem.F.type_list_pop wg1 ho hbase hline).imp fun σ H Q hh_=>by
  obtain⟨ps,F,d,ps',R,e,q⟩:=hh_
  obtain⟨d0,p,ys,d0',e0,ep,eg,em,rfl⟩:=zL e
  cases eg
  obtain⟨dd,dn,gp,hh⟩:=nP em
  refine⟨ps,p,d0,dd,R.ws,e0,ep,gp,fun v H1 v0 s1 ev a1=>⟨?_,?_⟩⟩
  ·obtain⟨xs,_,rfl,_⟩:=zw0 hh
   obtain⟨fd,rd⟩:=zr3 R.ws s1 e0 ev gp a1
   obtain⟨_,_,_,rfl,hl,hr,rfl⟩:=rd.lstT_inv
   exact .inl ⟨rfl,_,.inl (.inl hl)⟩
  ·obtain⟨d1,d1',fd,m1,m2,m3,m4,m5⟩:=wM R s1 hb e0 ev em a1
   obtain⟨xs,_,rfl,hx,rfl⟩:=zw0 m2
   obtain⟨l,us,g1,rfl,hl,hr,rfl⟩:=m1.lstT_inv
   obtain⟨u,g2,f2,k1,k2,k3,rfl⟩:=hr.pop hx
   obtain⟨nl,nd3⟩:=Zu.mp m3
   have n1:l∉g2:=fun z=>nl (Zj _ z)
   have n2:l∉f2:=fun z=>nl (Z7 _ z)
   refine⟨l,us,u,rfl,rfl,hl,k1,?_⟩
   obtain⟨F',st,ow⟩:=m5 (upd H1 l (.lst us.dropLast)) (l::g2) f2 (fun a o h _ hn=>xH h hn)
    (fun a h=>pM h)
    (.lst cX (k3.updL hl rfl n1)) (by rw [ZP,Zu];exact⟨nl,nd3⟩) (fun a ha=> .inl ha)
   exact q u _ F' f2 st ow (k2.updL hl rfl n2)
def eU:D->D->D->Option (Unit×D)
 | .int i,y,.lst true xs=>(ixN xs.length i).bind fun n=>some ((),.lst true (xs.set n y))
 |_,_,_=>none
def dE(j:Nat)(pf:PSt->Option (List Ps1))(fi fe:tz2):tz1:=fun ps=>(fe ps).bind fun y=>((ps[j]?).join).bind fun d0=>(pf ps).bind fun p=>(fi ps).bind fun i=>(fL (eU i y) d0 p).bind fun r=>some (.nx,ps.set j (some r.2))
theorem ym3(h:eU i y d=some (r,d')):∃k xs n,i= .int k/\d= .lst true xs/\ixN xs.length k=some n/\d'= .lst true (xs.set n y):=by
 unfold eU at h
 split at h
 ·obtain⟨n,h1,h2⟩:=bind_some h
  cases h2
  exact⟨_,_,n,rfl,rfl,h1,rfl⟩
 ·cases h
theorem uB(hb:φ.bor j=false)(he:PE X e (tP X.K U fe))(ho:PE X o (oP X.K U j pf))(hi:PE X i (tV X.K U fi))(hs:swapsWithSole [.Subscript o i apos] e pos.line X.env=pure false:=by rfl)(hw:swappedStores [.Subscript o i apos] e X.env=pure none:=by rfl)
  (h1:(assignEach [.Subscript o i apos] X.env).map (·.2)=[assign (.Subscript o i apos) X.env]:=by rfl)
  (ha:∀v,assign (.Subscript o i apos) X.env v=(do
   let ov<-holding [v] (eval o X.env)
   let iv<-holding [v,ov] (eval i X.env)
   standAt apos
   holding [v,ov,iv] (setItem ov iv v)
   release [v,ov,iv] []):=by intro _;rfl):QS X U φ (.Assign [.Subscript o i apos] e pos) (dE j pf fi fe):=
 (xa6 he (we8 ho hi xm7 ha) hs hw h1).imp fun E σ H hh_=>by
  obtain⟨ps,F,fl,ps',R,e,q⟩:=hh_
  obtain⟨y,e1,e2⟩:=bind_some e
  obtain⟨d0,e3,e4⟩:=bind_some e2
  have e0:=join_some e3
  obtain⟨p,e5,e6⟩:=bind_some e4
  obtain⟨iv,e7,e8⟩:=bind_some e6
  obtain⟨⟨r,d0'⟩,em,e9⟩:=bind_some e8
  cases e9
  obtain⟨dd,dn,gp,hh⟩:=nP em
  refine⟨ps,y,R.ws,e1,fun v H1 fy s1 n1 nd1 ry=>⟨ps,p,d0,dd,R.ws.same s1,e0,e5,gp,fun lv H2 v0 s2 ev a2=>⟨ps,iv,(R.ws.same s1).same s2,e7,fun u H3 fu s3 r3=> ?_⟩⟩⟩
  have s13:=(s1.trans s2).trans s3
  obtain⟨d1,d1',fd,m1,m2,m3,m4,m5⟩:=wM R s13 hb e0 ev em (a2.same s3)
  obtain⟨k,xs,n,rfl,rfl,hn,rfl⟩:=ym3 m2
  obtain⟨l,us,g1,rfl,hl,hr,rfl⟩:=m1.lstT_inv
  have ln:=hr.length
  have ry3:=(ry.same s2).same s3
  obtain⟨nl,nd3⟩:=Zu.mp m3
  have own0:∀a∈l::g1,H a≠none:=fun a ha z=>by obtain⟨o,h,_⟩:=R.own (m4 a ha);rw [z] at h;cases h
  have nl2:l∉fy:=fun z=>own0 l Z0 (n1 l z)
  obtain⟨f1,rest,g2,k1,k2,k3⟩:=hr.setV (n:=n) (zc5 hn).2.1 ry3
  have mem2:∀a∈g2,a∈fy\/a∈g1:=fun a ha=>(Zk.mp (k3.mem_iff.mp ha)).elim .inl fun z=> .inr (k1.mem_iff.mpr (Z7 _ z))
  have n2:l∉g2:=fun z=>(mem2 l z).elim nl2 nl
  refine⟨l,us,k,n,rfl,r3.is_int,hl,by rw [ln];exact hn,?_⟩
  obtain⟨F',st,ow⟩:=m5 (upd H3 l (.lst (us.set n v))) (l::g2) [] (fun a o h _ hn=>xH h hn)
   (fun a h=>pM h)
   (.lst cX (k2.updL hl rfl n2))
   (by
    rw [Zq,Zu]
    refine⟨n2,k3.nodup_iff.mpr (ZI.mpr ⟨nd1,?_,fun a ha b hb e=> ?_⟩)⟩
    ·exact(ZI.mp (k1.nodup_iff.mp nd3)).2.1
    ·subst e
     exact own0 a (Z1 _ (k1.mem_iff.mpr (Z7 _ hb))) (n1 a ha))
   (fun a ha=>by
    rw [Zq] at ha
    rcases Z2.mp ha with z|z
    ·exact .inl (by rw [z];exact Z0)
    ·exact(mem2 a z).elim (fun z=> .inr (n1 a z)) fun z=> .inl (Z1 _ z))
  exact q _ _ F' st
end
section
variable{φ:Fx}{H H1:Hp}{σ σ1:St}{ps ps1:PSt}{F F1:Nat->List Addr}
theorem Stp.set'(s1:Stp φ σ H F σ1 H1 ps1 F1)(o:OwnV F H F1 fv)(R:RS φ H σ ps F)(r:Rep φ.K φ.U H1 v d fv)(hb:φ.bor i=false\/fv=[])(hm:φ.M i=false):
  ∃F',Stp φ σ H F (σ1.set i (some v)) H1 (ps1.set i (some d)) F'/\∀k a,a∈F' k->a∈fv\/a∈F1 k:=by
 refine⟨_,⟨s1.fr,fun j a h=> ?_,s1.rs.set r hb (fun j _=>o.dis j) o.nd fun a ha=>R.notB (o.nw a ha),fun j h=> ?_⟩,fun k a h=> ?_⟩
 ·rcases kE h with z|z
  ·by_cases k:i<ps1.length
   ·rw [if_pos k] at z;exact o.nw a z
   ·rw [if_neg k] at z;exact absurd z (by simp)
  ·exact s1.nw j a z
 ·rw [Zs (fun z=>by subst z;rw [hm] at h;cases h)]
  exact s1.msk j h
 ·rcases kE h with z|z
  ·by_cases k:i<ps1.length
   ·rw [if_pos k] at z;exact .inl z
   ·rw [if_neg k] at z;exact absurd z (by simp)
  ·exact .inr z
def setN:St->List Nat->List V->St
 |σ,i::is,v::vs=>setN (σ.set i (some v)) is vs
 |σ,_,_=>σ
def oR:PSt->List Nat->List D->PSt
 |ps,i::is,d::ds=>oR (ps.set i (some d)) is ds
 |ps,_,_=>ps
def wZ:List Nat->TGs
 |[]=>wl1
 |i::is=>xv9 (yE i) (wZ is)
theorem uY:∀{is:List Nat} {vs:List V} {σ:St},vs.length=is.length->Q (setN σ is vs) H->wZ is vs σ H Q
 |[],[],σ,_,q=>⟨rfl,q⟩
 |i::is,v::vs,σ,h,q=>⟨v,vs,rfl,uY (is:=is) (by simpa using h) q⟩
 |[],_::_,_,h,_=>by simp at h
 |_::_,[],_,h,_=>by simp at h
theorem Stp.setN(R:RS φ H σ ps F):∀{is:List Nat} {vs:List V} {ds:List D} {g:List Addr} {σ1:St} {ps1:PSt} {F1:Nat->List Addr},Stp φ σ H F σ1 H1 ps1 F1->OwnV F H F1 g->Reps φ.K φ.U H1 vs ds g->(∀i∈is,φ.bor i=false/\φ.M i=false)->
  ∃F',Stp φ σ H F (L2.setN σ1 is vs) H1 (oR ps1 is ds) F':=by
 intro is
 induction is with
 |nil=>intro vs ds g σ1 ps1 F1 s _ _ _;exact⟨F1,by simpa [L2.setN,oR] using s⟩
 | cons i is ih=>
  intro vs ds g σ1 ps1 F1 s o r hi
  cases ds with
  |nil=>cases r;exact⟨F1,by simpa [L2.setN,oR] using s⟩
  |cons d ds=>
   obtain⟨v,us,f,g',rfl,h,hs,rfl⟩:=r.split
   obtain⟨nd1,nd2,nd3⟩:=ZI.mp o.nd
   obtain⟨F2,s2,hF⟩:=s.set' (i:=i) (fv:=f) ⟨fun a ha=>o.nw a (Zj _ ha),nd1,fun k a ha hf=>o.dis k a ha (Zj _ hf)⟩ R h (.inl (hi i Z0).1) (hi i Z0).2
   refine ih s2 ⟨fun a ha=>o.nw a (Z7 _ ha),nd2,fun k a ha hg=> ?_⟩ hs fun k hk=>hi k (Z1 _ hk)
   rcases hF k a ha with z|z
   ·exact nd3 a z a hg rfl
   ·exact o.dis k a z (Z7 _ hg)
end
def yH:D->Option (List D)
 | .lst _ ds=>some ds
 | .tup ds=>some ds
 |_=>none
def rZ(is:List Nat)(f:tz8):tz1:=fun ps=>(f ps).bind fun r=>(yH r.1).bind fun ds=>if ds.length=is.length then some (.nx,oR r.2 is ds) else none
section
variable{X:Cx}{U:tz9}{φ:F0}{es:List Expr}{pos p:Pos}{k:Nat}{is:List Nat}{e:Expr}{f:tz8}
theorem xe5(hc:X.calm=true)(h:PGs X es t)
  (hn:(assignEach es X.env).length=n:=by rfl) (hst:(assignEach es X.env).findIdx? (·.1)=none:=by rfl):PG X (.Tuple es k pos) (fun v σ H Q=>xt9 X.K n t v σ H Q\/xt4 X.K n t v σ H Q):=⟨by
 intro pins s σ H v u Q I r hw
 rcases hw with hw|hw
 ·exact wg8 hc h hn hst pins s σ H v u Q I r hw
 ·exact we7 hc h hn hst pins s σ H v u Q I r hw⟩
theorem xe6(hc:X.calm=true)(hg:PGs X es (wZ is))(he:QE X U φ e f)(hb:∀i∈is,φ.bor i=false/\φ.M i=false)(hn:(assignEach es X.env).length=is.length:=by rfl)(hst:(assignEach es X.env).findIdx? (·.1)=none:=by rfl)
  (hs:swapsWithSole [.Tuple es k p] e pos.line X.env=pure false:=by rfl) (hw:swappedStores [.Tuple es k p] e X.env=pure none:=by rfl)
  (h1:(assignEach [.Tuple es k p] X.env).map (·.2)=[assign (.Tuple es k p) X.env]:=by rfl):QS X U φ (.Assign [.Tuple es k p] e pos) (rZ is f):=
 (xa6 he (xe5 (n:=is.length) hc hg hn hst) hs hw h1).imp fun E σ H hh_=>by
  obtain⟨ps,F,fl,ps',R,e,q⟩:=hh_
  obtain⟨⟨d,ps1⟩,e1,e2⟩:=bind_some e
  obtain⟨ds,e3,e4⟩:=bind_some e2
  obtain⟨hl,e5⟩:=bV e4
  cases e5
  refine⟨ps,F,d,ps1,R,e1,fun v H' F' fv s o r=> ?_⟩
  cases d with
  |lst ow xs=>
   cases e3
   obtain⟨a,vs,g,rfl,h,hs,sub⟩:=r.lst_inv
   have ln:=hs.length
   obtain⟨F2,s2⟩:=Stp.setN R s ⟨fun a ha=>o.nw a (sub.subset ha),o.nd.sublist sub,fun k a ha hg=>o.dis k a ha (sub.subset hg)⟩ hs hb
   exact .inl ⟨a,vs,rfl,.inl h,by omega,uY (by omega) (q _ _ F2 s2)⟩
  |tup xs=>
   cases e3
   obtain⟨a,vs,rfl,h,hs⟩:=r.tup_inv
   have ln:=hs.length
   obtain⟨F2,s2⟩:=Stp.setN R s ⟨fun a ha=>absurd ha (by simp),Zr,fun k a ha hg=>absurd hg (by simp)⟩ hs hb
   exact .inr ⟨a,vs,rfl,h,by omega,uY (by omega) (q _ _ F2 s2)⟩
  |_=>cases e3
end
def D.key:D->Option Key
 | .int i=>some (.inl i)
 | .str x=>some (.inr x)
 |_=>none
theorem zr4{K:tz0}{U:tz9}{H:Hp}{v:V}{d:D}{fp:List Addr}{k:Key}(r:Rep K U H v d fp)(h:d.key=some k):v=kV k:=by
 cases r<;>first|(cases h;rfl)|cases h
def oS:List Key->List D->Key->Option D
 |k::ks,d::ds,j=>if k=j then some d else oS ks ds j
 |_,_,_=>none
def gZ:D->D->Option D
 | .dic _ ks ds,y=>y.key.bind fun k=>oS ks ds k
 |_,_=>none
theorem ye9{K:tz0}{U:tz9}{H:Hp}:∀{kvs:List (Key×V)} {ks:List Key} {ds:List D} {g:List Addr} {k:Key} {d:D},kvs.map (·.1)=ks->Reps K U H (kvs.map (·.2)) ds g->oS ks ds k=some d->∃v f,pR kvs k=some v/\Rep K U H v d f/\f.Sublist g
 |[],_,_,_,_,_,e,r,h=>by subst e;cases r;cases h
 | (k0,v0)::kvs,_,_,_,k,d,e,.cons (f:=f) (g:=g) h hs,q=>by
  subst e
  rw [Z9,oS] at q
  by_cases z:k0=k
  ·rw [if_pos z] at q
   cases q
   exact⟨v0,f,tW z,h,XO _ _⟩
  ·rw [if_neg z] at q
   obtain⟨v,f',q1,q2,q3⟩:=ye9 rfl hs q
   exact⟨v,f',by rw [tY z];exact q1,q2,q3.trans (XI _ _)⟩
theorem Rep.dic_inv{K:tz0}{U:tz9}{H:Hp}{v:V}{o:Bool}{ks:List Key}{ds:List D}{fp:List Addr}(r:Rep K U H v (.dic o ks ds) fp):∃a kvs g,v= .ref a/\Rd H a (.dK kvs)/\kvs.map (·.1)=ks/\Reps K U H (kvs.map (·.2)) ds g/\g.Sublist fp:=by
 cases r with
 |dic h e hs=>exact⟨_,_,_,rfl,.inl h,e,hs,YY _ _⟩
 |dicF h e hs=>exact⟨_,_,_,rfl,.inr ⟨_,h⟩,e,hs,.refl _⟩
section
variable{X:Cx}{U:tz9}{a b:Expr}{fa fb:tz2}{pos:Pos}
theorem xz1{K:tz0}{H:Hp}{x y:V}{dx dy d:D}{fx fy:List Addr}{Q:VK}(r1:Rep K U H x dx fx)(r2:Rep K U H y dy fy)(e:gZ dx dy=some d)(q:∀v f,Rep K U H v d f->f.Sublist fx->Q v H):∃a v,x= .ref a/\zt8 H a y (some v)/\Q v H:=by
 cases dx with
 |dic o ks ds=>
  obtain⟨k,e1,e2⟩:=bind_some e
  obtain⟨a,kvs,g,rfl,h,hk,hs,sub⟩:=r1.dic_inv
  obtain⟨v,f,q1,q2,q3⟩:=ye9 hk hs e2
  exact⟨a,v,rfl,.inl ⟨kvs,k,h,zr4 r2 e1,q1.symm⟩,q v f q2 (q3.trans sub)⟩
 |_=>cases e
theorem tH(hu:X.A.units+1<cLine)(ha:QV X U a fa)(hb:QV X U b fb)(hs:xt8 b:=by exact fun _ _=>rfl):QV X U (.Subscript a b pos) (f2 gZ fa fb):=
 (xy4 hu ha hb hs).imp fun σ H Q hh_=>by
  obtain⟨ps,d,w,e,q⟩:=hh_
  obtain⟨x,y,e1,e2,e3⟩:=wJ e
  exact⟨ps,x,w,e1,fun v H1 fp s1 r1=>⟨ps,y,w.same s1,e2,fun u H2 fq s2 r2=>xz1 (r1.same s2) r2 e3 fun v f r _=>q v H2 f (s1.trans s2) r⟩⟩
end
def fxE(K:tz0)(U:tz9)(np:Nat)(m:Nat->Bool):Fx:=⟨K,U,fun i=>decide (i<np)&& !m i,m,fun _ _=>False⟩
def f0E(np:Nat)(m:Nat->Bool):F0:=⟨fun i=>decide (i<np)&& !m i,m,fun _ _=>False⟩
def SpE(np:Nat)(K:tz0)(U:tz9)(m:Nat->Bool)(g:tz7):Sp:=fun vs H Q _=>vs.length=np/\∃ds r ds' F,ds.length=np/\RS (fxE K U np m) H (vs.map some) (ds.map some) F/\g ds=some (r,ds')/\
 ∀v H' F' fv,Stp (fxE K U np m) (vs.map some) H F (vs.map some) H' (ds'.map some) F'->OwnV F H F' fv->Rep K U H' v r fv->Q v H'
def zi9(m:Nat->Bool)(ps:PSt):Nat->List D->Option (List D)
 |_,[]=>some []
 |i,d::ds=>(if m i=true then(ps[i]?).join else some d).bind fun d'=>(zi9 m ps (i+1) ds).bind fun ds'=>some (d'::ds')
theorem zw1:∀{ds ds':List D} {i:Nat},zi9 m ps i ds=some ds'->ds'.length=ds.length/\∀(k:Nat) (d':D),ds'[k]? =some d'->(m (i+k)=true->ps[i+k]? =some (some d'))/\(m (i+k)=false->ds[k]? =some d')
 |[],_,_,e=>by cases e;exact⟨rfl,fun k d' h=>by simp at h⟩
 | d::ds,_,i,e=>by
  obtain⟨d1,e1,e2⟩:=bind_some e
  obtain⟨ds1,e3,e4⟩:=bind_some e2
  cases e4
  obtain⟨l,h⟩:=zw1 e3
  refine⟨by simp [l],fun k d' hk=> ?_⟩
  cases k with
  |zero=>
   simp at hk;subst hk
   refine⟨fun z=> ?_,fun z=> ?_⟩
   ·rw [Xl] at z|-;rw [if_pos z] at e1;exact join_some e1
   ·rw [Xl] at z;rw [if_neg (by rw [z];simp)] at e1;simpa using e1
  |succ k=>
   obtain⟨h1,h2⟩:=h k d' (by simpa using hk)
   have ea:i+(k+1)=i+1+k:=by omega
   rw [ea]
   exact⟨h1,fun z=>by simpa using h2 z⟩
def gE(np n:Nat)(m:Nat->Bool)(f:tz1):tz7:=fun ds=>if ds.length=np then(f (ds.map some++List.replicate n none)).bind fun r=>match r with
 |(.ret d,ps)=>(zi9 m ps 0 ds).bind fun ds'=>some (d,ds')
 |(.nx,ps)=>(zi9 m ps 0 ds).bind fun ds'=>some (.non,ds')
 |_=>none
 else none
theorem RS.more(R:RS φ H σ ps F)(hl:ps.length=σ.length)(h2:n<=σ2.length):RS φ H (σ++σ2) (ps++List.replicate n none) F:=by
 refine⟨fun i d h=> ?_,fun i a h=> ?_,R.dis,R.nd,R.nb,R.bt,by simp [hl];omega⟩
 ·by_cases hi:i<ps.length
  ·rw [ZQ hi] at h
   rw [ZQ (by omega)]
   exact R.rep i d h
  ·rw [YJ (by omega),Yq] at h
   split at h<;>cases h
 ·obtain⟨b,d,e⟩:=R.emp i a h
  have hi:=(Z4.mp e).1
  exact⟨b,d,by rw [ZQ hi];exact e⟩
theorem yf0{K:tz0}{U:tz9}{np n:Nat}{m:Nat->Bool}{H H':Hp}{vs:List V}{σ2 σ':St}{ds ds':List D}{ps':PSt}{F F':Nat->List Addr}{fv:List Addr}(hm:∀i,m i=true->i<np)(hl:vs.length=np)(hd:ds.length=np)(R:RS (fxE K U np m) H (vs.map some) (ds.map some) F)
  (s:Stp (fxE K U np m) (vs.map some++σ2) H F σ' H' ps' F') (o:OwnV F H F' fv) (e:zi9 m ps' 0 ds=some ds'):
  ∃F2,Stp (fxE K U np m) (vs.map some) H F (vs.map some) H' (ds'.map some) F2/\OwnV F H F2 fv:=by
 obtain⟨l,ho⟩:=zw1 e
 have sub:∀i a,a∈(if m i=true then F' i else [])->m i=true/\a∈F' i:=fun i a h=>by
  by_cases z:m i=true
  ·rw [if_pos z] at h;exact⟨z,h⟩
  ·rw [if_neg z] at h;exact absurd h (by simp)
 have tfk:∀a u,H a=some u->tf u=true->H' a=some u:=fun a u h t=>s.fr.keep a u h (nO t) fun i hi=>by
  obtain⟨u',h',_,t'⟩:=R.own hi
  rw [h] at h';cases h';rw [t] at t';cases t'
 have mb:∀i,m i=true->(fxE K U np m).bor i=false:=fun i h=>by simp [fxE,h]
 refine⟨fun i=>if m i=true then F' i else [],⟨s.fr,fun i a h=>s.nw i a (sub i a h).2,⟨fun i d h=> ?_,fun i a h=> ?_,fun i j a h1 h2=>s.rs.dis i j a (sub i a h1).2 (sub j a h2).2,fun i=> ?_,fun i a h=>s.rs.nb i a (sub i a h).2,fun _ a h=>h.elim,by simp [l,hl,hd]⟩,fun _ _=>rfl⟩,⟨o.nw,o.nd,fun i a h=>o.dis i a (sub i a h).2⟩⟩
 ·rw [Zd] at h
  cases q:ds'[i]? with
  |none=>rw [q] at h;cases h
  | some d1=>
   rw [q] at h;cases h
   obtain⟨h1,h2⟩:=ho i d q
   rw [YZ] at h1 h2
   by_cases z:m i=true
   ·obtain⟨v,fp,k1,k2,k3,_⟩:=s.rs.rep i d (h1 z)
    refine⟨v,fp,?_,k2,fun _=>by rw [if_pos z];exact k3 (mb i z),fun w=>by rw [mb i z] at w;cases w⟩
    rw [<-k1]
    have:=s.msk i z
    rw [this,ZQ (by simp [hl];exact hm i z)]
   ·have zf:m i=false:=by simpa using z
    have hi:(ds.map some)[i]? =some (some d):=by rw [Zd,h2 zf];rfl
    have hib:(fxE K U np m).bor i=true:=by
     have:=(Z4.mp (h2 zf)).1
     simp [fxE,zf];omega
    obtain⟨v,fp,k1,k2,_,k4⟩:=R.rep i d hi
    have efp:fp=[]:=by
     cases fp with
     |nil=>rfl
     |cons a r=>exact(k4 hib a Z0).elim
    subst efp
    exact⟨v,[],k1,k2.move tfk (fun a ha=>absurd ha (by simp)),(fun w=>by rw [hib] at w;cases w),(fun _ a ha=>absurd ha (by simp))⟩
 ·obtain⟨z,h⟩:=sub i a h
  refine⟨mb i z,?_⟩
  have hi:i<ds'.length:=by rw [l,hd];exact hm i z
  exact⟨ds'[i],by rw [Zd,Zn hi];rfl⟩
 ·by_cases z:m i=true
  ·rw [if_pos z];exact s.rs.nd i
  ·rw [if_neg z];exact Zr
section
variable{P:Program}{w:World}{K:tz0}{mg:tzA}{base:Heap}{U:tz9}
theorem jN{x qual:Str}{st:Stmt}{f:Addr}{fd:FuncData}{N ps:List Str}{k:Nat}{fb:tz1}{m:Nat->Bool}(F:Fun K x qual st f fd)(S:FnScope N ps (aT st))(hm:∀i,m i=true->i<ps.length)
  (hbody:∀(cdv:Value) (A:Around) (outer:List Env) (s:Shared) (H:Hp) (E:XK),Room k (A.deeper (envOfC qual (aT st) s.heap.objs.size f cdv))->
   QSs (iU CX0 P w K mg base N qual (aT st) f cdv A outer s H E).nox U (f0E ps.length m) (mM st) fb):
  FnOk P w K mg base CX0 (k+1) f fd ps (SpE ps.length K U m (gE ps.length (N.length-ps.length) m fb)):=by
 refine F.ok S (fun vs H Q E h=>h.1) fun cdv A outer s H vs Q E hr ⟨hl,ds,r,ds',F0,hd,R,e,q⟩=>⟨_,hbody cdv A outer s H E hr,?_⟩
 have hn:ps.length<=N.length:=by have:=ZK List.length S.pre;rw [Yz] at this;omega
 unfold gE at e
 obtain⟨_,e0⟩:=bV e
 obtain⟨⟨fl,ps'⟩,e1,e2⟩:=bind_some e0
 have R0:=R.more (σ2:=List.replicate (N.length-vs.length) none) (n:=N.length-ps.length) (by simp [hl,hd]) (by simp [hl])
 refine⟨_,F0,fl,ps',R0,e1,?_⟩
 cases fl with
 | ret d'=>
  obtain⟨ds1,e3,e4⟩:=bind_some e2
  cases e4
  exact fun v σ' H' F' fv s o rv=>by
   obtain⟨F2,s2,o2⟩:=yf0 (n:=0) hm hl hd R s o e3
   exact q v H' F2 fv s2 o2 rv
 | nx=>
  obtain⟨ds1,e3,e4⟩:=bind_some e2
  cases e4
  exact fun σ' H' F' s=>by
   obtain⟨F2,s2,o2⟩:=yf0 (n:=0) (fv:=[]) hm hl hd R s ⟨fun _ h=>absurd h (by simp),Zr,fun _ _ _ h=>absurd h (by simp)⟩ e3
   exact q .non H' F2 [] s2 o2 .non
 |bk=>cases e2
 |ct=>cases e2
end
set_option genInjectivity true in
inductive Arg where
 |io (j:Nat)|im (f:tz2)
def cC:List Arg->tz3
 |[],_=>some []
 | .io j::as,ps=>((ps[j]?).join).bind fun d=>(cC as ps).bind fun ds=>some (d::ds)
 | .im f::as,ps=>(aY f ps).bind fun d=>(cC as ps).bind fun ds=>some (d::ds)
def mV:List Arg->Nat->Bool
 | .io _::_,0=>true
 |_::as,i+1=>mV as i
 |_,_=>false
def slots:List Arg->List Nat
 |[]=>[]
 | .io j::as=>j::slots as
 | .im _::as=>slots as
def iV:PSt->List Arg->List D->PSt
 |ps,.io j::as,d::ds=>iV (ps.set j (some d)) as ds
 |ps,.im _::as,_::ds=>iV ps as ds
 |ps,_,_=>ps
inductive ArgsAt(K:tz0)(U:tz9)(H:Hp)(σ:St)(ps:PSt):List Arg->List V->List D->Prop
 |nil:ArgsAt K U H σ ps [] [] []
 |io {j:Nat} {as:List Arg} {v:V} {vs:List V} {d:D} {ds:List D}:σ[j]? =some (some v)->ps[j]? =some (some d)->ArgsAt K U H σ ps as vs ds->ArgsAt K U H σ ps (.io j::as) (v::vs) (d::ds)
 |im {f:tz2} {as:List Arg} {v:V} {vs:List V} {d:D} {ds:List D}:Rep K U H v d []->ArgsAt K U H σ ps as vs ds->ArgsAt K U H σ ps (.im f::as) (v::vs) (d::ds)
theorem ArgsAt.len{K:tz0}{U:tz9}{H:Hp}{σ:St}{ps:PSt}:∀{as:List Arg} {vs:List V} {ds:List D},ArgsAt K U H σ ps as vs ds->vs.length=as.length/\ds.length=as.length
 |_,_,_,.nil=>⟨rfl,rfl⟩
 |_,_,_,.io _ _ h=>by have:=h.len;simp [this]
 |_,_,_,.im _ h=>by have:=h.len;simp [this]
theorem ArgsAt.get{K:tz0}{U:tz9}{H:Hp}{σ:St}{ps:PSt}:∀{as:List Arg} {vs:List V} {ds:List D} {i:Nat} {d:D},ArgsAt K U H σ ps as vs ds->ds[i]? =some d->∃v,vs[i]? =some v/\((∃j,as[i]? =some (.io j)/\mV as i=true/\σ[j]? =some (some v)/\ps[j]? =some (some d))\/(mV as i=false/\Rep K U H v d []))
 |_,_,_,_,_,.nil,e=>by simp at e
 |_,_,_,0,_,.io h1 h2 _,e=>by simp at e;subst e;exact⟨_,rfl,.inl ⟨_,rfl,rfl,h1,h2⟩⟩
 |_,_,_,0,_,.im r _,e=>by simp at e;subst e;exact⟨_,rfl,.inr ⟨rfl,r⟩⟩
 |_,_,_,i+1,_,.io _ _ h,e=>by
  obtain⟨v,h1,h2⟩:=ArgsAt.get (i:=i) h (by simpa using e)
  exact⟨v,by simpa using h1,by simpa [mV] using h2⟩
 |_,_,_,i+1,_,.im _ h,e=>by
  obtain⟨v,h1,h2⟩:=ArgsAt.get (i:=i) h (by simpa using e)
  exact⟨v,by simpa using h1,by simpa [mV] using h2⟩
theorem zr5:∀{as:List Arg} {i:Nat},mV as i=true->∃j,as[i]? =some (.io j)
 | .io j::_,0,_=>⟨j,rfl⟩
 | .im _::_,0,h=>by cases h
 | .io _::as,i+1,h=>by obtain⟨j,e⟩:=zr5 (as:=as) (i:=i) h;exact⟨j,by simpa using e⟩
 | .im _::as,i+1,h=>by obtain⟨j,e⟩:=zr5 (as:=as) (i:=i) h;exact⟨j,by simpa using e⟩
 |[],_,h=>by cases h
theorem pN:∀{as:List Arg} {i j:Nat},as[i]? =some (.io j)->mV as i=true
 | .io _::_,0,_,_=>rfl
 | .im _::_,0,_,h=>by simp at h
 | .io _::as,i+1,j,h=>pN (as:=as) (i:=i) (j:=j) (by simpa using h)
 | .im _::as,i+1,j,h=>pN (as:=as) (i:=i) (j:=j) (by simpa using h)
 |[],_,_,h=>by simp at h
theorem jE:∀{as:List Arg} {i j:Nat},as[i]? =some (.io j)->j∈slots as
 | .io _::_,0,_,h=>by simp at h;subst h;exact Z0
 | .im _::_,0,_,h=>by simp at h
 | .io _::as,i+1,j,h=>Z1 _ (jE (as:=as) (i:=i) (by simpa using h))
 | .im _::as,i+1,j,h=>jE (as:=as) (i:=i) (by simpa using h)
 |[],_,_,h=>by simp at h
theorem zN:∀{as:List Arg} {i k j:Nat},(slots as).Nodup->as[i]? =some (.io j)->as[k]? =some (.io j)->i=k
 |[],_,_,_,_,h,_=>by simp at h
 |a::as,0,0,_,_,_,_=>rfl
 | .io j'::as,0,k+1,j,nd,h1,h2=>by
  simp at h1;subst h1
  exact absurd (jE (as:=as) (i:=k) (by simpa using h2)) (Zu.mp nd).1
 | .im _::as,0,k+1,j,_,h1,_=>by simp at h1
 | .io j'::as,i+1,0,j,nd,h1,h2=>by
  simp at h2;subst h2
  exact absurd (jE (as:=as) (i:=i) (by simpa using h1)) (Zu.mp nd).1
 | .im _::as,i+1,0,j,_,_,h2=>by simp at h2
 | .io j'::as,i+1,k+1,j,nd,h1,h2=>by rw [zN (as:=as) (i:=i) (k:=k) (j:=j) (Zu.mp nd).2 (by simpa using h1) (by simpa using h2)]
 | .im _::as,i+1,k+1,j,nd,h1,h2=>by rw [zN (as:=as) (i:=i) (k:=k) (j:=j) nd (by simpa using h1) (by simpa using h2)]
def fR:List Arg->Nat->Option Nat
 |[],_=>none
 | .io i::as,j=>if i=j then some 0 else(fR as j).map (·+1)
 | .im _::as,j=>(fR as j).map (·+1)
theorem mI:∀{as:List Arg} {j i:Nat},fR as j=some i->as[i]? =some (.io j)
 |[],_,_,h=>by cases h
 | .io k::as,j,i,h=>by
  rw [fR] at h
  by_cases z:k=j
  ·rw [if_pos z] at h;cases h;rw [z];rfl
  ·rw [if_neg z] at h
   cases q:fR as j with
   |none=>rw [q] at h;cases h
   |some n=>rw [q] at h;cases h;simpa using mI q
 | .im _::as,j,i,h=>by
  rw [fR] at h
  cases q:fR as j with
  |none=>rw [q] at h;cases h
  |some n=>rw [q] at h;cases h;simpa using mI q
theorem kG:∀{as:List Arg} {j:Nat},fR as j=none->j∉slots as
 |[],_,_=>by simp [slots]
 | .io k::as,j,h=>by
  rw [fR] at h
  by_cases z:k=j
  ·rw [if_pos z] at h;cases h
  ·rw [if_neg z] at h
   have h':fR as j=none:=by
    cases q:fR as j with
    |none=>rfl
    |some n=>rw [q] at h;cases h
   exact fun hm=>(Z2.mp hm).elim (fun e=>z e.symm) (kG h')
 | .im _::as,j,h=>by
  rw [fR] at h
  have h':fR as j=none:=by
   cases q:fR as j with
   |none=>rfl
   |some n=>rw [q] at h;cases h
  exact fun hm=>kG (as:=as) h' hm
theorem xI:∀{as:List Arg} {ds:List D} {ps:PSt},(iV ps as ds).length=ps.length
 |[],_,_=>by simp [iV]
 | .io j::as,[],_=>by simp [iV]
 | .im _::as,[],_=>by simp [iV]
 | .io j::as,d::ds,ps=>by rw [iV,xI (as:=as)];simp
 | .im _::as,d::ds,ps=>by rw [iV,xI (as:=as)]
theorem oE:∀{as:List Arg} {ds:List D} {ps:PSt} {j:Nat},j∉slots as->(iV ps as ds)[j]? =ps[j]?
 |[],_,_,_,_=>by simp [iV]
 | .io _::_,[],_,_,_=>by simp [iV]
 | .im _::_,[],_,_,_=>by simp [iV]
 | .io k::as,d::ds,ps,j,h=>by
  rw [iV,oE (as:=as) (fun z=>h (Z1 _ z)),Zs (fun z=>h (by rw [<-z];exact Z0))]
 | .im _::as,d::ds,ps,j,h=>by rw [iV];exact oE (as:=as) h
theorem zd0:∀{as:List Arg} {ds:List D} {ps:PSt} {i j:Nat} {d:D},(slots as).Nodup->as[i]? =some (.io j)->ds[i]? =some d->j<ps.length->(iV ps as ds)[j]? =some (some d)
 |[],_,_,_,_,_,_,h,_,_=>by simp at h
 |_::_,[],_,_,_,_,_,_,h,_=>by simp at h
 | .io k::as,d1::ds,ps,0,j,d,nd,h1,h2,h3=>by
  simp at h1 h2;subst h1;subst h2
  rw [iV,oE (Zu.mp nd).1,Zy h3]
 | .im _::as,d1::ds,ps,0,j,d,_,h1,_,_=>by simp at h1
 | .io k::as,d1::ds,ps,i+1,j,d,nd,h1,h2,h3=>by
  rw [iV];exact zd0 (Zu.mp nd).2 (by simpa using h1) (by simpa using h2) (by simpa using h3)
 | .im _::as,d1::ds,ps,i+1,j,d,nd,h1,h2,h3=>by
  rw [iV];exact zd0 (as:=as) nd (by simpa using h1) (by simpa using h2) h3
def pS(as:List Arg)(F:Nat->List Addr):Nat->List Addr:=fun i=>match as[i]? with
 |some (.io j)=>F j
 |_=>[]
theorem yp1(e:as[i]? =some (.io j)):pS as F i=F j:=by unfold pS;rw [e]
theorem yf1(h:b∈pS as F i):∃j,as[i]? =some (.io j)/\b∈F j:=by
 unfold pS at h
 cases q:as[i]? with
 |none=>rw [q] at h;exact absurd h (by simp)
 |some x=>
  cases x with
  |io j=>rw [q] at h;exact⟨j,rfl,h⟩
  |im _=>rw [q] at h;exact absurd h (by simp)
theorem zr6(e:mV as i=false):pS as F i=[]:=by
 unfold pS
 cases q:as[i]? with
 |none=>rfl
 |some x=>cases x with
  |io j=>rw [pN q] at e;cases e
  |im _=>rfl
theorem xo2{φ:Fx}{H:Hp}{σ:St}{ps:PSt}{F:Nat->List Addr}{as:List Arg}{vs:List V}{ds:List D}(R:RS φ H σ ps F)(nd:(slots as).Nodup)(hb:∀j∈slots as,φ.bor j=false)(a:ArgsAt φ.K φ.U H σ ps as vs ds):
  RS (fxE φ.K φ.U as.length (mV as)) H (vs.map some) (ds.map some) (pS as F):=by
 obtain⟨lv,ld⟩:=a.len
 have memF:∀i b,b∈pS as F i->∃j,as[i]? =some (Arg.io j)/\b∈F j:=fun i b h=>yf1 h
 refine⟨fun i d h=> ?_,fun i b h=> ?_,fun i k b h1 h2=> ?_,fun i=> ?_,fun i b h k z=>z.elim,fun k b z=>z.elim,by simp [lv,ld]⟩
 ·rw [Zd] at h
  cases q:ds[i]? with
  |none=>rw [q] at h;cases h
  | some d1=>
   rw [q] at h;cases h
   obtain⟨v,h1,h2⟩:=a.get q
   have hi:=(Z4.mp q).1
   refine⟨v,pS as F i,by rw [Zd,h1];rfl,?_,fun _=>rfl,fun z=> ?_⟩
   ·rcases h2 with ⟨j,e1,e2,e3,e4⟩|⟨e1,r⟩
    ·obtain⟨v',fp,k1,k2,k3,_⟩:=R.rep j d e4
     rw [e3] at k1;cases k1
     rw [yp1 e1]
     have:=k3 (hb j (jE e1))
     subst this
     exact k2
    ·rw [zr6 e1];exact r
   ·rcases h2 with ⟨j,e1,e2,_⟩|⟨e1,r⟩
    ·simp [fxE,e2] at z
    ·rw [zr6 e1];intro b hb;exact absurd hb (by simp)
 ·obtain⟨j,e,hj⟩:=memF i b h
  have hi:i<ds.length:=by rw [ld];exact(Z4.mp e).1
  exact⟨by simp [fxE,pN e],ds[i],by rw [Zd,Zn hi];rfl⟩
 ·obtain⟨j1,e1,m1⟩:=memF i b h1
  obtain⟨j2,e2,m2⟩:=memF k b h2
  have:=R.dis j1 j2 b m1 m2
  subst this
  exact zN nd e1 e2
 ·cases z:mV as i with
  |true=>obtain⟨j,e⟩:=zr5 z;rw [yp1 e];exact R.nd j
  |false=>rw [zr6 z];exact Zr
def vF(as:List Arg)(F Fc:Nat->List Addr):Nat->List Addr:=fun j=>match fR as j with
 |some i=>Fc i
 |none=>F j
theorem xe7(h:b∈vF as F Fc j):(∃i,fR as j=some i/\b∈Fc i)\/(fR as j=none/\b∈F j):=by
 unfold vF at h
 cases q:fR as j with
 |none=>rw [q] at h;exact .inr ⟨rfl,h⟩
 |some i=>rw [q] at h;exact .inl ⟨i,rfl,h⟩
theorem zk6(e:fR as j=some i):vF as F Fc j=Fc i:=by unfold vF;rw [e]
theorem zk7(e:fR as j=none):vF as F Fc j=F j:=by unfold vF;rw [e]
theorem xz2{φ:Fx}{H H1 H':Hp}{σ:St}{ps:PSt}{F Fc':Nat->List Addr}{as:List Arg}{vs:List V}{ds ds':List D}{fv:List Addr}(R:RS φ H σ ps F)(s1:SameK H H1)(nd:(slots as).Nodup)(hb:∀j∈slots as,φ.bor j=false)(a:ArgsAt φ.K φ.U H1 σ ps as vs ds)(hl:ds'.length=as.length)
  (s:Stp (fxE φ.K φ.U as.length (mV as)) (vs.map some) H1 (pS as F) (vs.map some) H' (ds'.map some) Fc') (o:OwnV (pS as F) H1 Fc' fv):
  ∃F',Stp φ σ H F σ H' (iV ps as ds') F'/\OwnV F H F' fv:=by
 have memF:∀i b,b∈pS as F i->∃j,as[i]? =some (Arg.io j)/\b∈F j:=fun i b h=>yf1 h
 have nwA:∀b,((∃i,b∈pS as F i)\/H1 b=none)->(∃j∈slots as,b∈F j)\/H b=none:=fun b h=>by
  rcases h with ⟨i,h⟩|h
  ·obtain⟨j,e,m⟩:=memF i b h
   exact .inl ⟨j,jE e,m⟩
  ·exact .inr (s1.grow b h)
 have isDisj:∀b,((∃i,b∈Fc' i)\/b∈fv)->∀j,j∉slots as->b∉F j:=fun b h j hj hm=>by
  have h':(∃j∈slots as,b∈F j)\/H b=none:=by
   rcases h with ⟨i,h⟩|h
   ·exact nwA b (s.nw i b h)
   ·exact nwA b (o.nw b h)
  rcases h' with ⟨k,hk,hm2⟩|z
  ·exact hj (R.dis j k b hm hm2▸hk)
  ·obtain⟨u,q,_⟩:=R.own hm;rw [z] at q;cases q
 have keepN:∀b u,H b=some u->kd u=true->(∀j∈slots as,b∉F j)->H' b=some u:=fun b u h k n=>s.fr.keep b u (s1.keep b u h k) k fun i hi=>by
  obtain⟨j,e,m⟩:=memF i b hi
  exact n j (jE e) m
 have tfk:∀b u,H b=some u->tf u=true->H' b=some u:=fun b u h t=>keepN b u h (nO t) fun j _ hm=>by
  obtain⟨u',h',_,t'⟩:=R.own hm
  rw [h] at h';cases h';rw [t] at t';cases t'
 have posmem:∀j b,b∈vF as F Fc' j->(∃i,fR as j=some i/\b∈Fc' i)\/(fR as j=none/\b∈F j):=fun j b h=>xe7 h
 refine⟨vF as F Fc',⟨⟨fun b u h k n=>keepN b u h k fun j _=>n j,fun b h=>s1.grow b (s.fr.grow b h)⟩,fun j b h=> ?_,⟨fun j d h=> ?_,fun j b h=> ?_,fun j k b h1 h2=> ?_,fun j=> ?_,fun j b h=> ?_,fun kk b hB z=>R.bt kk b hB (s1.grow b (s.fr.grow b z)),by rw [xI];exact R.len⟩,fun _ _=>rfl⟩,⟨fun b hb'=> ?_,o.nd,fun j b h hv=> ?_⟩⟩
 ·rcases posmem j b h with ⟨i,e,m⟩|⟨e,m⟩
  ·exact(nwA b (s.nw i b m)).elim (fun⟨k,_,hk⟩=> .inl ⟨k,hk⟩) .inr
  ·exact .inl ⟨j,m⟩
 ·cases q:fR as j with
  | some i=>
   have e:=mI q
   have hi:i<ds'.length:=by rw [hl];exact(Z4.mp e).1
   have ei:ds'[i]? =some ds'[i]:=Zn hi
   have hj:j<ps.length:=by
    have:=(Z4.mp h).1
    rwa [xI] at this
   rw [zd0 nd e ei hj] at h
   cases h
   obtain⟨v,fp,k1,k2,k3,_⟩:=s.rs.rep i ds'[i] (by rw [Zd,ei];rfl)
   have hbi:(fxE φ.K φ.U as.length (mV as)).bor i=false:=by simp [fxE,pN e]
   have k3:=k3 hbi
   subst k3
   have hvi:i<vs.length:=by rw [a.len.1];exact(Z4.mp e).1
   have hdi:i<ds.length:=by rw [a.len.2];exact(Z4.mp e).1
   obtain⟨v',g1,g2⟩:=a.get (Zn hdi)
   rw [Zd,g1] at k1
   cases k1
   rcases g2 with ⟨j',e1,_,e3,_⟩|⟨e1,_⟩
   ·rw [e] at e1;cases e1
    exact⟨v,Fc' i,e3,k2,(fun _=>(zk6 q).symm),(fun z=>by rw [hb j (jE e)] at z;cases z)⟩
   ·rw [pN e] at e1;cases e1
  |none=>
   have hn:=kG q
   rw [oE hn] at h
   obtain⟨v,fp,k1,k2,k3,k4⟩:=R.rep j d h
   refine⟨v,fp,k1,k2.move tfk fun b hb'=> ?_,(fun z=>by rw [zk7 q];exact k3 z),k4⟩
   obtain⟨u,q1,q2,_⟩:=k2.own b hb'
   rw [q1]
   refine keepN b u q1 q2 fun k hk hm=> ?_
   cases z:φ.bor j with
   |true=>exact R.nb k b hm j (k4 z b hb')
   |false=>rw [k3 z] at hb';exact hn (R.dis j k b hb' hm▸hk)
 ·rcases posmem j b h with ⟨i,e,m⟩|⟨e,m⟩
  ·have e':=mI e
   refine⟨hb j (jE e'),?_⟩
   have hi:i<ds'.length:=by rw [hl];exact(Z4.mp e').1
   have hdi:i<ds.length:=by rw [a.len.2];exact(Z4.mp e').1
   obtain⟨v',g1,g2⟩:=a.get (Zn hdi)
   rcases g2 with ⟨j',e1,_,_,e4⟩|⟨e1,_⟩
   ·rw [e'] at e1;cases e1
    exact⟨_,zd0 nd e' (Zn hi) (Z4.mp e4).1⟩
   ·rw [pN e'] at e1;cases e1
  ·obtain⟨b1,d,b2⟩:=R.emp j b m
   exact⟨b1,d,by rw [oE (kG e)];exact b2⟩
 ·rcases posmem j b h1 with ⟨i,e,m⟩|⟨e,m⟩
  ·rcases posmem k b h2 with ⟨i',e',m'⟩|⟨e',m'⟩
   ·have:=s.rs.dis i i' b m m'
    subst this
    have q1:=mI e
    have q2:=mI e'
    rw [q1] at q2
    cases q2;rfl
   ·exact absurd m' (isDisj b (.inl ⟨i,m⟩) k (kG e'))
  ·rcases posmem k b h2 with ⟨i',e',m'⟩|⟨e',m'⟩
   ·exact absurd m (isDisj b (.inl ⟨i',m'⟩) j (kG e))
   ·exact R.dis j k b m m'
 ·cases q:fR as j with
  |some i=>rw [zk6 q];exact s.rs.nd i
  |none=>rw [zk7 q];exact R.nd j
 ·rcases posmem j b h with ⟨i,e,m⟩|⟨e,m⟩
  ·exact R.notB ((nwA b (s.nw i b m)).elim (fun⟨k,_,hk⟩=> .inl ⟨k,hk⟩) .inr)
  ·exact R.nb j b m
 ·exact(nwA b (o.nw b hb')).elim (fun⟨k,_,hk⟩=> .inl ⟨k,hk⟩) .inr
 ·rcases posmem j b h with ⟨i,e,m⟩|⟨e,m⟩
  ·exact o.dis i b m hv
  ·exact isDisj b (.inr hv) j (kG e) m
def tIO(K:tz0)(U:tz9)(as:List Arg):TA:=fun σ H Q=>∃ps ds,WS K U H σ ps/\cC as ps=some ds/\∀vs H',SameK H H'->ArgsAt K U H' σ ps as vs ds->Q vs H'
def fIO(as:List Arg)(g:tz7):tz8:=fun ps=>(cC as ps).bind fun ds=>(g ds).bind fun r=>if r.2.length=as.length then some (r.1,iV ps as r.2) else none
section
variable{X:Cx}{φ:F0}{U:tz9}{e:Expr}{es:List Expr}{as:List Arg}{f:tz2}{pos p:Pos}
theorem cS:PA X [] (tIO X.K U []):=kO.imp fun σ H Q ⟨ps,ds,w,e,q⟩=>by cases e;exact q [] H (.refl H) .nil
theorem jV(j:Nat){x:Str}(hr:PA X es (tIO X.K U as))(hN:X.N[j]? =some x:=by rfl)(hv:Vis X.env.scope x:=by first|exact Or.inl rfl|exact Or.inr (Or.inl rfl)|exact Or.inr (Or.inr rfl))(hd:(x==("__debug__":Str))=false:=by decide)
  (hcd:(x==("__classdict__":Str))=false:=by decide) (hs:starEach (.Name x pos::es) X.env=(false,eval (.Name x pos) X.env)::starEach es X.env:=by rfl):PA X (.Name x pos::es) (tIO X.K U (.io j::as)):=
 (eL (qP hN hv hd hcd) hr hs).imp fun σ H Q hh_=>by
  obtain⟨ps,ds,w,e,q⟩:=hh_
  obtain⟨d,e1,e2⟩:=bind_some e
  obtain⟨ds',e3,e4⟩:=bind_some e2
  cases e4
  have e0:=join_some e1
  obtain⟨v,fp,h1,h2⟩:=w j d e0
  exact⟨v,h1,ps,ds',w,e3,fun vs H1 s1 a1=>q (v::vs) H1 s1 (.io h1 e0 a1)⟩
theorem bE(ha:QV X U e f)(hr:PA X es (tIO X.K U as))(hs:starEach (e::es) X.env=(false,eval e X.env)::starEach es X.env:=by rfl):PA X (e::es) (tIO X.K U (.im f::as)):=
 (eL ha.p hr hs).imp fun σ H Q hh_=>by
  obtain⟨ps,ds,w,e,q⟩:=hh_
  obtain⟨d,e1,e2⟩:=bind_some e
  obtain⟨ds',e3,e4⟩:=bind_some e2
  cases e4
  refine⟨ps,d,w,e1,fun v H1 fv s1 n1 nd1 r1=>⟨ps,ds',w.same s1,e3,fun vs H2 s2 a2=>q (v::vs) H2 (s1.trans s2) (.im ?_ a2)⟩⟩
  unfold aY at e1
  obtain⟨d1,k1,k2⟩:=bind_some e1
  obtain⟨k3,k4⟩:=bV k2
  cases k4
  have:=r1.imm k3
  subst this
  exact r1.same s2
theorem mJ{x:Str}{st:Stmt}{ps:List Str}{fa:Addr}{fd:FuncData}{k np:Nat}{m:Nat->Bool}{g:tz7}(Dd:Dn X.K X.mg x st ps fa fd)(G:FnOk X.prog X.w X.K X.mg X.base CX0 k fa fd ps (SpE np X.K U m g))(hr:Room k X.A)(hg:Gl X x)(ha:PA X (e::es) (tIO X.K U as))
  (hnp:np=as.length) (hm:m=mV as) (nd:(slots as).Nodup) (hb:∀j∈slots as,φ.bor j=false)
  (hdb:(x==("__debug__":Str))=false:=by decide) (he:starEach (e::es) X.env=(false,eval e X.env)::starEach es X.env:=by rfl) (hpl:(backTo pos (starEach es X.env)).any (·.1)=false:=by rfl):
  QE X U φ (.Call (.Name x p) (e::es) [] pos) (fIO as g):=(yu1 Dd G hr hg ha hdb he hpl).imp fun σ H Q hh_=>by
 obtain⟨ps,F,d,ps',R,e,q⟩:=hh_
 obtain⟨ds,e1,e2⟩:=bind_some e
 obtain⟨⟨r,ds'⟩,e3,e4⟩:=bind_some e2
 obtain⟨hl,e5⟩:=bV e4
 cases e5
 subst hnp hm
 refine⟨ps,ds,R.ws,e1,fun vs H1 s1 a1=> ?_⟩
 show SpE _ X.K U _ g (vs++[]) H1 Q E0
 rw [Zq]
 refine⟨a1.len.1,ds,r,ds',_,a1.len.2,xo2 (R.same s1) nd hb a1,e3,fun v H' F' fv s o rv=> ?_⟩
 obtain⟨F2,s2,o2⟩:=xz2 R s1 nd hb a1 hl s o
 exact q v H' F2 fv s2 o2 rv
end
inductive AreD:List Expr->List D->Prop
 |nil:AreD [] []
 |int {i:Int} {j:Nat} {pos:Pos} {es:List Expr} {ds:List D}:AreD es ds->AreD (.Constant (.int i) j pos::es) (.int i::ds)
 |str {x:Str} {j:Nat} {pos:Pos} {es:List Expr} {ds:List D}:AreD es ds->AreD (.Constant (.str x) j pos::es) (.str x::ds)
def fKs(ds:List D):tz3:=fun _=>some ds
theorem sI(h:AreD es ds):QPA X U es (fKs ds):=by
 have key:∃vs,AreC es vs/\∀K U H,Reps K U H vs ds []:=by
  induction h with
  |nil=>exact⟨[],.nil,fun _ _ _=> .nil⟩
  |int _ ih=>obtain⟨vs,h1,h2⟩:=ih;exact⟨_,.int h1,fun K U H=> .cons (f:=[]) (g:=[]) (.int _) (h2 K U H)⟩
  |str _ ih=>obtain⟨vs,h1,h2⟩:=ih;exact⟨_,.str h1,fun K U H=> .cons (f:=[]) (g:=[]) (.str _) (h2 K U H)⟩
 obtain⟨vs,h1,h2⟩:=key
 exact(xd5 h1).imp fun σ H Q ⟨ps,ds',w,e,q⟩=>by cases e;exact q vs H [] (.refl H) (fun _ h=>absurd h (by simp)) Zr (h2 _ _ _)
def bC(l:List Bool):Nat->Bool:=fun i=>(l[i]?).getD false
def xl3(as:List Arg):List Bool:=as.map fun a=>match a with
 | .io _=>true
 | .im _=>false
theorem eX:∀{as:List Arg} {l:List Bool},xl3 as=l->bC l=mV as:=by
 intro as l h
 subst h
 funext i
 induction as generalizing i with
 |nil=>cases i<;>rfl
 | cons a as ih=>
  cases i with
  |zero=>cases a<;>rfl
  |succ i=>
   have e:mV (a::as) (i+1)=mV as i:=by cases a<;>rfl
   rw [e,<-ih i]
   simp [bC,xl3]
theorem fF(h:bC l i=true):i<l.length:=by
 unfold bC at h
 cases q:l[i]? with
 |none=>rw [q] at h;cases h
 |some b=>exact(Z4.mp q).1
section
variable{P:Program}{w:World}{K:tz0}{mg:tzA}{base:Heap}{U:tz9}
theorem FnOk.noneP:FnOk P w K mg base CX0 k f fd ps (SpP ps.length K U fun _=>none):=
 ⟨fun vs H Q E h=>h.1,fun A outer s H args us vs Q E _ _ _ _ ⟨_,ds,fp,d,_,e,_⟩=>by cases e⟩
theorem FnOk.noneE:FnOk P w K mg base CX0 k f fd ps (SpE ps.length K U m fun _=>none):=
 ⟨fun vs H Q E h=>h.1,fun A outer s H args us vs Q E _ _ _ _ ⟨_,ds,r,ds',F,_,_,e,_⟩=>by cases e⟩
end
theorem xz3(h:yC k u=true):cI (kV k) u:=by
 rcases fS h with ⟨i,t,rfl,rfl⟩|⟨x,t,rfl,rfl⟩
 ·exact⟨t,rfl⟩
 ·exact⟨t,rfl⟩
def yz0:Key->D
 | .inl i=> .int i
 | .inr x=> .str x
theorem xo3{K:tz0}{U:tz9}{H:Hp}(k:Key):Rep K U H (kV k) (yz0 k) []:=by
 cases k with
 |inl i=>exact .int i
 |inr x=>exact .str x
theorem zk8:∀ys:List (Str×Tok),bQ (ys.map fun p=>V.str p.1) (ys.map fun p=>Value.str p.1 p.2)
 |[]=> .nil
 |y::ys=> .cons ⟨y.2,rfl⟩ (zk8 ys)
theorem zw2{K:tz0}{U:tz9}{H:Hp}:∀ys:List (Str×Tok),Reps K U H (ys.map fun p=>V.str p.1) (ys.map fun p=>D.str p.1) []
 |[]=> .nil
 |y::ys=> .cons (f:=[]) (g:=[]) (.str _) (zw2 ys)
theorem xo4{K:tz0}{U:tz9}{a:Addr}{ys:List (Str×Tok)}{od:Option Addr}{n:Nat}{sl:Array (Option Value)}(h:K.lookup a=some ⟨.type "tuple",od,.seq (ys.map fun p=>Value.str p.1 p.2).toArray n,sl⟩)(hl:ys.length<=1000)(H:Hp):
  Rep K U H (.ref a) (.tup (ys.map fun p=>D.str p.1)) []:=
 .tup (.inr ⟨_,_,n,h,rfl,rfl,by rw [Zl,Z8];exact ya9 hl,zk8 ys⟩) (zw2 ys)
section
variable{X:Cx}{pins:tzB}{σ:St}{H:Hp}{s:Shared}{a C dx:Addr}{fs:List (Str×V)}{f:Str}{v:V}{A:Around}{E:Value->Shared->Prop}
theorem xe8(hok:HOk P w H h)(e:Rd H a (.ins C dx fs)):∃mA,ObjM h a dx C mA/\(∀f,kJ (fs.lookup f) (mA f)):=by
 obtain⟨d,z,ne,ob,mA,n,r,q⟩:=(show dL P w H h a (.ins C dx fs) from e.ok hok)
 exact⟨mA,⟨ob,n,ne⟩,r⟩
theorem yu7(I:Inv X pins σ H s)(e:Rd H a (.ins C dx fs))(c:Cls X.K C)(n:cF X.K C f)(l:fs.lookup f=some v)
  (h:∀u s',Inv X pins σ H s'->cI v u->Q u s'):wpAny (model X.prog X.w) A (getAttr (.ref a) f b) Q E s:=by
 obtain⟨mA,O,r⟩:=xe8 I.hok e
 obtain⟨u,hu,ru⟩:=kJ.some_of (v:=v) (o:=mA f) (by rw [<-l];exact r f)
 exact yo0 I.kIn O (c.get f) c.hd n hu (zu4 ru) (h u _ (I.tok _) ru)
theorem yu8(I:Inv X pins σ H s)(e:Rd H a (.ins C dx fs))(c:Cls X.K C)(k:Meth X.K C m g)(l:fs.lookup m=none)
  (h:Q (.ref g,[.ref a]) s):wpAny (model X.prog X.w) A (getMethod (.ref a) m pl) Q E s:=by
 obtain⟨mA,O,r⟩:=xe8 I.hok e
 have hn:mA m=none:=kJ.none_of (by rw [<-l];exact r m)
 exact yd3 I.kIn O (c.get m) k.at_ k.fn hn h
end
def ws1(K:tz0)(ta:TE)(f:Str):TE:=fun σ H Q=>ta σ H fun x H1=>∃a C dx fs v,x= .ref a/\Rd H1 a (.ins C dx fs)/\Cls K C/\cF K C f/\fs.lookup f=some v/\Q v H1
theorem xz4(he:PE X e ta)(hb:attributeBase e f X.env (eval e X.env)=eval e X.env):PE X (.Attribute e f pos) (ws1 X.K ta f):=⟨by
 intro pins s σ H Q I h
 refine yo1 hb (thn (he pins s σ H _ I h) fun u s1 ⟨x,H1,I1,rx,a,C,dx,fs,v,ex,ea,c,n,l,q⟩=> ?_)
 subst ex
 obtain rfl:u=Value.ref a:=rx
 exact yu7 I1 ea c n l fun w' s2 I2 rw'=>⟨v,H1,I2,rw',q⟩⟩
def yj7(C f:Str):D->Option D
 | .obj _ C' ns vs=>if C'=C then(cQ ns f).bind fun n=>vs[n]? else none
 |_=>none
def cL(C f:Str)(fo:tz2):tz2:=fun ps=>(fo ps).bind (yj7 C f)
theorem Rep.obj_inv{K:tz0}{U:tz9}{H:Hp}{v:V}{o:Bool}{C:Str}{ns:List Str}{ds:List D}{fp:List Addr}(r:Rep K U H v (.obj o C ns ds) fp):∃a dx fs g,v= .ref a/\Rd H a (.ins (U C) dx fs)/\fs.map (·.1)=ns/\Reps K U H (fs.map (·.2)) ds g/\g.Sublist fp:=by
 cases r with
 |obj h e hs=>exact⟨_,_,_,_,rfl,.inl h,e,hs,YY _ _⟩
 |objF h e hs=>exact⟨_,_,_,_,rfl,.inr ⟨_,h⟩,e,hs,.refl _⟩
section
variable{X:Cx}{U:tz9}{o e:Expr}{C fn:Str}{fo:tz2}{pos:Pos}
theorem cU(hc:Cls X.K (U C))(hna:cF X.K (U C) fn)(ho:QV X U o fo)(hb:attributeBase o fn X.env (eval o X.env)=eval o X.env:=by rfl):QV X U (.Attribute o fn pos) (cL C fn fo):=
 (xz4 ho hb).imp fun σ H Q hh_=>by
  obtain⟨ps,d,w,e,q⟩:=hh_
  obtain⟨x,e1,e2⟩:=bind_some e
  refine⟨ps,x,w,e1,fun v H1 fp s1 r1=> ?_⟩
  cases x with
  |obj ow C' ns ds=>
   have e2':(if C'=C then(cQ ns fn).bind fun n=>ds[n]? else none)=some d:=e2
   by_cases hC:C'=C
   case neg=>rw [if_neg hC] at e2';cases e2'
   rw [if_pos hC] at e2'
   subst hC
   obtain⟨n,e4,e5⟩:=bind_some e2'
   obtain⟨a,dx,fs,g,rfl,h,hk,hs,sub⟩:=r1.obj_inv
   subst hk
   obtain⟨u,f1,k3,k4,_⟩:=hs.get e5
   exact⟨a,U C',dx,fs,u,rfl,h,hc,hna,uA e4 k3,q u H1 f1 s1 k4⟩
  |_=>cases e2
end
theorem yp2:∀{fs:List (Str×V)} {f:Str} {n:Nat} (v:V),cQ (fs.map (·.1)) f=some n->(gW f v fs).map (·.1)=fs.map (·.1)/\(gW f v fs).map (·.2)=(fs.map (·.2)).set n v
 |[],_,_,_,h=>by cases h
 | (g,x)::r,f,n,v,h=>by
  rw [Z9,cQ] at h
  by_cases z:g=f
  ·have z':(g,x).1=f:=z
   rw [if_pos z'] at h;cases h
   rw [gW,if_pos z];exact⟨rfl,rfl⟩
  ·have z':¬(g,x).1=f:=z
   rw [if_neg z'] at h
   obtain⟨m,h1,h2⟩:=Zp.mp h
   subst h2
   obtain⟨k1,k2⟩:=yp2 v h1
   rw [gW,if_neg z]
   exact⟨by rw [Z9,Z9,k1],by rw [Z9,Z9,List.set_cons_succ,k2]⟩
theorem yf2:∀{fs:List (Str×V)} {f:Str} (v:V),cQ (fs.map (·.1)) f=none->(gW f v fs).map (·.1)=fs.map (·.1)++[f]/\(gW f v fs).map (·.2)=fs.map (·.2)++[v]
 |[],_,_,_=>⟨rfl,rfl⟩
 | (g,x)::r,f,v,h=>by
  rw [Z9,cQ] at h
  by_cases z:g=f
  ·have z':(g,x).1=f:=z
   rw [if_pos z'] at h;cases h
  ·have z':¬(g,x).1=f:=z
   rw [if_neg z'] at h
   obtain⟨k1,k2⟩:=yf2 v (W1.mp h)
   rw [gW,if_neg z]
   exact⟨by rw [Z9,Z9,k1];rfl,by rw [Z9,Z9,k2];rfl⟩
def xA(C f:Str)(y:D):D->Option (Unit×D)
 | .obj true C' ns vs=>if (C'=C/\ns.length<900) then(match cQ ns f with
   |some n=>some ((),.obj true C' ns (vs.set n y))
   |none=>some ((),.obj true C' (ns++[f]) (vs++[y]))) else none
 |_=>none
theorem yf3(h:xA C f y d=some (r,d')):∃ns vs,d= .obj true C ns vs/\ns.length<900/\((∃n,cQ ns f=some n/\d'= .obj true C ns (vs.set n y))\/(cQ ns f=none/\d'= .obj true C (ns++[f]) (vs++[y]))):=by
 unfold xA at h
 split at h
 ·rename_i C' ns vs
  by_cases hh:C'=C/\ns.length<900
  ·rw [if_pos hh] at h
   obtain⟨hC,hl⟩:=hh
   subst hC
   cases q:cQ ns f with
   |some n=>rw [q] at h;cases h;exact⟨ns,vs,rfl,hl,.inl ⟨n,q,rfl⟩⟩
   |none=>rw [q] at h;cases h;exact⟨ns,vs,rfl,hl,.inr ⟨q,rfl⟩⟩
  ·rw [if_neg hh] at h;cases h
 ·cases h
def iE(j:Nat)(pf:PSt->Option (List Ps1))(C f:Str)(fe:tz2):tz1:=fun ps=>(fe ps).bind fun y=>((ps[j]?).join).bind fun d0=>(pf ps).bind fun p=>(fL (xA C f y) d0 p).bind fun r=>some (.nx,ps.set j (some r.2))
theorem yf4:∀{ns:List Str} {f:Str} {n:Nat},cQ ns f=some n->n<ns.length
 |[],_,_,h=>by cases h
 | m::ns,f,n,h=>by
  rw [cQ] at h
  by_cases z:m=f
  ·rw [if_pos z] at h;cases h;simp
  ·rw [if_neg z] at h
   obtain⟨k,h1,h2⟩:=Zp.mp h
   subst h2
   have:=yf4 h1
   simp;omega
section
variable{X:Cx}{U:tz9}{φ:F0}{o e:Expr}{C fn:Str}{j:Nat}{pf:PSt->Option (List Ps1)}{fe:tz2}{pos pos':Pos}
theorem gT(hc:Cls X.K (U C))(hna:cF X.K (U C) fn)(hb:φ.bor j=false)(he:PE X e (tP X.K U fe))(ho:PE X o (oP X.K U j pf))(hs:swapsWith e (some (.Attribute o fn pos')) pos.line X.env=pure false:=by rfl):
  QS X U φ (.Assign [.Attribute o fn pos'] e pos) (iE j pf C fn fe):=
 (wf5 ho he hs).imp fun E σ H hh_=>by
  obtain⟨ps,F,fl,ps',R,e,q⟩:=hh_
  obtain⟨y,e1,e2⟩:=bind_some e
  obtain⟨d0,e3,e4⟩:=bind_some e2
  have e0:=join_some e3
  obtain⟨p,e5,e6⟩:=bind_some e4
  obtain⟨⟨r,d0'⟩,em,e9⟩:=bind_some e6
  cases e9
  obtain⟨dd,dn,gp,hh⟩:=nP em
  refine⟨ps,y,R.ws,e1,fun v H1 fy s1 n1 nd1 ry=>⟨ps,p,d0,dd,R.ws.same s1,e0,e5,gp,fun lv H2 v0 s2 ev a2=> ?_⟩⟩
  have s12:=s1.trans s2
  obtain⟨d1,d1',fd,m1,m2,m3,m4,m5⟩:=wM R s12 hb e0 ev em a2
  obtain⟨ns,vs,rfl,hlen,hd⟩:=yf3 m2
  obtain⟨l,dx,fs,g1,rfl,hl,hn,hr,rfl⟩:=m1.objT_inv
  subst hn
  have ry2:=ry.same s2
  obtain⟨nl,nd3⟩:=Zu.mp m3
  have own0:∀a∈l::g1,H a≠none:=fun a ha z=>by obtain⟨o,h,_⟩:=R.own (m4 a ha);rw [z] at h;cases h
  have nl2:l∉fy:=fun z=>own0 l Z0 (n1 l z)
  have hl9:fs.length<900:=by rw [Z8] at hlen;exact hlen
  refine⟨l,U C,dx,fs,rfl,hl,hc,hna,by omega,?_⟩
  have go:∀(g2:List Addr),(∀a∈g2,a∈fy\/a∈g1)->g2.Nodup->Rep X.K U (upd H2 l (.ins (U C) dx (gW fn v fs))) (.ref l) d1' (l::g2)->∃F',Stp (φ.fx X.K U) σ H F σ (upd H2 l (.ins (U C) dx (gW fn v fs))) (ps.set j (some d0')) F':=fun g2 mem2 nd2 rp=>by
   have n2:l∉g2:=fun z=>(mem2 l z).elim nl2 nl
   obtain⟨F',st,ow⟩:=m5 (upd H2 l (.ins (U C) dx (gW fn v fs))) (l::g2) [] (fun a o h _ hn=>xH h hn) (fun a h=>pM h) rp
    (by rw [Zq,Zu];exact⟨n2,nd2⟩)
    (fun a ha=>by
     rw [Zq] at ha
     rcases Z2.mp ha with z|z
     ·exact .inl (by rw [z];exact Z0)
     ·exact(mem2 a z).elim (fun z=> .inr (n1 a z)) fun z=> .inl (Z1 _ z))
   exact⟨F',st⟩
  rcases hd with ⟨n,hx,rfl⟩|⟨hx,rfl⟩
  ·obtain⟨k1,k2⟩:=yp2 v hx
   have hn':=yf4 hx
   obtain⟨f1,rest,g2,p1,p2,p3⟩:=hr.setV (n:=n) (by rw [<-hr.length,Z8];rw [Z8] at hn';exact hn') ry2
   have mem2:∀a∈g2,a∈fy\/a∈g1:=fun a ha=>(Zk.mp (p3.mem_iff.mp ha)).elim .inl fun z=> .inr (p1.mem_iff.mpr (Z7 _ z))
   have n2:l∉g2:=fun z=>(mem2 l z).elim nl2 nl
   have nd2:g2.Nodup:=p3.nodup_iff.mpr (ZI.mpr ⟨nd1,(ZI.mp (p1.nodup_iff.mp nd3)).2.1,fun a ha b hb e=>by
    subst e
    exact own0 a (Z1 _ (p1.mem_iff.mpr (Z7 _ hb))) (n1 a ha)⟩)
   obtain⟨F',st⟩:=go g2 mem2 nd2 (.obj cX k1 (by rw [k2];exact p2.updL hl rfl n2))
   exact q _ _ F' st
  ·obtain⟨k1,k2⟩:=yf2 v hx
   have mem2:∀a∈g1++fy,a∈fy\/a∈g1:=fun a ha=>(Zk.mp ha).elim .inr .inl
   have n2:l∉g1++fy:=fun z=>(mem2 l z).elim nl2 nl
   have nd2:(g1++fy).Nodup:=ZI.mpr ⟨nd3,nd1,fun a ha b hb e=>by
    subst e
    exact own0 a (Z1 _ ha) (n1 a hb)⟩
   obtain⟨F',st⟩:=go (g1++fy) mem2 nd2 (.obj cX k1 (by rw [k2];exact(Reps.append hr (Reps.one ry2)).updL hl rfl n2))
   exact q _ _ F' st
end
structure Mn(K:tz0)(U:tz9)(C m qual:Str)(st:Stmt)(ps:List Str)(f:Addr)(fd:FuncData):Prop where
 F:Fun K m qual st f fd
 b:lF K fd ps []
 c:Cls K (U C)
 h:Meth K (U C) m f
def zo4(C m:Str)(fo:tz2):tz2:=fun ps=>(fo ps).bind fun d=>match d with
 | .obj true C' ns vs=>if (C'=C/\cQ ns m=none) then some (.obj true C' ns vs) else none
 |_=>none
theorem yu9(h:zo4 C m fo ps=some d):∃ns vs,d= .obj true C ns vs/\fo ps=some d/\cQ ns m=none:=by
 obtain⟨x,e1,e2⟩:=bind_some h
 cases x with
 | obj o C' ns vs=>cases o with
  |true=>
   have e2':(if (C'=C/\cQ ns m=none) then some (D.obj true C' ns vs) else none)=some d:=e2
   obtain⟨⟨hC,hn⟩,e3⟩:=bV e2'
   subst hC;cases e3
   exact⟨ns,vs,rfl,e1,hn⟩
  |false=>cases e2
 |_=>cases e2
theorem qD:∀{fs:List (Str×V)} {m:Str},cQ (fs.map (·.1)) m=none->fs.lookup m=none
 |[],_,_=>rfl
 | (g,x)::r,m,h=>by
  rw [Z9,cQ] at h
  by_cases z:g=m
  ·have z':(g,x).1=m:=z
   rw [if_pos z'] at h;cases h
  ·have z':¬(g,x).1=m:=z
   rw [if_neg z'] at h
   have ih:=qD (W1.mp h)
   rw [ZC]
   have:(m==g)=false:=by
    rw [Ya];exact fun e=>z e.symm
   rw [this];exact ih
section
variable{X:Cx}{U:tz9}{o e:Expr}{es:List Expr}{C m qual:Str}{st:Stmt}{ps:List Str}{f:Addr}{fd:FuncData}{k np:Nat}{h:tz6}{fo:tz2}{g:tz3}{apos pos p:Pos}{pl:Sem Bool}
theorem xo5(M:Mn X.K U C m qual st ps f fd)(G:FnOk X.prog X.w X.K X.mg X.base CX0 k f fd ps (SpP 1 X.K U h))(hr:Room k X.A)(ho:QV X U o fo)
  (ht:eval (.Call (.Attribute o m apos) [] [] pos) X.env=(do
   let ov<-eval o X.env
   standAt apos.atName
   let (f,first)<-holding [ov] (getMethod ov m pl)
   callWith pos f first (backTo pos (starEach [] X.env)) (backToKw pos (keywordEach [] X.env))):=by rfl):
  QP X U (.Call (.Attribute o m apos) [] [] pos) (aH h (aB (zo4 C m fo) aE)):=(xm2 ho M.c M.h G hr M.b .nil zc6 ht).imp fun σ H Q hh_=>by
 obtain⟨ps,d,w,e,q⟩:=hh_
 obtain⟨ds,e1,e2⟩:=bind_some e
 obtain⟨x,k1,k2⟩:=bind_some e1
 obtain⟨ds',k3,k4⟩:=bind_some k2
 cases k4;cases k3
 obtain⟨ns,vs,rfl,k5,k6⟩:=yu9 k1
 refine⟨ps,_,w,k5,fun v H1 fp s1 r1=> ?_⟩
 have r1':=r1
 obtain⟨_,_,_,_,rfl,hl,hn,hs,rfl⟩:=r1.objT_inv
 subst hn
 exact⟨_,_,_,rfl,hl,qD k6,rfl,_,_,d,Reps.one r1',e2,q.after s1⟩
end
def oU:Nat->Bool:=fun i=>decide (i=0)
def vG(fd:List Addr):Nat->List Addr:=fun i=>if i=0 then fd else []
theorem lM(h:a∈vG fd i):i=0/\a∈fd:=by
 unfold vG at h
 by_cases z:i=0
 ·rw [if_pos z] at h;exact⟨z,h⟩
 ·rw [if_neg z] at h;exact absurd h (by simp)
theorem zk9{K:tz0}{U:tz9}{H:Hp}{v:V}{vs:List V}{d:D}{ds:List D}{fd:List Addr}(r:Rep K U H v d fd)(nd:fd.Nodup)(rs:Reps K U H vs ds []):
  RS (fxE K U (ds.length+1) oU) H ((v::vs).map some) ((d::ds).map some) (vG fd):=by
 refine⟨fun i x hx=> ?_,fun i a ha=> ?_,fun i j a h1 h2=> ?_,fun i=> ?_,fun i a _ k z=>z.elim,fun k a z=>z.elim,by simp [rs.length]⟩
 ·cases i with
  |zero=>
   simp at hx;subst hx
   exact⟨v,fd,rfl,r,fun _=>rfl,fun z=>by simp [fxE,oU] at z⟩
  | succ i=>
   rw [Z9,Yd,Zd] at hx
   obtain⟨y,hy,e⟩:=Zp.mp hx
   cases e
   obtain⟨u,f1,k1,k2,k3⟩:=rs.get hy
   have ef:f1=[]:=by
    cases f1 with
    |nil=>rfl
    |cons b l=>exact absurd (k3 b Z0) (by simp)
   subst ef
   exact⟨u,[],by rw [Z9,Yd,Zd,k1];rfl,k2,(fun _=>by simp [vG]),fun _ a ha=>absurd ha (by simp)⟩
 ·obtain⟨e,h⟩:=lM ha
  subst e
  exact⟨by simp [fxE,oU],d,rfl⟩
 ·rw [(lM h1).1,(lM h2).1]
 ·unfold vG;split
  ·exact nd
  ·exact Zr
def yb7:List Arg->Bool
 |[]=>true
 | .im _::as=>yb7 as
 | .io _::_=>false
theorem ArgsAt.reps{K:tz0}{U:tz9}{H:Hp}{σ:St}{ps:PSt}:∀{as:List Arg} {vs:List V} {ds:List D},ArgsAt K U H σ ps as vs ds->yb7 as=true->Reps K U H vs ds []
 |_,_,_,.nil,_=> .nil
 |_,_,_,.io _ _ _,h=>by cases h
 |_,_,_,.im r a,h=> .cons (f:=[]) (g:=[]) r (ArgsAt.reps a h)
def eC(C m:Str)(g:tz7)(ys:List D)(d:D):Option (D×D):=match d with
 | .obj true C' ns vs=>if (C'=C/\cQ ns m=none) then(g (.obj true C' ns vs::ys)).bind fun r=>match r.2 with
   |d'::ds=>if ds.length=ys.length then some (r.1,d') else none
   |[]=>none
  else none
 |_=>none
theorem zl0(h:eC C m g ys d=some (r,d')):∃ns vs ds,d= .obj true C ns vs/\cQ ns m=none/\g (d::ys)=some (r,d'::ds)/\ds.length=ys.length:=by
 unfold eC at h
 split at h
 ·rename_i C' ns vs
  by_cases hc:C'=C/\cQ ns m=none
  ·rw [if_pos hc] at h
   obtain⟨hC,hn⟩:=hc
   subst hC
   obtain⟨⟨r1,ds⟩,e1,e2⟩:=bind_some h
   cases ds with
   |nil=>cases e2
   |cons d1 ds=>
    obtain⟨hl,e3⟩:=bV e2
    cases e3
    exact⟨ns,vs,ds,rfl,hn,e1,hl⟩
  ·rw [if_neg hc] at h;cases h
 ·cases h
section
variable{X:Cx}{U:tz9}{φ:F0}{o e:Expr}{es:List Expr}{C m qual:Str}{st:Stmt}{ps:List Str}{f:Addr}{fd:FuncData}{k np j:Nat}{mk:Nat->Bool}{g:tz7}{pf:PSt->Option (List Ps1)}{as:List Arg}{apos pos p:Pos}{pl:Sem Bool}
theorem xo6{σ:St}{H H1:Hp}{Q:VK}{ps:PSt}{F:Nat->List Addr}{d0 d0' r:D}{pp:List Ps1}{v0 v:V}{ys:List D}{us:List V}(R:RS (φ.fx X.K U) H σ ps F)(s1:SameK H H1)(hb:φ.bor j=false)(e0:ps[j]? =some (some d0))(ev:σ[j]? =some (some v0))
  (em:fL (eC C m g ys) d0 pp=some (r,d0')) (at_:At H1 v0 pp v) (ry:Reps X.K U H1 us ys []) (hnp:np=ys.length+1) (hm:mk=oU)
  (q:∀v H' F' fv,Stp (φ.fx X.K U) σ H F σ H' (ps.set j (some d0')) F'->OwnV F H F' fv->Rep X.K U H' v r fv->Q v H'):SpE np X.K U mk g (v::us) H1 Q E0:=by
 subst hnp hm
 obtain⟨d1,d1',fd,m1,m2,m3,m4,m5⟩:=wM R s1 hb e0 ev em at_
 obtain⟨ns,vs,ds,rfl,hn,eg,hl⟩:=zl0 m2
 refine⟨by rw [Z6,ry.length],_,r,d1'::ds,vG fd,by simp,zk9 m1 m3 ry,eg,fun u H' F' fv s o rv=> ?_⟩
 obtain⟨v2,fp2,k1,k2,k3,_⟩:=s.rs.rep 0 d1' rfl
 have ek:v2=v:=by
  have:(List.map some (v::us))[0]? =some (some v2):=k1
  simp at this;exact this.symm
 subst ek
 have k3':=k3 (by simp [fxE,oU])
 subst k3'
 have old:∀a,((∃i,a∈vG fd i)\/H1 a=none)->a∈fd\/H a=none:=fun a h=>h.elim (fun⟨i,hi⟩=> .inl (lM hi).2) fun z=> .inr (s1.grow a z)
 obtain⟨F2,st2,ow2⟩:=m5 H' (F' 0) fv (fun a o h k hn=>s.fr.keep a o h k fun i hi=>hn (lM hi).2) (fun a h=>s.fr.grow a h) k2
  (ZI.mpr ⟨s.rs.nd 0,o.nd,fun a ha b hb e=>by subst e;exact o.dis 0 a ha hb⟩)
  (fun a ha=>(Zk.mp ha).elim (fun z=>old a (s.nw 0 a z)) fun z=>old a (o.nw a z))
 exact q u H' F2 fv st2 ow2 rv
theorem xo7{σ:St}{H H1:Hp}{ps:PSt}{F:Nat->List Addr}{d0 d0' r:D}{pp:List Ps1}{v0 v:V}{ys:List D}(R:RS (φ.fx X.K U) H σ ps F)(s1:SameK H H1)(e0:ps[j]? =some (some d0))(ev:σ[j]? =some (some v0))
  (em:fL (eC C m g ys) d0 pp=some (r,d0')) (at_:At H1 v0 pp v):∃a dx fs,v= .ref a/\H1 a=some (.ins (U C) dx fs)/\fs.lookup m=none:=by
 obtain⟨dd,dn,gp,hh⟩:=nP em
 obtain⟨ns,vs,ds,rfl,hn,_⟩:=zl0 hh
 obtain⟨fd,rd⟩:=zr3 R.ws s1 e0 ev gp at_
 obtain⟨_,_,_,_,rfl,hl,hk,hs,rfl⟩:=rd.objT_inv
 subst hk;exact⟨_,_,_,rfl,hl,qD hn⟩
theorem kW(M:Mn X.K U C m qual st ps f fd)(G:FnOk X.prog X.w X.K X.mg X.base CX0 k f fd ps (SpE np X.K U mk g))(hr:Room k X.A)(hb:φ.bor j=false)(ho:PE X o (oP X.K U j pf))(ha:PA X (e::es) (tIO X.K U as))(has:yb7 as=true)(hnp:np=as.length+1)(hm:mk=oU)
  (hst:starEach (e::es) X.env=(false,eval e X.env)::starEach es X.env:=by rfl) (hpl:(backTo pos (starEach es X.env)).any (·.1)=false:=by rfl)
  (ht:eval (.Call (.Attribute o m apos) (e::es) [] pos) X.env=(do
   let ov<-eval o X.env
   standAt apos.atName
   let (f,first)<-holding [ov] (getMethod ov m pl)
   callWith pos f first (backTo pos (starEach (e::es) X.env)) (backToKw pos (keywordEach [] X.env))):=by rfl):
  QE X U φ (.Call (.Attribute o m apos) (e::es) [] pos) (dA j pf (cC as) (eC C m g)):=(xx4 ho M.c M.h G hr M.b .nil zc6 ha hst hpl ht).imp fun σ H Q hh_=>by
 obtain⟨ps,F,d,ps',R,e,q⟩:=hh_
 obtain⟨d0,pp,ys,d0',e0,ep,eg,em,rfl⟩:=zL e
 obtain⟨dd,dn,gp,hh⟩:=nP em
 refine⟨ps,pp,d0,dd,R.ws,e0,ep,gp,fun v H1 v0 s1 ev a1=> ?_⟩
 obtain⟨a,dx,fs,rfl,hl,hn⟩:=xo7 R s1 e0 ev em a1
 refine⟨a,dx,fs,rfl,hl,hn,ps,ys,R.ws.same s1,eg,fun us H2 s2 a2=> ?_⟩
 show SpE np X.K U mk g (_::(us++[])) H2 Q E0
 rw [Zq]
 exact xo6 R (s1.trans s2) hb e0 ev em (a1.same s2) (a2.reps has) (by rw [hnp,a2.len.2]) hm q
end
structure Kn(K:tz0)(mg:tzA)(U:tz9)(C qual:Str)(st:Stmt)(ps:List Str)(f:Addr)(fd:FuncData):Prop where
 F:Fun K "__init__" qual st f fd
 b:lF K fd ps []
 M:Mk K (U C) f
 m:mg C=some (.ref (U C))
def fD(C:Str)(ga:tz3)(g:tz7):tz2:=fun ps=>(ga ps).bind fun ys=>(g (.obj true C [] []::ys)).bind fun r=>match r with
 |(.non,d'::_)=>some d'
 |_=>none
theorem yv0(h:fD C ga g ps=some d):∃ys ds,ga ps=some ys/\g (.obj true C [] []::ys)=some (.non,d::ds):=by
 obtain⟨ys,e1,e2⟩:=bind_some h
 obtain⟨⟨r,ds⟩,e3,e4⟩:=bind_some e2
 cases r with
 |non=>cases ds with
  |nil=>cases e4
  |cons d1 ds=>cases e4;exact⟨ys,ds,e1,e3⟩
 |_=>cases e4
section
variable{X:Cx}{U:tz9}{e:Expr}{es:List Expr}{C qual:Str}{st:Stmt}{ps:List Str}{f:Addr}{fd:FuncData}{k np:Nat}{mk:Nat->Bool}{g:tz7}{as:List Arg}{pos p:Pos}
theorem xz5{H H1:Hp}{Q:VK}{d:D}{ys ds:List D}{us:List V}{x dx:Addr}(s1:SameK H H1)(hx:H1 x=none)(hdx:H1 dx=none)(hne:dx≠x)(ry:Reps X.K U H1 us ys [])(hnp:np=ys.length+1)(hm:mk=oU)(eg:g (.obj true C [] []::ys)=some (.non,d::ds))(q:lA X.K U H d Q):
  SpE np X.K U mk g (.ref x::us) (upd (upd H1 dx (.own x)) x (.ins (U C) dx [])) (fun v H2=>v= .non/\Q (.ref x) H2) E0:=by
 subst hnp hm
 have ne:∀a o,H1 a=some o->a≠x/\a≠dx:=fun a o h=>⟨fun z=>(by rw [z,hx] at h;cases h),fun z=>(by rw [z,hdx] at h;cases h)⟩
 have up:∀a o,H1 a=some o->upd (upd H1 dx (.own x)) x (.ins (U C) dx []) a=some o:=fun a o h=>by rw [bK (ne a o h).1,bK (ne a o h).2];exact h
 have gr:∀a,upd (upd H1 dx (.own x)) x (.ins (U C) dx []) a=none->H1 a=none:=fun a h=>by
  by_cases z:a=x
  ·rw [z];exact hx
  ·rw [bK z] at h
   by_cases z2:a=dx
   ·rw [z2];exact hdx
   ·rwa [bK z2] at h
 have s2:SameK H1 (upd (upd H1 dx (.own x)) x (.ins (U C) dx [])):=⟨fun a o h _=>up a o h,gr⟩
 have r0:Rep X.K U (upd (upd H1 dx (.own x)) x (.ins (U C) dx [])) (.ref x) (.obj true C [] []) [x]:= .obj (fs:=[]) cX rfl .nil
 have ry2:Reps X.K U (upd (upd H1 dx (.own x)) x (.ins (U C) dx [])) us ys []:=ry.move (fun a o h _=>up a o h) fun a ha=>absurd ha (by simp)
 refine⟨by rw [Z6,ry.length],_,.non,d::ds,vG [x],by simp,zk9 r0 (by simp) ry2,eg,fun u H' F' fv s o rv=>⟨by cases rv;rfl,?_⟩⟩
 obtain⟨v2,fp2,k1,k2,k3,_⟩:=s.rs.rep 0 d rfl
 have ek:v2= .ref x:=by
  have:(List.map some (V.ref x::us))[0]? =some (some v2):=k1
  simp at this;exact this.symm
 subst ek
 have k3':=k3 (by simp [fxE,oU])
 subst k3'
 refine q (.ref x) H' (F' 0) ⟨fun a o h hk=> ?_,fun a h=>s1.grow a (gr a (s.fr.grow a h))⟩ (fun a ha=> ?_) (s.rs.nd 0) k2
 ·have h1:=s1.keep a o h hk
  refine s.fr.keep a o (up a o h1) hk fun i hi=> ?_
  have:=(lM hi).2
  simp at this
  exact(ne a o h1).1 this
 ·rcases s.nw 0 a ha with ⟨i,hi⟩|z
  ·have:=(lM hi).2
   simp at this
   subst this
   exact s1.grow a hx
  ·exact s1.grow a (gr a z)
theorem mK(Kd:Kn X.K X.mg U C qual st ps f fd)(G:FnOk X.prog X.w X.K X.mg X.base CX0 k f fd ps (SpE np X.K U mk g))(hr:Room (k+1) X.A)(hg:Gl X C)(ha:PA X (e::es) (tIO X.K U as))(has:yb7 as=true)(hnp:np=as.length+1)(hm:mk=oU)
  (hdb:(C==("__debug__":Str))=false:=by decide) (he:starEach (e::es) X.env=(false,eval e X.env)::starEach es X.env:=by rfl) (hpl:(backTo pos (starEach es X.env)).any (·.1)=false:=by rfl):
  QP X U (.Call (.Name C p) (e::es) [] pos) (fD C (cC as) g):=(xx5 Kd.M G hr hg Kd.m Kd.b .nil zc6 ha hdb he hpl).imp fun σ H Q hh_=>by
 obtain⟨ps,d,w,e,q⟩:=hh_
 obtain⟨ys,ds,e1,e2⟩:=yv0 e
 refine⟨ps,ys,w,e1,fun us H1 s1 a1 x dx hx hdx hne=> ?_⟩
 show SpE np X.K U mk g (_::(us++[])) _ _ E0
 rw [Zq]
 exact xz5 s1 hx hdx hne (a1.reps has) (by rw [hnp,a1.len.2]) hm e2 q
end
section
variable{X:Cx}{U:tz9}
theorem xe9:MtR X "str.startswith" (fun x xs H Q=>∃z y,x= .str z/\xs=[.str y]/\Q (.bl (Txt.startswith z y)) H):=⟨by
 intro pins s σ H x xs v us Q I rx r h
 obtain⟨z,y,rfl,rfl,q⟩:=h
 obtain⟨t,rfl⟩:=rx
 obtain⟨u,rfl,t',rfl⟩:=mH r
 exact SC.startswith ⟨.bl _,H,I.tok _,rfl,q⟩⟩
def qG:D->tz6
 | .str z,[.str y]=>some (.bl (Txt.startswith z y))
 |_,_=>none
theorem yf5:MtR X "str.startswith" (PMt X.K U qG):=⟨by
 rintro pins s σ H x vs v us Q I rx r ⟨dx,ds,fx,fp,d,r1,rs,e,q⟩
 unfold qG at e
 split at e
 ·cases e
  obtain⟨w,rfl,r2⟩:=rs.one_inv
  exact xe9 pins s σ H x _ v us Q I rx r ⟨_,_,r1.is_str,by rw [r2.is_str],q.now (.bl _)⟩
 ·cases e⟩
end
theorem dH(n:Nat):bC (true::List.replicate n false)=oU:=by
 funext i
 unfold bC oU
 cases i with
 |zero=>rfl
 |succ i=>
  rw [Yd,Yq]
  split<;>simp
def kap:List (Str×Addr)->tz9
 |[],_=>mainGlobals
 |(x,a)::r,y=>if x=y then a else kap r y
section
variable{X:Cx}{pins:tzB}{σ:St}{H:Hp}{s:Shared}{a C dx:Addr}{fs:List (Str×V)}
theorem Inv.freeze(I:Inv X pins σ H s)(h:H a=some (.ins C dx fs)):Inv X pins σ (upd H a (.frz (PySem.W.instObj C dx) (.ins C dx fs))) s:=by
 have ne:∀b,H b=none->b≠a:=fun b hb z=>by rw [z,h] at hb;cases hb
 have nt:∀b o,H b=some o->(∀C' dx' fs',o≠ .ins C' dx' fs')->b≠a:=fun b o hb ho z=>by
  rw [z,h] at hb
  cases hb
  exact ho _ _ _ rfl
 refine⟨I.ok,I.os,I.bare,⟨I.base.keep,I.base.slot,fun b o h1 h2 h3=> ?_,I.base.there,fun b xs h1=> ?_,fun b o u h1=> ?_,fun b ps h1=> ?_⟩,I.loc,I.cell,?_,fun x c e=> ?_,fun p hp=> ?_,fun b o e=> ?_,I.len⟩
 ·have:=I.base.free b o h1 h2 h3
  rw [bK (ne b this)];exact this
 ·have:=I.base.tups b xs h1
  rw [bK (nt b _ this fun _ _ _ z=>by cases z)];exact this
 ·have:=I.base.frzs b o u h1
  rw [bK (nt b _ this fun _ _ _ z=>by cases z)];exact this
 ·obtain⟨more,this⟩:=I.base.tbls b ps h1
  exact⟨more,by rw [bK (nt b _ this fun _ _ _ z=>by cases z)];exact this⟩
 ·rw [bK (ne _ I.free)];exact I.free
 ·have:=I.freeC x c e
  rw [bK (ne _ this)];exact this
 ·obtain⟨p1,p2,p3⟩:=I.pin p hp
  exact⟨p1,by rw [bK (ne _ p2)];exact p2,p3⟩
 ·have st:∀{b o},dL X.prog X.w H s.heap b o->dL X.prog X.w (upd H a (.frz (PySem.W.instObj C dx) (.ins C dx fs))) s.heap b o:=fun x=>
   x.stay (fun _ _ _ q=>q) (fun b' hb=>by rw [bK (nt b' _ hb fun _ _ _ z=>by cases z)];exact hb) fun b' xs hb=>by rw [bK (nt b' _ hb fun _ _ _ z=>by cases z)];exact hb
  by_cases z:b=a
  ·subst z
   rw [cX] at e
   cases e
   have x:=I.hok b _ h
   obtain⟨_,_,_,ob,_⟩:=(show dL X.prog X.w H s.heap b (.ins C dx fs) from x)
   exact⟨ob,st x⟩
  ·rw [bK z] at e
   exact st (I.hok b o e)
end
theorem PE.frz(h:PE X e t):PE X e (fun σ H Q=>t σ H fun x H'=>∃a C dx fs,x= .ref a/\H' a=some (.ins C dx fs)/\Q x (upd H' a (.frz (PySem.W.instObj C dx) (.ins C dx fs)))):=⟨by
 intro pins s σ H Q I q
 exact thn (h pins s σ H _ I q) fun v s1 ⟨x,H1,I1,rx,a,C,dx,fs,ex,ea,q1⟩=>⟨x,_,I1.freeze ea,rx,q1⟩⟩
def mW(f:tz2):tz2:=fun ps=>(f ps).bind fun d=>match d with
 | .obj true C ns vs=>if D.imms vs=true then some (.obj false C ns vs) else none
 |_=>none
theorem zl1(h:QP X U e f):QP X U e (mW f):=
 (PE.frz h).imp fun σ H Q hh_=>by
  obtain⟨ps,d,w,e,q⟩:=hh_
  obtain⟨d0,e1,e2⟩:=bind_some e
  refine⟨ps,d0,w,e1,fun v H1 fv s1 n1 nd1 r1=> ?_⟩
  cases d0 with
  | obj o C ns vs=>cases o with
   | true=>
    have e2':(if D.imms vs=true then some (D.obj false C ns vs) else none)=some d:=e2
    obtain⟨hi,e3⟩:=bV e2'
    cases e3
    obtain⟨l,dx,fs,g,rfl,hl,hn,hs,rfl⟩:=r1.objT_inv
    have eg:=hs.imm hi
    subst eg
    have hln:=n1 l Z0
    have up:∀b o,H b=some o->b≠l:=fun b o hb z=>by rw [z,hln] at hb;cases hb
    refine⟨l,U C,dx,fs,rfl,hl,q (.ref l) _ [] ⟨fun b o hb hk=> ?_,fun b hb=> ?_⟩ (fun _ h=>absurd h (by simp)) Zr (.objF cX hn (hs.move (fun b o hb ht=> ?_) fun _ h=>absurd h (by simp)))⟩
    ·rw [bK (up b o hb)];exact s1.keep b o hb hk
    ·by_cases z:b=l
     ·rw [z,cX] at hb;cases hb
     ·rw [bK z] at hb;exact s1.grow b hb
    ·by_cases z:b=l
     ·rw [z,hl] at hb;cases hb;cases ht
     ·rw [bK z];exact hb
   |false=>cases e2
  |_=>cases e2
section
variable{X:Cx}{U:tz9}
theorem xo8:MtR X "str.rfind" (fun x xs H Q=>∃z y,x= .str z/\xs=[.str y]/\Q (.int (Txt.rfind z y)) H):=⟨by
 intro pins s σ H x xs v us Q I rx r h
 obtain⟨z,y,rfl,rfl,q⟩:=h
 obtain⟨t,rfl⟩:=rx
 obtain⟨u,rfl,t',rfl⟩:=mH r
 exact SC.rfind ⟨.int _,H,I.tok _,⟨_,rfl⟩,q⟩⟩
def zo5:D->tz6
 | .str z,[.str y]=>some (.int (Txt.rfind z y))
 |_,_=>none
theorem xz6:MtR X "str.rfind" (PMt X.K U zo5):=⟨by
 rintro pins s σ H x vs v us Q I rx r ⟨dx,ds,fx,fp,d,r1,rs,e,q⟩
 unfold zo5 at e
 split at e
 ·cases e
  obtain⟨w,rfl,r2⟩:=rs.one_inv
  exact xo8 pins s σ H x _ v us Q I rx r ⟨_,_,r1.is_str,by rw [r2.is_str],q.now (.int _)⟩
 ·cases e⟩
end
def fTE(f:tz8):PSt->Option (Bool×PSt):=fun ps=>(f ps).bind fun r=>(zt9 r.1).bind fun b=>some (b,r.2)
def fE2(g:D->D->Option D)(fa:tz8)(fb:tz2):tz8:=fun ps=>(fa ps).bind fun r=>(fb r.2).bind fun y=>(g r.1 y).bind fun d=>some (d,r.2)
section
variable{X:Cx}{U:tz9}{φ:F0}{a b:Expr}{pos:Pos}
theorem xz7(h:QE X U φ a f)(he:∀whole,isTrue a X.env whole=(do let v<-whole;standAt a.pos;holding [v] (truthy v)):=by intro _;rfl):QTE X U φ a (fTE f):=(yd2 h he).imp fun σ H Q hh_=>by
 obtain⟨ps,F,c,ps',R,e,q⟩:=hh_
 obtain⟨⟨d,p1⟩,e1,e2⟩:=bind_some e
 obtain⟨c1,e3,e4⟩:=bind_some e2
 cases e4
 exact⟨ps,F,d,p1,R,e1,fun v H' F' fv s o r=>⟨_,yo5 r e3,q H' F' s⟩⟩
theorem wh7(ho:OpR X (compareOp op) (POp X.K U g))(ha:QE X U φ a fa)(hb:QV X U b fb)(hm:behindInMarks op b=false):QE X U φ (.Compare a [op] [b] pos) (fE2 g fa fb):=
 (yn8 ho ha hb hm).imp fun σ H Q hh_=>by
  obtain⟨ps,F,d,ps',R,e,q⟩:=hh_
  obtain⟨⟨dx,p1⟩,e1,e2⟩:=bind_some e
  obtain⟨y,e3,e4⟩:=bind_some e2
  obtain⟨d1,e5,e6⟩:=bind_some e4
  cases e6
  refine⟨ps,F,dx,p1,R,e1,fun v H1 F1 fv s1 o1 r1=>⟨p1,y,s1.rs.ws,e3,fun u H2 fu s2 r2=>⟨dx,y,_,fv,fu,r1.same s2,r2,e5,fun w H3 fw s3 n3 nd3 r3=> ?_⟩⟩⟩
  exact q w H3 F1 fw (s1.trans (.same s1.rs (s2.trans s3))) (OwnV.after s1 (OwnV.new s1.rs (fun a ha=>s2.grow a (n3 a ha)) nd3)) r3
end
def xu0:D->Option (List D)
 | .tup ds=>some ds
 |_=>none
theorem xf0(h:xu0 d=some ys):d= .tup ys:=by
 unfold xu0 at h
 split at h
 ·cases h;rfl
 ·cases h
def nA(is:List Nat)(f:tz1):List D->tz1
 |[],ps=>some (.nx,ps)
 | d::ds,ps=>(xu0 d).bind fun ys=>if ys.length=is.length then(f (oR ps is ys)).bind fun q=>match q with
   |(.nx,p)=>nA is f ds p
   |(.ct,p)=>nA is f ds p
   |(.bk,p)=>some (.nx,p)
   |(.ret d,p)=>some (.ret d,p)
  else none
def yb8(is:List Nat)(fi:tz3)(f:tz1):tz1:=fun ps=>(fi ps).bind fun ds=>nA is f ds ps
def yz1:D->Option (List D)
 | .lst true xs=>if D.imms xs=true then some xs else none
 |_=>none
theorem yv1(h:yz1 d=some xs):d= .lst true xs/\D.imms xs=true:=by
 unfold yz1 at h
 split at h
 ·obtain⟨h1,h2⟩:=bV h
  cases h2
  exact⟨rfl,h1⟩
 ·cases h
def DkT{α:Type}:Sem α->Prop
 | .pure _=>True
 | .raise _=>True
 | .unsupported _=>True
 | .rule _ k=>∀x,DkT (k x)
 | .at _ k=>∀x,DkT (k x)
 | .load _ _ k=>∀x,DkT (k x)
 | .update _ _ f k=>(∀o:Obj,(f o).dict=o.dict)/\∀x,DkT (k x)
 | .alloc _ k=>∀x,DkT (k x)
 | .stack k=>∀x,DkT (k x)
 |_=>False
theorem DkT.bind{α β:Type}{f:α->Sem β}(hf:∀a,DkT (f a)):∀{m:Sem α},DkT m->DkT (m>>=f):=by
 intro m
 show DkT m->DkT (m.bind f)
 induction m with
 |pure a=>exact fun _=>hf a
 |raise=>exact fun _=>trivial
 |unsupported=>exact fun _=>trivial
 |rule _ k ih=>exact fun h x=>ih x (h x)
 |«at» _ k ih=>exact fun h x=>ih x (h x)
 |load _ _ k ih=>exact fun h x=>ih x (h x)
 |update _ _ f k ih=>exact fun h=>⟨h.1,fun x=>ih x (h.2 x)⟩
 |alloc _ k ih=>exact fun h x=>ih x (h x)
 |stack k ih=>exact fun h x=>ih x (h x)
 |_=>exact fun h=>h.elim
def KDs(h h':Heap):Prop:=∀(b:Nat) (o:Obj),h.objs[b]? =some o->∃o':Obj,h'.objs[b]? =some o'/\o'.dict=o.dict
theorem KDs.refl(h:Heap):KDs h h:=fun b o e=>⟨o,e,rfl⟩
theorem KDs.trans(x:KDs a b)(y:KDs b c):KDs a c:=fun i o e=>by
 obtain⟨o1,e1,q1⟩:=x i o e
 obtain⟨o2,e2,q2⟩:=y i o1 e1
 exact⟨o2,e2,q2.trans q1⟩
theorem yv2(d:∀o:Obj,(f o).dict=o.dict)(h:Heap):KDs h (h.update a f):=fun b o e=>by
 obtain⟨os,l⟩:=h
 show ∃o':Obj,(os.modify a f)[b]? =some o'/\o'.dict=o.dict
 have e':os[b]? =some o:=e
 rw [Array.getElem?_modify,e']
 split
 ·exact⟨_,rfl,d o⟩
 ·exact⟨o,rfl,rfl⟩
theorem xo9(h:Heap)(x:Obj):KDs h (h.push x):=fun b o e=>by
 obtain⟨os,l⟩:=h
 have e':os[b]? =some o:=e
 refine⟨o,?_,rfl⟩
 show(os.push x)[b]? =some o
 have hl:=(Array.getElem?_eq_some_iff.mp e').1
 rw [Array.getElem?_push,if_neg (ZH hl)];exact e'
theorem wo7:∀(t:Sem α),DkT t->∀{Q:α->Pos->Shared->Prop} (p:Pos) (s:Shared),Sem.wp M Γ t Q E p s->Sem.wp M Γ t (fun a p s'=>Q a p s'/\KDs s.heap s'.heap) E p s:=by
 intro t
 have up:∀{t:Sem α} {Q:α->Pos->Shared->Prop} {p:Pos} {s:Shared} {h:Heap},KDs h s.heap->Sem.wp M Γ t (fun a p s'=>Q a p s'/\KDs s.heap s'.heap) E p s->Sem.wp M Γ t (fun a p s'=>Q a p s'/\KDs h s'.heap) E p s:=fun k x=>Sem.wp_mono M Γ _ (fun _ _ _ z=>⟨z.1,k.trans z.2⟩) (fun _ _ _ z=>z) _ _ x
 induction t with
 |pure a=>exact fun _ Q p s h=>⟨h,.refl _⟩
 |raise e=>exact fun _ Q p s h=>h
 |unsupported=>exact fun _ Q p s h=>h
 |rule _ k ih=>exact fun d Q p s h=>ih () (d ()) p s h
 |«at» p' k ih=>exact fun d Q p s h=>ih () (d ()) p' s h
 |load a _ k ih=>exact fun d Q p s h=>by obtain⟨o,e,h⟩:=h;exact⟨o,e,ih o (d o) p s h⟩
 |update a _ f k ih=>exact fun d Q p s h=>⟨h.1,up (yv2 d.1 _) (ih () (d.2 ()) p _ h.2)⟩
 |alloc o k ih=>exact fun d Q p s h=>up (t:=k s.heap.objs.size) (s:={s with heap:=s.heap.push o}) (xo9 _ o) (ih _ (d _) p _ h)
 |stack k ih=>exact fun d Q p s h=>ih _ (d _) p s h
 |_=>exact fun d=>d.elim
theorem uC(d:DkT t)(h:wpAny M A t Q E s):wpAny M A t (fun a s'=>Q a s'/\KDs s.heap s'.heap) E s:=
 fun Γ p hΓ=>wo7 t d p s (h Γ p hΓ)
theorem zr7(o:Obj)(f:Array Value->Array Value):(Obj.mapFields f o).dict=o.dict:=by
 unfold Obj.mapFields
 split<;>rfl
theorem zr8:DkT (load a):=fun _=>trivial
theorem xJ{v:Value}{i:Nat}:DkT (field v i):=by
 unfold field fieldsOf
 refine DkT.bind (fun _=>by split<;>trivial) ?_
 split
 ·exact DkT.bind (fun _=>by split<;>trivial) zr8
 ·trivial
theorem yf6{v x:Value}{i:Nat}:DkT (setField v i x):=by
 unfold setField updateField
 split
 ·refine DkT.bind (fun _=> ?_) zr8
  split
  ·split
   ·exact⟨fun o=>zr7 o _,fun _=>trivial⟩
   ·trivial
  ·trivial
 ·trivial
theorem zO{e:Value}{f:Option Addr}:DkT (setFlight e f):=by
 unfold setFlight
 refine DkT.bind (fun _=> ?_) xJ
 split
 ·exact yf6
 ·trivial
theorem yf7:∀l:List Env,DkT (readyFrames l)
 |[]=>trivial
 | env::outer=>by
  unfold readyFrames
  split
  ·refine DkT.bind (fun _=> ?_) zr8
   split
   ·trivial
   ·refine DkT.bind (fun _=>DkT.bind (fun _=>DkT.bind (fun _=>yf7 outer) (by exact⟨fun _=>rfl,fun _=>True.intro⟩)) ?_) ?_
    ·unfold keptBack
     split
     ·split
      ·trivial
      ·exact DkT.bind (fun _=>by exact True.intro) (DkT.bind (fun _=>by exact True.intro) (by exact fun _=>True.intro))
     ·trivial
    ·unfold behindIsImport
     split
     ·trivial
     ·split
      ·trivial
      ·exact DkT.bind (fun _=>by exact True.intro) xJ
  ·trivial
theorem yp3{e:Value}{env:Env}:DkT (noteFrame e env):=by
 unfold noteFrame
 split
 ·refine DkT.bind (fun hd=> ?_) xJ
  have nw:∀{f:Addr} {b:Bool},DkT (do setField e 1 (<-EntryCells.newEntry hd (<-PySem.frameOf env) .none (rawInt f) .none (<-entryPlaceOf f b))):=fun {f b}=>by
   refine DkT.bind (fun _=>DkT.bind (fun _=>DkT.bind (fun _=>yf6) ?_) ?_) ?_
   ·unfold EntryCells.newEntry newFields newObj newObjAsIs
    dsimp only
    split<;>split<;>first|exact True.intro|exact fun _=>True.intro
   ·unfold entryPlaceOf
    refine DkT.bind (fun _=> ?_) (by exact fun _=>True.intro)
    split<;>trivial
   ·unfold PySem.frameOf
    refine DkT.bind (fun _=>DkT.bind (fun _=>by split<;>trivial) ?_) (DkT.bind (fun _=>by exact True.intro) (by exact fun _=>True.intro))
    unfold frameObject
    split
    ·trivial
    ·exact DkT.bind (fun _=>by exact True.intro) (yf7 _)
  split
  ·refine DkT.bind (fun _=> ?_) xJ
   split
   ·exact True.intro
   ·exact DkT.bind (fun _=>nw) yf6
  ·exact nw
 ·trivial
theorem yf8{e:Value}{env:Env}:DkT (leaving env e):=DkT.bind (fun _=>zO) yp3
def KD(e:Addr)(dd:Option Addr)(h:Heap):Prop:=∃o,h.get? e=some o/\o.dict=dd
theorem yf9{h:Heap}{e:Addr}{o:Obj}(q:h.get? e=some o):h.objs[e]? =some o:=by
 unfold Heap.get? at q
 split at q
 ·cases q
 ·exact q
theorem KD.step{e:Addr}{dd:Option Addr}{h h':Heap}(k:KD e dd h)(s:KDs h h')(t:∃o,h'.get? e=some o):KD e dd h':=by
 obtain⟨o,q1,q2⟩:=k
 obtain⟨o',q3⟩:=t
 obtain⟨o2,q4,q5⟩:=s e o (yf9 q1)
 rw [yf9 q3] at q4
 cases q4
 exact⟨o',q3,q5.trans q2⟩
section
variable{M:Model}{A:Around}{E:Value->Shared->Prop}{s:Shared}{base:Heap}{env:Env}{outer:List Env}{L e:Addr}{oe:Obj}{vs:Array Value}{dd:Option Addr}{cls a0:Value}
theorem yv3(fr:A.frames=some (env::outer))(hf:env.frame=some L)(fl:Heap.FlyingW base (env::outer) e cls a0 s.heap)(kd:KD e dd s.heap)(q:∀h',Heap.FlyingW base outer e cls a0 h'->s.heap.UpToSlots h'->KD e dd h'->Q () {s with heap:=h'}):wpAny M A (leaving env (.ref e)) Q E s:=
 ZO (uC yf8 (wpAny_leaves_onW (Q:=fun _ s'=>∃h',s'={s with heap:=h'}/\Heap.FlyingW base outer e cls a0 h'/\s.heap.UpToSlots h') fr hf fl fun h' x y=>⟨h',rfl,x,y⟩)) (fun _ _ h=>by
  obtain⟨⟨h',rfl,x,y⟩,z⟩:=h
  exact q h' x y (kd.step z (x.there.imp fun _ w=>w.1))) fun _ _ h=>h
theorem xf1(fr:A.frames=some (env::outer))(ff:s.heap.FunFrames base (env::outer))(hf:env.frame=some L)(he:s.heap.get? e=some oe)(kb:base.StaysIn s.heap)(en:base.get? e=none)(hd:oe.data= .fields vs)(h1:vs[1]? =some .none)(h0:vs[0]? =some a0)(kd:oe.dict=dd)
  (q:∀h',Heap.LeftW base (env::outer) e oe.cls a0 s.heap h'->KD e dd h'->Q () {s with heap:=h'}):wpAny M A (leaving env (.ref e)) Q E s:=
 ZO (uC yf8 (wpAny_leaving_firstW (Q:=fun _ s'=>∃h',s'={s with heap:=h'}/\Heap.LeftW base (env::outer) e oe.cls a0 s.heap h') fr ff hf he kb en hd h1 h0 fun h' x=>⟨h',rfl,x⟩)) (fun _ _ h=>by
  obtain⟨⟨h',rfl,x⟩,z⟩:=h
  exact q h' x (KD.step ⟨oe,he,kd⟩ z (x.2.2.1.at.there.imp fun _ w=>w.1))) fun _ _ h=>h
theorem xf2(fr:A.frames=some (env::outer))(hf:env.frame=some L)(fl:Heap.FlyingW base (env::outer) e cls a0 s.heap)(kd:KD e dd s.heap)(q:∀h',Heap.HeldW base (env::outer) e cls a0 L h'->s.heap.UpToSlots h'->KD e dd h'->Q () {s with heap:=h'}):wpAny M A (noteFrame (.ref e) env) Q E s:=
 ZO (uC yp3 (wpAny_looks_onW (Q:=fun _ s'=>∃h',s'={s with heap:=h'}/\Heap.HeldW base (env::outer) e cls a0 L h'/\s.heap.UpToSlots h') fr hf fl fun h' x y=>⟨h',rfl,x,y⟩)) (fun _ _ h=>by
  obtain⟨⟨h',rfl,x,y⟩,z⟩:=h
  exact q h' x y (kd.step z (x.there.imp fun _ w=>w.1))) fun _ _ h=>h
theorem wh8(hh:Heap.HeldW base l e cls a0 L s.heap)(kd:KD e dd s.heap)(q:∀h',Heap.FlyingW base l e cls a0 h'->s.heap.UpToSlots h'->KD e dd h'->Q () {s with heap:=h'}):wpAny M A (setFlight (.ref e) none) Q E s:=
 ZO (uC zO (wpAny_landsW (Q:=fun _ s'=>∃h',s'={s with heap:=h'}/\Heap.FlyingW base l e cls a0 h'/\s.heap.UpToSlots h') hh fun h' x y=>⟨h',rfl,x,y⟩)) (fun _ _ h=>by
  obtain⟨⟨h',rfl,x,y⟩,z⟩:=h
  exact q h' x y (kd.step z (x.there.imp fun _ w=>w.1))) fun _ _ h=>h
theorem xz8(hh:Heap.FlyingW base l e cls a0 s.heap)(kd:KD e dd s.heap)(q:∀h',Heap.FlyingW base l e cls a0 h'->s.heap.UpToSlots h'->KD e dd h'->Q () {s with heap:=h'}):wpAny M A (setFlight (.ref e) none) Q E s:=
 ZO (uC zO (PyProof.Rows.lands_againW (Q:=fun _ s'=>∃h',s'={s with heap:=h'}/\Heap.FlyingW base l e cls a0 h'/\s.heap.UpToSlots h') hh fun h' x y=>⟨h',rfl,x,y⟩)) (fun _ _ h=>by
  obtain⟨⟨h',rfl,x,y⟩,z⟩:=h
  exact q h' x y (kd.step z (x.there.imp fun _ w=>w.1))) fun _ _ h=>h
end
theorem dL.get(x:dL P w H h a o):∃u,h.get? a=some u:=by
 cases o with
 |lst xs=>obtain⟨_,_,_,_,e⟩:=x;exact⟨_,e⟩
 |tup xs=>obtain⟨_,_,_,_,e,_⟩:=x;exact⟨_,e⟩
 |dK kvs=>obtain⟨_,_,_,_,o,_,_,e,_⟩:=x;exact⟨_,e⟩
 |dT kvs=>obtain⟨_,_,_,_,o,_,_,e,_⟩:=x;exact⟨_,e⟩
 |set S n=>obtain⟨o,_,_,_,e,_⟩:=x;exact⟨_,e⟩
 |ins C dx fs=>obtain⟨_,_,_,e,_⟩:=x;exact⟨_,e⟩
 |own y=>exact x
 |xd fs=>obtain⟨_,⟨_,_,_,e,_⟩,_⟩:=x;exact⟨_,e⟩
 |rng lo hi=>obtain⟨_,_,_,e⟩:=x;exact⟨_,e⟩
 |frz ob u=>obtain⟨e,_⟩:=x;exact⟨_,e⟩
 |tbl ps=>exact⟨_,(show h.get? a=some _ from x)⟩
 |met f y=>exact⟨_,(show h.get? a=some _ from x)⟩
 |ext φ=>obtain⟨_,e,_⟩:=x;exact e
theorem HOk.none_of(x:HOk P w H h){a:Addr}(e:h.get? a=none):H a=none:=by
 cases q:H a with
 |none=>rfl
 |some o=>obtain⟨u,z⟩:=(x a o q).get;rw [e] at z;cases z
theorem HOk.but(x:HOk P w H h)(k:∀b o u,H b=some o->h.get? b=some u->h'.get? b=some u):HOk P w H h':=fun a o e=>
 (x a o e).stay (fun b u hb q=>by
  rcases hb with rfl|hb
  ·exact k _ _ _ e q
  ·exact k _ _ _ hb q) (fun _ q=>q) fun _ _ q=>q
theorem zw3(e:(PySem.W.hideAll h as).get? b=none):b∈as\/h.get? b=none:=by
 cases q:h.get? b with
 |none=>exact .inr rfl
 |some o=>
  by_cases m:b∈as
  ·exact .inl m
  ·rw [Yb as q m] at e;cases e
theorem yp4(h:env∈l)(e:env.frame=some a):a∈frs l:=YI.mpr ⟨env,h,e⟩
structure Fly(base:Heap)(C:Addr)(l:List Env)(H:Hp)(h0:Heap)(e T:Addr)(a0:Value)(h:Heap):Prop where
 ne:h0.get? e=none
 nT:h0.get? T=none
 He:H e=none
 HT:H T=none
 st:base.StaysIn h
 be:base.get? e=none
 bT:base.get? T=none
 fr:h.FunFrames base l
 tr:∃oe vs oT ts,h.get? e=some oe/\(oe.cls= .ref C/\vs[0]? =some a0)/\oe.data= .fields vs/\vs[1]? =some (.ref T)/\T≠e/\h.get? T=some oT/\oT.data= .fields ts/\ts[3]? =some .none
abbrev xu1(h:Heap)(l:List Env)(e T:Addr):Heap:=PySem.W.hideAll h (e::T::frs l)
section
variable{base h0 h:Heap}{C e T:Addr}{l:List Env}{H:Hp}{a0:Value}
theorem Fly.flying(x:Fly base C l H h0 e T a0 h):Heap.FlyingW (xu1 h l e T) l e (.ref C) a0 h:=by
 obtain⟨oe,vs,oT,ts,h1,h2,h3,h4,h5,h6,h7,h8⟩:=x.tr
 refine⟨fun b o q=>Xg _ q,YD _ Z0,W2 x.fr fun env m a q=>Z1 _ (Z1 _ (yp4 m q)),?_⟩
 exact⟨oe,vs,T,oT,ts,h1,h2,h3,h4,YD _ (Z1 _ Z0),h5,h6,h7,h8⟩
theorem Fly.base_in(x:Fly base C l H h0 e T a0 h):base.StaysIn (xu1 h l e T):=fun b o q=>by
 refine Yb _ (x.st b o q) fun m=> ?_
 rcases Z2.mp m with z|m
 ·rw [z,x.be] at q;cases q
 ·rcases Z2.mp m with z|m
  ·rw [z,x.bT] at q;cases q
  ·rw [(x.fr.mem m).1] at q;cases q
theorem Fly.next(x:Fly base C l H h0 e T a0 h)(ok:HOk P w H h)(th:∀b o,h0.get? b=some o->∃o',h.get? b=some o'){h':Heap}{l':List Env}(ups:h.UpToSlots h')(f:Heap.FlyingW (xu1 h l e T) l' e (.ref C) a0 h'):∃T',Fly base C l' H h0 e T' a0 h':=by
 obtain⟨k1,k2,k3,oe,vs,T',oT,ts,h1,h2,h3,h4,h5,h6,h7,h8,h9⟩:=f
 have hT:T'=T\/h.get? T'=none:=by
  rcases zw3 h5 with m|m
  ·rcases Z2.mp m with z|m
   ·exact absurd z h6
   ·rcases Z2.mp m with z|m
    ·exact .inl z
    ·obtain⟨_,o,q1,q2⟩:=x.fr.mem m
     obtain⟨sl,q3⟩:=ups T' o q1 q2
     rw [h7] at q3;cases q3
     exact absurd h8 (q2 _)
  ·exact .inr m
 refine⟨T',x.ne,?_,x.He,?_,fun b o q=>k1 b o (x.base_in b o q),x.be,?_,W3 x.base_in k3,oe,vs,oT,ts,h1,h2,h3,h4,h6,h7,h8,h9⟩
 ·rcases hT with z|z
  ·rw [z];exact x.nT
  ·cases q:h0.get? T' with
   |none=>rfl
   |some o=>obtain⟨o',q'⟩:=th _ _ q;rw [z] at q';cases q'
 ·rcases hT with z|z
  ·rw [z];exact x.HT
  ·exact ok.none_of z
 ·cases q:base.get? T' with
  |none=>rfl
  |some o=>have:=x.base_in T' o q;rw [h5] at this;cases this
end
theorem zr9(fr:h.FunFrames base l)(ups:h.UpToSlots h')(st:(PySem.W.hideAll h (S++frs l)).StaysIn h'):Un (frs l) S H H h h':=by
 have kp:∀b o,h.get? b=some o->b∉frs l->b∉S->h'.get? b=some o:=fun b o q n1 n2=>st b o (Yb _ q fun m=>(Zk.mp m).elim n2 n1)
 have sl:∀b o,h.get? b=some o->b∈frs l->∃s,h'.get? b=some {o with slots:=s}:=fun b o q m=>by
  obtain⟨_,o',q1,q2⟩:=fr.mem m
  rw [q] at q1;cases q1
  exact ups b o q q2
 refine⟨fun b o q _ hb hx=>kp b o q hb hx,fun b o q _ hb _=>sl b o q hb,fun _ _ _ n _=>n,fun b o q hx=> ?_,fun _ _ q=>q,fun _ _ _ q=>q,fun _ ps q=>⟨#[],by rw [q];simp⟩⟩
 by_cases hb:b∈frs l
 ·obtain⟨s,e⟩:=sl b o q hb;exact⟨_,e⟩
 ·exact⟨o,kp b o q hb hx⟩
theorem zs0(u:Un fs' ex' H H' h h')(hx:∀b o,h.get? b=some o->b∉ex')(hf:∀b o,h.get? b=some o->b∈fs'->b∈fs):Un fs [] H H' h h':=
 ⟨fun b o q n hb _=>u.keep b o q n (fun z=>hb (hf b o q z)) (hx b o q),fun b o q n _ _=>u.any q n (hx b o q),fun b o q n _=>u.free b o q n (hx b o q),fun b o q _=>u.there b o q (hx b o q),u.tups,u.frzs,u.tbls⟩
theorem zg9(ok:HOk P w H h)(hS:∀b∈S,H b=none)(hF:∀b∈frs l,H b=none)(st:(PySem.W.hideAll h (S++frs l)).StaysIn h'):HOk P w H h':=
 ok.but fun b o u e q=>st b u (Yb _ q fun m=>by
  rcases Zk.mp m with m|m
  ·rw [hS b m] at e;cases e
  ·rw [hF b m] at e;cases e)
def CXn(P:Program)(w:World)(base:Heap)(C:Addr):CXT:=fun outer H s E e s'=>∃ea T a0 dd H',e= .ref ea/\s'.os=s.os/\AllBare s'.gens/\Un (frs outer) [] H H' s.heap s'.heap/\HOk P w H' s'.heap/\Fly base C outer H' s.heap ea T a0 s'.heap/\KD ea dd s'.heap/\E (.ref C) dd H'
theorem Fly.down(x:Fly base C l H h1 e T a0 h)(th:∀b o,h0.get? b=some o->∃o',h1.get? b=some o'):Fly base C l H h0 e T a0 h:=by
 have none:∀{b:Addr},h1.get? b=none->h0.get? b=none:=fun {b} z=>by
  cases q:h0.get? b with
  |none=>rfl
  |some o=>obtain⟨o',q'⟩:=th _ _ q;rw [z] at q';cases q'
 exact⟨none x.ne,none x.nT,x.He,x.HT,x.st,x.be,x.bT,x.fr,x.tr⟩
section
variable{P:Program}{w:World}{K:tz0}{mg:tzA}{base:Heap}{N:List Str}{qual:Str}{scope:Scope}{f C:Addr}{cd:Value}{A:Around}{outer:List Env}{s:Shared}{H:Hp}{E:XK}
theorem zd1:frs (envOfC qual scope s.heap.objs.size f cd::outer)=s.heap.objs.size::frs outer:=rfl
theorem wo8:mY (CXn P w base C) (iU (CXn P w base C) P w K mg base N qual scope f cd A outer s H E) E:=by
 intro pins σ H1 s1 e s2 I h
 obtain⟨ea,T,a0,dd,H2,rfl,os,bare,un,hok,fly,kd,q⟩:=h
 have stk:∀b∈frs (envOfC qual scope s.heap.objs.size f cd::outer),H2 b=none:=fun b m=>by
  obtain⟨_,o,q1,_⟩:=(show s1.heap.FunFrames base (envOfC qual scope s.heap.objs.size f cd::outer) from I.stack).mem m
  exact un.free b o q1 (I.stkFree b m) (by simp)
 have th1:∀b o,s1.heap.get? b=some o->∃o',s2.heap.get? b=some o':=fun b o q=>un.there b o q (by simp)
 have th0:∀b o,s.heap.get? b=some o->∃o',s1.heap.get? b=some o':=fun b o q=>I.base.there b o q (by show b∉([]:List Addr);simp)
 show wpAny (model P w) (A.deeper (envOfC qual scope s.heap.objs.size f cd)) (leaving (envOfC qual scope s.heap.objs.size f cd) (.ref ea)) (fun _ s''=>CXn P w base C outer H s E (.ref ea) s'') (fun e' s''=>CXn P w base C outer H s E e' s'') s2
 refine yv3 (L:=s.heap.objs.size) I.ok.frames rfl fly.flying kd fun h' fl ups kd'=> ?_
 obtain⟨T',fly'⟩:=fly.next hok th1 ups fl
 have st:(PySem.W.hideAll s2.heap ([ea,T]++frs (envOfC qual scope s.heap.objs.size f cd::outer))).StaysIn h':=fl.1
 have u1:Un (frs (envOfC qual scope s.heap.objs.size f cd::outer)) [ea,T] H H1 s.heap s1.heap:=(show Un (frs outer) [] H H1 s.heap s1.heap from I.base).mono (fun b m=>by rw [zd1];exact Z1 _ m) (fun b m=>absurd m (by simp))
 have u2:=un.mono (fs':=frs (envOfC qual scope s.heap.objs.size f cd::outer)) (ex':=[ea,T]) (fun b m=>m) (fun b m=>absurd m (by simp))
 have u3:Un (frs (envOfC qual scope s.heap.objs.size f cd::outer)) [ea,T] H2 H2 s2.heap h':=zr9 fly.fr ups st
 refine⟨ea,T',a0,dd,H2,rfl,os.trans (show s1.os=s.os from I.os),bare,zs0 ((u1.trans u2).trans u3) (fun b o q m=> ?_) (fun b o q m=> ?_),zg9 hok (fun b m=> ?_) stk st,fly'.down th0,kd',q⟩
 ·obtain⟨o',q'⟩:=th0 b o q
  rcases Z2.mp m with z|m
  ·rw [z,fly.ne] at q';cases q'
  ·rw [Zg.mp m,fly.nT] at q';cases q'
 ·rw [zd1] at m
  rcases Z2.mp m with z|m
  ·exact absurd (Zi q) (by rw [z];exact Y3 _)
  ·exact m
 ·rcases Z2.mp m with z|m
  ·rw [z];exact fly.He
  ·rw [Zg.mp m];exact fly.HT
end
abbrev wm7(C:Addr)(dx:Option Addr)(t:Addr):Obj:={cls:= .ref C,dict:=dx,data:= .fields #[.ref t,.none,.none,.none,.bool false,.none]}
section
variable{P:Program}{w:World}{K:tz0}{mg:tzA}{base:Heap}{N:List Str}{qual:Str}{scope:Scope}{f C:Addr}{cd:Value}{A:Around}{outer:List Env}{s:Shared}{H:Hp}{E:XK}
theorem xf3(I:Inv (iU (CXn P w base C) P w K mg base N qual scope f cd A outer s H E) pins σ H2 s2)(ne:s.heap.get? e=none)(He:H2 e=none)(he:s2.heap.get? e=some (wm7 C dd t))(q:E (.ref C) dd H2):
  (iU (CXn P w base C) P w K mg base N qual scope f cd A outer s H E).xe (.ref e) s2:=by
 have fr1:s2.heap.FunFrames base (envOfC qual scope s.heap.objs.size f cd::outer):=I.stack
 have nf:∀b∈frs (envOfC qual scope s.heap.objs.size f cd::outer),base.get? b=none:=fun b m=>(fr1.mem m).1
 have be:base.get? e=none:=by
  cases z:base.get? e with
  |none=>rfl
  |some o=>have:=(I.ok.bs e o z).1;rw [show(iU (CXn P w base C) P w K mg base N qual scope f cd A outer s H E).s₀.heap.get? e=none from ne] at this;cases this
 have th0:∀b o,s.heap.get? b=some o->∃o',s2.heap.get? b=some o':=fun b o q=>I.base.there b o q (by show b∉([]:List Addr);simp)
 have bin:base.StaysIn (PySem.W.hideAll s2.heap ([e]++frs (envOfC qual scope s.heap.objs.size f cd::outer))):=fun b o q=>by
  refine Yb _ (I.bk b o q) fun m=> ?_
  rcases Zk.mp m with m|m
  ·rw [Zg.mp m,be] at q;cases q
  ·rw [nf b m] at q;cases q
 show wpAny (model P w) (A.deeper (envOfC qual scope s.heap.objs.size f cd)) (leaving (envOfC qual scope s.heap.objs.size f cd) (.ref e)) (fun _ s''=>CXn P w base C outer H s E (.ref e) s'') (fun e' s''=>CXn P w base C outer H s E e' s'') s2
 refine xf1 (base:=PySem.W.hideAll s2.heap ([e]++frs (envOfC qual scope s.heap.objs.size f cd::outer))) (L:=s.heap.objs.size) (a0:= .ref t) I.ok.frames (W2 fr1 fun env m a q=>Z7 _ (yp4 m q)) rfl he (fun b o q=>Xg _ q) (YD _ (Zj _ (List.mem_singleton_self e))) rfl rfl rfl rfl fun h'' hL kd=> ?_
 obtain⟨st,fr2,⟨oe,vs2,T,oT,ts,h1,h2,h3,h4,h5,h6,h7,h8,h9⟩,ups⟩:=hL
 have hT:s2.heap.get? T=none:=by
  rcases zw3 h5 with m|m
  ·rcases Zk.mp m with m|m
   ·exact absurd (Zg.mp m) h6
   ·obtain⟨_,o,q1,q2⟩:=fr1.mem m
    obtain⟨sl,q3⟩:=ups T o q1 q2
    rw [h7] at q3;cases q3
    exact absurd h8 (q2 _)
  ·exact m
 have hT0:s.heap.get? T=none:=by
  cases z:s.heap.get? T with
  |none=>rfl
  |some o=>obtain⟨o',z'⟩:=th0 T o z;rw [hT] at z';cases z'
 have bT:base.get? T=none:=by
  cases z:base.get? T with
  |none=>rfl
  |some o=>have:=I.bk T o z;rw [hT] at this;cases this
 have u1:Un (frs (envOfC qual scope s.heap.objs.size f cd::outer)) [e] H H2 s.heap s2.heap:=(show Un (frs outer) [] H H2 s.heap s2.heap from I.base).mono (fun b m=>by rw [zd1];exact Z1 _ m) (fun b m=>absurd m (by simp))
 have u3:Un (frs (envOfC qual scope s.heap.objs.size f cd::outer)) [e] H2 H2 s2.heap h'':=zr9 fr1 ups st
 refine⟨e,T,.ref t,dd,H2,rfl,(show s2.os=s.os from I.os),I.bare,zs0 (u1.trans u3) (fun b o q m=> ?_) (fun b o q m=> ?_),zg9 I.hok (fun b m=> ?_) I.stkFree st,⟨ne,hT0,He,I.hok.none_of hT,fun b o q=>st b o (bin b o q),be,bT,W3 bin fr2.2.2,oe,vs2,oT,ts,h1,h2,h3,h4,h6,h7,h8,h9⟩,kd,q⟩
 ·rw [Zg.mp m,ne] at q;cases q
 ·rw [zd1] at m
  rcases Z2.mp m with z|m
  ·exact absurd (Zi q) (by rw [z];exact Y3 _)
  ·exact m
 ·rw [Zg.mp m];exact He
theorem xf4(I:Inv (iU (CXn P w base C) P w K mg base N qual scope f cd A outer s H E) pins σ H1 s1)(mk:Heap.MadeExcOf s1.heap h' e (.ref C) vs)(q:E (.ref C) none H1):
  (iU (CXn P w base C) P w K mg base N qual scope f cd A outer s H E).xe (.ref e) {s1 with heap:=h'}:=by
 obtain⟨t,he,ht,_⟩:=mk.there
 refine xf3 (I.kept (t':=s1.toks) mk.keeps) ?_ (I.hok.none_of mk.new) he q
 cases z:s.heap.get? e with
 |none=>rfl
 |some o=>obtain⟨o',z'⟩:=I.base.there e o z (by show e∉([]:List Addr);simp);rw [mk.new] at z';cases z'
theorem xf5(O:OwnCls x C bmB newId mg base)(FB:ExcBaseFacts B newId initId bmB)(hg:Gl (iU (CXn P w base C) P w K mg base N qual scope f cd A outer s H E) x)
  (hd:(x==("__debug__":Str))=false:=by decide) (hs:starEach [.Constant (.str z) j p1] (envOfC qual scope s.heap.objs.size f cd)=[(false,eval (.Constant (.str z) j p1) (envOfC qual scope s.heap.objs.size f cd))]:=by rfl):
  PS (iU (CXn P w base C) P w K mg base N qual scope f cd A outer s H E) (.Raise (some (.Call (.Name x np) [.Constant (.str z) j p1] [] cpos)) none pos) (fun _ _ H'=>E (.ref C) none H'):=⟨by
 intro pins s1 σ H1 D I h
 obtain⟨tl,N',nm,q,bs,hdct,sn,sub,ab,col,dd,k0,k1,k2,k3,k5,mN,hC,hN,hni,T⟩:=O.obj
 refine wpAny_Raise_call_subT (C:=C) (nm:=nm) (q:=q) (N:=N') (bs:=bs) (bm:=tl) (hdct:=hdct) (sn:=sn) (sub:=sub) (ab:=ab) (col:=col) (dd:=dd) (k0:=k0) (k1:=k1) (k2:=k2) (k3:=k3) (k5:=k5)
  FB (mN:=mN) (T.hasType FB.hasBase) (I.ok.hd rfl) (by show(backTo cpos (starEach [.Constant (.str z) j p1] (envOfC qual scope s.heap.objs.size f cd))).any (·.1)=false;rw [hs];rfl) hni (sY I hg O.bound ⟨rfl,?_⟩ hd)
 show wpAny (model P w) (A.deeper (envOfC qual scope s.heap.objs.size f cd)) (evalArgs (.ref C) true (backTo cpos (starEach [.Constant (.str z) j p1] (envOfC qual scope s.heap.objs.size f cd))) []) _ _ s1
 rw [hs]
 refine Calls.evalArgs_plain (YU (Calls.Constant_str (k:=j) (pos:=p1) (X2 ?_)))
 have kp:∀b o,base.get? b=some o->s1.heap.get? b=some o:=I.bk
 refine⟨rfl,(show 1<=sizeLine from Zv (by decide) (nR (n:=1) (by decide))),kp _ _ hC,hN.keeps kp,T.keeps kp,fun h' e mk=> ?_⟩
 exact xf4 (I.tok (s1.toks+1)) mk h⟩
end
def tX(φ:Fx)(fx:tz5)(Ex:Hp->Prop):TS:=fun _ σ H=>∃ps F,RS φ H σ ps F/\fx ps=true/\∀H',Frm F H H'->Ex H'
def za9(np:Nat)(K:tz0)(U:tz9)(C:Addr)(g:List D->Bool):Sp:=fun vs H _ E=>vs.length=np/\∃ds fp,Reps K U H vs ds fp/\g ds=true/\∀H',SameK H H'->E (.ref C) none H'
def gX(np n:Nat)(fx:tz5):List D->Bool:=fun ds=>decide (ds.length=np)&&fx (ds.map some++List.replicate n none)
def xu2(ft:tz4)(fx:tz5):tz5:=fun ps=>match ft ps with
 |some true=>fx ps
 |_=>false
def xw1:tz5:=fun _=>true
abbrev QX(X:Cx)(U:tz9)(φ:F0)(Ex:Hp->Prop)(st:Stmt)(fx:tz5):Prop:=PS X st (tX (φ.fx X.K U) fx Ex)
abbrev QXs(X:Cx)(U:tz9)(φ:F0)(Ex:Hp->Prop)(st:List Stmt)(fx:tz5):Prop:=PSs X st (tX (φ.fx X.K U) fx Ex)
theorem xf6(k:Frm (fun _=>[]) H H'):SameK H H':=⟨fun a o h kk=>k.keep a o h kk (fun _=>by simp),k.grow⟩
section
variable{P:Program}{w:World}{K:tz0}{mg:tzA}{base:Heap}{U:tz9}{C:Addr}
theorem zw4{x qual:Str}{st:Stmt}{f:Addr}{fd:FuncData}{N ps:List Str}{k:Nat}{fx:tz5}(F:Fun K x qual st f fd)(S:FnScope N ps (aT st))
  (hbody:∀(cdv:Value) (A:Around) (outer:List Env) (s:Shared) (H:Hp) (E:XK) (B:Nat->Addr->Prop),Room k (A.deeper (envOfC qual (aT st) s.heap.objs.size f cdv))->
   QXs (iU (CXn P w base C) P w K mg base N qual (aT st) f cdv A outer s H E) U (f0P ps.length B) (E (.ref C) none) (mM st) fx):
  FnOk P w K mg base (CXn P w base C) (k+1) f fd ps (za9 ps.length K U C (gX ps.length (N.length-ps.length) fx)):=by
 obtain⟨oc,od,kV,doc,pm,an,cdv,ct,osl,rfl,lk,hcd⟩:=F.ex
 refine xv1 lk hcd S (fun vs H Q E h=>h.1) fun A outer s H vs Q E hr hsp=> ?_
 obtain⟨hl,ds,fp,r,e,q⟩:=hsp
 have hn:ps.length<=N.length:=by have:=ZK List.length S.pre;rw [Yz] at this;omega
 refine⟨_,hbody cdv A outer s H E (fun _ a=>a∈fp) hr,_,fun _=>[],RS.start r hl hn,?_,fun H' fr=>q H' (xf6 fr)⟩
 unfold gX at e
 exact(Bool.and_eq_true_iff.mp e).2
end
section
variable{X:Cx}{U:tz9}{φ:F0}{Ex:Hp->Prop}{fx:tz5}{st:Stmt}{rest:List Stmt}{pos:Pos}
theorem zP:PSs X rest (fun _ _ _=>False):=⟨fun _ _ _ _ _ _ h=>h.elim⟩
theorem zs1(h1:QX X U φ Ex st fx):QXs X U φ Ex (st::rest) fx:=(kD h1 zP).imp fun D σ H h=>h
theorem wo9(hc:QT X.nox U c ft)(ha:QXs X U φ Ex a fx):QX X U φ Ex (.If c a b pos) (xu2 ft fx):=
 (ya4 (PT.nox hc) ha zP).imp fun D σ H hh_=>by
  obtain⟨ps,F,R,e,q⟩:=hh_
  unfold xu2 at e
  split at e
  ·rename_i he
   refine⟨ps,true,R.ws,he,fun H' s=> ?_⟩
   show(if true=true then tX (φ.fx X.K U) fx Ex D σ H' else _)
   rw [if_pos rfl]
   exact⟨ps,F,R.same s,e,fun H'' fr=>q H'' ⟨fun a o h k n=>fr.keep a o (s.keep a o h k) k n,fun a z=>s.grow a (fr.grow a z)⟩⟩
  ·cases e
end
section
variable{P:Program}{w:World}{K:tz0}{mg:tzA}{base:Heap}{N:List Str}{qual:Str}{scope:Scope}{f C:Addr}{cd:Value}{A:Around}{outer:List Env}{s:Shared}{H:Hp}{E:XK}{U:tz9}{φ:F0}
theorem xp0(O:OwnCls x C bmB newId mg base)(FB:ExcBaseFacts B newId initId bmB)(hg:Gl (iU (CXn P w base C) P w K mg base N qual scope f cd A outer s H E) x)
  (hd:(x==("__debug__":Str))=false:=by decide) (hs:starEach [.Constant (.str z) j p1] (envOfC qual scope s.heap.objs.size f cd)=[(false,eval (.Constant (.str z) j p1) (envOfC qual scope s.heap.objs.size f cd))]:=by rfl):
  QX (iU (CXn P w base C) P w K mg base N qual scope f cd A outer s H E) U φ (E (.ref C) none) (.Raise (some (.Call (.Name x np) [.Constant (.str z) j p1] [] cpos)) none pos) xw1:=
 (xf5 O FB hg hd hs).imp fun D σ H' hh_=>by
  obtain⟨ps,F,R,e,q⟩:=hh_
  exact q H' ⟨fun a o h _ _=>h,fun a h=>h⟩
end
theorem PA.nox(h:PA X.nox es t):PA X es t:=⟨fun pos pins s σ H Q I hw=>
 ZO (h pos pins s σ H Q (I.wish _) hw) (fun _ _ q=>by obtain⟨vs,H',I',r,q⟩:=q;exact⟨vs,H',I'.unwish,r,q⟩) fun _ _ z=>False.elim z⟩
def xu3(g:List D->Bool)(fa:tz3):tz1:=fun ps=>(fa ps).bind fun ds=>if g ds=true then some (.ret (.bl true),ps) else none
abbrev bmV:List Value:=[.type "ValueError",.type "Exception",.type "BaseException",.type "object"]
theorem yp5{K:tz0}{h:Heap}{C:Addr}{bm:List Value}{nid:String}(X:K.In h)(q:PySem.W.excIn K C bm nid=true):
  ∃bm' N nm qn bs hd sn sub ab col dd k0 k1 k2 k3 k5 mN,h.get? C=some (excClassObj nm qn C N bs bm' hd sn sub ab col dd k0 k1 k2 k3 k5 nid)/\h.Ns N mN/\mN "__init__"=none/\OwnTail h bm bm':=by
 unfold PySem.W.excIn at q
 split at q
 case h_2=>cases q
 rename_i dd c sl look
 split at q
 case h_2=>cases q
 rename_i C1 bm1 a0 a1 a2 a3 n1 a5 em es
 rw [ZA,ZA,ZA,ZA,ZA] at q
 obtain⟨⟨⟨⟨⟨q1,q2⟩,q3⟩,q4⟩,q5⟩,q6⟩:=q
 have z1:=eq_of_beq q1
 have z2:=eq_of_beq q2
 have z6:=eq_of_beq q6
 subst z1 z2
 cases c with
 | mk nm bs mro ns qn hd sn sub ab col del=>
  dsimp only at em q3 q5 z6
  have z3:del=false:=by cases del<;>first|rfl|cases q3
  subst em z3
  have zs:sl= #[a0,a1,a2,a3,some (.builtin n1),a5]:=by
   cases sl
   dsimp only at es
   rw [es]
  subst zs
  exact⟨bm1,ns,nm,qn,bs,hd,sn,sub,ab,col,dd,a0,a1,a2,a3,a5,_,X _ _ look,.of_isNs (PySem.W.isNs_of_in X q5),PySem.W.nsMap_none_of_in X q5 z6,PySem.W.tail_of_in X q4⟩
def tXe(φ:Fx)(fx:tz5)(Ex:Hp->Prop):TE:=fun σ H _=>∃ps F,RS φ H σ ps F/\fx ps=true/\∀H',Frm F H H'->Ex H'
abbrev QXe(X:Cx)(U:tz9)(φ:F0)(Ex:Hp->Prop)(e:Expr)(fx:tz5):Prop:=PE X e (tXe (φ.fx X.K U) fx Ex)
section
variable{X:Cx}{U:tz9}{φ:F0}{Ex:Hp->Prop}{fx fy:tz5}{st:Stmt}{rest l:List Stmt}{pos:Pos}
theorem wh9(i:Nat){x:Str}{e:Expr}{pos':Pos}(hN:X.N.Nodup)(hi:X.N[i]? =some x)(hx:Loc X.env.scope x)(he:QXe X U φ Ex e fx)(hs:swapsWith e (some (.Name x pos')) pos.line X.env=pure false:=by rfl)(hf:X.fn x=true\/X.env.scope.names.lookup x=some .local:=by first|exact .inl rfl|exact .inr rfl|assumption):
  QX X U φ Ex (.Assign [.Name x pos'] e pos) fx:=(tT hN hi hx he hs hf).imp fun _ _ _ h=>h
end
end L2
namespace L2
section
open PySem PySem.W PySem.Calls PyProof.Rows Builtin Builtin.ObjectAttr Builtin.Getset_descriptor
def yb9(x D:Addr)(h:Heap):Prop:=∃o,h.get? x=some o/\o.cls= .ref D
variable{prog:Program}{w:World}{A:Around}{E:Value->Shared->Prop}{s:Shared}{K:tz0}{x D:Addr}{name:Str}
theorem xK(I:yb9 x D h):Looks M h (typeOf (.ref x)) (.ref D):=by
 obtain⟨o,h1,h2⟩:=I
 exact h2▸(Looks.ld h1).andThen .now
theorem ym4(X:K.In h){a g:Value}(ha:findIn K (.ref D) name=some (some a))(hg:specialIn K a "__get__"=some (some g))(ht:takesIn K a=some true):
  Looks M h (find (.ref x) (.ref D) name) (.bind g a):=
 (looks_findIn (M:=M) X ha).andThen ((looks_specialIn X hg).andThen ((show Looks M h (dataDescriptor? (some a) (some g)) (some (g,a)) from(looks_takesIn (M:=M) X ht).andThen .now).andThen (Looks.tag .now)))
theorem yv4(X:K.In s.heap)(I:yb9 x D s.heap)(hm:mroIn K D (.type "object")=some true)(h:R (.ok (.ret (.ref D))) s):
  codeAny (model prog w) A (.call (.builtin "getset_descriptor.__get__") ⟨[.builtin "object.__class__",.ref x,tp],[]⟩) R s:=by
 obtain⟨h1,g1,d1,t1,o1⟩:=s;have L0:=xK (M:=model prog w) I;have L1:=looks_mroIn (M:=model prog w) X hm
 refine codeAny_call_builtin KF.slot_gs.plain KF.entry_gs (KF.slot_gs.check _ _ _ _ _ _ _ _ KF.type_class (KF.args_gs _ _ _) ?_);unfold Builtin.«getset_descriptor.__get__» descrGet;rw [dga_obj]
 refine Ze (ZG ?_);unfold descrGetter descrCheckInstance descrNameAndClass isInstance;simp only [KF.owner_class];repeat lk
 refine⟨Code.quiet_builtin _ (by decide+kernel),Xe KF.entry_class ?_⟩;unfold Builtin.«object.__class__» shownTypeOf;repeat lk
 exact h
theorem yv5(hga:findIn K (.ref D) "__getattribute__"=some (some (.builtin "BaseException.__getattribute__")))(hgt:findIn K (.ref D) "__getattr__"=some none)(ha:findIn K (.ref D) "__class__"=some (some (.builtin "object.__class__")))
 (hn:specialIn K (.builtin "object.__class__") "__get__"=some (some (.builtin "getset_descriptor.__get__"))) (htk:takesIn K (.builtin "object.__class__")=some true) (hm:mroIn K D (.type "object")=some true) (hb:mroIn K D (.type "BaseException")=some true)
 (X:K.In s.heap) (I:yb9 x D s.heap) (h:Q (some (.ref D)) {s with toks:=s.toks+1}):wpAny (model prog w) A (getAttr? (.ref x) "__class__") Q E s:=by
 obtain⟨h1,g1,d1,t1,o1⟩:=s;have L0:=xK (M:=model prog w) I;have L1:=looks_findIn (M:=model prog w) X hga
 have L3:=ym4 (M:=model prog w) (x:=x) X ha hn htk;have L4:=looks_findIn (M:=model prog w) X hgt
 have FB:=PySem.F.excAttr_ValueError
 have f3:=FB.ga.bind (.ref x)
 have hx2:(Value.builtin "BaseException.__getattribute__"==Value.builtin "object.__getattribute__")=false:=by decide+kernel
 have hx1:(onTheHeap (Value.ref D)&&Value.builtin "BaseException.__getattribute__"==Value.builtin "object.__getattribute__")=false:=by rw [hx2];rfl
 unfold getAttr? getAttrBy? getAttrBy
 repeat (any_goals (first|assumption|with_reducible refine Looks.at L0 ?_|with_reducible refine Looks.at L1 ?_|with_reducible refine Looks.at L4 ?_|wp_step))
 refine codeAny_call_builtin FB.ga.plain F.entry_bexc_ga ?_
 have hk:builtinKind "BaseException.__getattribute__"=some .slot:=by decide+kernel
 have hsplit:splitId "BaseException.__getattribute__"=some ("BaseException","__getattribute__"):=by decide+kernel
 have LB:=looks_mroIn (M:=model prog w) X hb
 have ha2:=F.args_bexc_ga (.ref x) (.str "__class__" t1)
 simp only [checkBuiltinCall,hk,hsplit]
 refine Ze ?_
 unfold isInstance
 have L5:=looks_findIn (M:=model prog w) X ha
 have L6:Looks (model prog w) h1 (getOf (some (.builtin "object.__class__"))) (some (.builtin "getset_descriptor.__get__")):=looks_specialIn X hn
 have L7:Looks (model prog w) h1 (dataDescriptor? (some (.builtin "object.__class__")) (some (.builtin "getset_descriptor.__get__"))) (some (.builtin "getset_descriptor.__get__",.builtin "object.__class__")):=(looks_takesIn (M:=model prog w) X htk).andThen .now
 repeat (first|with_reducible refine Looks.at L0 ?_|with_reducible refine Looks.at LB ?_|with_reducible refine Looks.at L3 ?_|with_reducible refine Looks.at L5 ?_|with_reducible refine Looks.at L6 ?_|with_reducible refine Looks.at L7 ?_|wp_step)
 refine yv4 X I hm ?_
 repeat (any_goals (first|assumption|wp_step))
theorem yg0(hga:findIn K (.ref D) "__getattribute__"=some (some (.builtin "BaseException.__getattribute__")))(hgt:findIn K (.ref D) "__getattr__"=some none)(ha:findIn K (.ref D) "__class__"=some (some (.builtin "object.__class__")))
  (hn:specialIn K (.builtin "object.__class__") "__get__"=some (some (.builtin "getset_descriptor.__get__"))) (htk:takesIn K (.builtin "object.__class__")=some true) (hm:mroIn K D (.type "object")=some true) (hb:mroIn K D (.type "BaseException")=some true) (hC:(clsIn K D).isSome=true):KitX K (.ref x) (.ref D) (yb9 x D):=by
 obtain⟨cd,hcD⟩:=XJ.mp hC
 have ho:∃c' d' sl',K.lookup D=some ⟨c',d',.cls cd,sl'⟩:=by
  unfold clsIn at hcD
  split at hcD
  ·rename_i c' d' cd' sl' ho;cases hcD;exact⟨_,_,_,ho⟩
  ·cases hcD
 obtain⟨c',d',sl',ho⟩:=ho
 refine⟨fun _ _ _ I=>xK I,fun _ _ X _=> ?_,fun h tp dd its n sl X htp=> ?_,fun X I k=>yv5 hga hgt ha hn htk hm hb X I k⟩
 ·intro A' Q' E' s' k q
  unfold isType loadHead;exact Ze (wpAny_loadPart (k _ _ (X _ _ ho)) (ZG q))
 ·refine Bool.eq_false_iff.mpr fun q=> ?_
  have e:D=tp:=Value.ref.inj (Yy.mp q)
  subst e
  have z:=(X _ _ ho).symm.trans htp;cases z
end
open PySem PySem.Spec PyProof.Rows
section
variable{X:Cx}{pins:tzB}{σ:St}{H:Hp}{s:Shared}
theorem Inv.swap{h':Heap}{t':Nat}{σ':St}{m':tzA}(I:Inv X pins σ H s)(hs:Heap.SameBut X.env.locals s.heap h')(hn:h'.Ns X.env.locals m')(hl:σ'.length=X.N.length)
  (hv:∀(i:Nat) (x:Str) (v:V),X.N[i]? =some x->σ'[i]? =some (some v)->Vis X.env.scope x->∃u,cI v u/\wk5 X.env h' m' x u):Inv X pins σ' H {s with heap:=h',toks:=t'}:=by
 have ne:∀b o,X.s₀.heap.get? b=some o->b≠X.env.locals:=fun b o e=>ZH (Zx (Zi e) I.ok.above)
 have cell:∀{c:Addr} {v:Option Value},c≠X.env.locals->s.heap.IsCell c v->h'.IsCell c v:=fun {c v} n ⟨o,q1,q2⟩=>⟨o,(hs.2 c n).trans q1,q2⟩
 refine⟨I.ok,I.os,I.bare,⟨fun b o e n hb hx=>(hs.2 b (ne b o e)).trans (I.base.keep b o e n hb hx),fun b o e n hb hx=> ?_,I.base.free,fun b o e hx=> ?_,I.base.tups,I.base.frzs,I.base.tbls⟩,⟨m',hn,hv⟩,fun y c e=> ?_,I.free,I.freeC,fun p hp=> ?_,I.hok.but fun b o u e q=> ?_,hl⟩
 ·exact(I.base.slot b o e n hb hx).imp fun sl z=>(hs.2 b (ne b o e)).trans z
 ·exact(I.base.there b o e hx).imp fun o' z=>(hs.2 b (ne b o e)).trans z
 ·exact(I.cell y c e).imp fun v z=>cell (I.cne y c e) z
 ·obtain⟨q1,q2,q3,q4⟩:=I.pin p hp
  exact⟨(hs.2 p.1 q3).trans q1,q2,q3,q4⟩
 ·refine(hs.2 b fun z=> ?_).trans q
  rw [z,I.free] at e;cases e
theorem xz9{M:Model}{A:Around}{E:Value->Shared->Prop}{i:Nat}{x:Str}{pos:Pos}{Q:Unit->Shared->Prop}(I:Inv X pins σ H s)(hN:X.N.Nodup)(hi:X.N[i]? =some x)(hk:X.env.kindOf x=some .local)
  (h:∀s',Inv X pins (σ.set i none) H s'->Q () s'):wpAny M A (do bindName X.env x .none;unbindBehindTheSuite X.env x pos) Q E s:=by
 obtain⟨m,hn,hl⟩:=id I.loc
 refine wpAny_nameGoes_keeps hk hn (by rw [I.ok.kind];rfl) fun h' v hn' hs=>h _ (I.swap hs hn' (by rw [Xy];exact I.len) fun j y u e1 e2 e3=> ?_)
 have hji:j≠i:=fun z=>by
  subst z
  have:(σ.set j none)[j]? =some (some u):=e2
  rw [List.getElem?_set] at this
  simp at this
 rw [Zs (Y7 hji)] at e2
 obtain⟨u',r,l⟩:=hl j y u e1 e2 e3
 have hyx:y≠x:=fun z=>by
  subst z
  exact hji ((List.getElem?_inj (Z4.mp e1).1 hN).mp (e1.trans hi.symm))
 refine⟨u',r,?_⟩
 rcases l with ⟨hk',hm⟩|⟨hk',c,hc,o,q1,q2⟩
 ·exact .inl ⟨hk',by show(if y=x then v else m y)=_;rw [if_neg hyx];exact hm⟩
 ·exact .inr ⟨hk',c,hc,o,(hs.2 c (I.cne y c hc)).trans q1,q2⟩
end
theorem wa0{K:tz0}{h:Heap}{nm qn:Str}{C N:Addr}{bs bm:List Value}{hdct:Bool}{sn:List Str}{sub:List Value}{ab:Bool}{col:Option Bool}{dd:Option Addr}{k0 k1 k2 k3 k5:Option Value}{newId:String}{v:Value}(X:K.In h)
  (hC:h.get? C=some (excClassObj nm qn C N bs bm hdct sn sub ab col dd k0 k1 k2 k3 k5 newId)) (e:PySem.W.mroIn K C v=some true):(Value.ref C::bm).contains v=true:=by
 unfold PySem.W.mroIn at e
 obtain⟨cd,hc,e⟩:=Option.bind_eq_some_iff.mp e
 unfold PySem.W.clsIn at hc
 split at hc
 ·rename_i ho
  cases hc
  have z:=X _ _ ho
  rw [hC] at z
  cases z
  split at e
  ·cases e
  ·exact ZB e
 ·cases hc
section
variable{M:Model}{A:Around}{E:Value->Shared->Prop}
theorem zz6{h:Heap}{g:Array GenState}{d:Drawn}{t:Nat}{os:OsState}{e:Addr}{oe:Obj}{Q:Bool->Shared->Prop}
  {nm qn:Str} {C N:Addr} {bs bm:List Value} {hdct:Bool} {sn:List Str} {sub:List Value} {ab:Bool} {col:Option Bool} {dd:Option Addr} {k0 k1 k2 k3 k5:Option Value} {newId:String}
  {nm2 qn2:Str} {C2 N2:Addr} {bs2 bm2:List Value} {hdct2:Bool} {sn2:List Str} {sub2:List Value} {ab2:Bool} {col2:Option Bool} {dd2:Option Addr} {j0 j1 j2 j3 j5:Option Value} {newId2:String}
  (hC:h.get? C=some (excClassObj nm qn C N bs bm hdct sn sub ab col dd k0 k1 k2 k3 k5 newId)) (hC2:h.get? C2=some (excClassObj nm2 qn2 C2 N2 bs2 bm2 hdct2 sn2 sub2 ab2 col2 dd2 j0 j1 j2 j3 j5 newId2))
  (he:h.get? e=some oe) (hcls:oe.cls= .ref C) (hbase:bm2.contains (.type "BaseException")=true) (hup:(Value.ref C::bm).contains (.ref C2)=true)
  (hq:Q true ⟨h,g,d,t,os⟩):wpAny M A (excMatches (.ref e) (.ref C2)) Q E ⟨h,g,d,t,os⟩:=by
 have hcB:(Value.ref C2::bm2).contains (.type "BaseException")=true:=by rw [List.contains_cons,hbase,Bool.or_true]
 have f:=tc_notTuple
 unfold excMatches
 repeat (first|(with_reducible refine wpAny_loadPart_at he ?_;rw [hcls])|with_reducible refine wpAny_loadPart_at hC2 ?_|(with_reducible refine wpAny_isSubtype_exc hC2 ?_;rw [hcB])|(with_reducible refine wpAny_isSubtype_exc hC ?_;rw [hup])|wp_step)
 exact hq
end
def ze3(C:Addr)(h:Heap):Prop:=∃bm N nm qn bs hdct sn sub ab col dd k0 k1 k2 k3 k5 nid,h.get? C=some (excClassObj nm qn C N bs bm hdct sn sub ab col dd k0 k1 k2 k3 k5 nid)/\bm.contains (.type "BaseException")=true
theorem ze3.keeps{C:Addr}{h h':Heap}(x:ze3 C h)(k:∀b o,h.get? b=some o->h'.get? b=some o):ze3 C h':=by
 obtain⟨bm,N,nm,qn,bs,hdct,sn,sub,ab,col,dd,k0,k1,k2,k3,k5,nid,e,hb⟩:=x
 exact⟨bm,N,nm,qn,bs,hdct,sn,sub,ab,col,dd,k0,k1,k2,k3,k5,nid,k _ _ e,hb⟩
theorem zw5{x:Str}{C:Addr}{bmB:List Value}{newId:String}{mg:tzA}{h:Heap}(O:OwnCls x C bmB newId mg h)(hb:bmB.contains (.type "BaseException")=true):ze3 C h:=by
 obtain⟨bm,N,nm,qn,bs,hdct,sn,sub,ab,col,dd,k0,k1,k2,k3,k5,mN,hC,hN',hni,TL⟩:=O.obj
 exact⟨bm,N,nm,qn,bs,hdct,sn,sub,ab,col,dd,k0,k1,k2,k3,k5,_,hC,TL.hasType hb⟩
section
variable{X:Cx}{C C2:Addr}{pins:tzB}{σ:St}{H1:Hp}{s1 s2:Shared}{E1:XK}{e:Value}
theorem wa1{x n bad:Str}{i j:Nat}{np bp np2 ap p5:Pos}{Q:Flow->Shared->Prop}{E:Value->Shared->Prop}(I:Inv X pins σ H1 s1)(hstk:X.stack=X.env::X.outer)(hf:X.env.frame=some X.env.locals)
  (O:ze3 C X.base) (O2:ze3 C2 X.base) (hb2:X.mg x=some (.ref C2)) (up:PySem.W.mroIn X.K C (.ref C2)=some true) (hg:Gl X x)
  (h:CXn X.prog X.w X.base C X.stack H1 s1 E1 e s2) (hN:X.N.Nodup) (hi:X.N[i]? =some n) (hj:X.N[j]? =some bad) (hij:i≠j) (hkn:X.env.kindOf n=some .local) (hkb:X.env.kindOf bad=some .local)
  (k:∀ea oe s' H',E1 (.ref C) oe.dict H'->oe.cls= .ref C->(∃ws,oe.data= .fields ws)->Inv X (pins++[(ea,oe)]) (((σ.set i (some (.ref ea))).set j (some (.ref ea))).set i none) H' s'->Q .next s')
  (hd:(x==("__debug__":Str))=false:=by decide) (hdn:(n==("__debug__":Str))=false:=by decide) (hsw:swapsWith (.Name n np2) (some (.Name bad bp)) ap.line X.env=pure false:=by rfl):
  wpAny (model X.prog X.w) X.A (noteFrame e X.env) (fun _ s3=>wpAny (model X.prog X.w) X.A (setFlight e none) (fun _ s4=>wpAny (model X.prog X.w) X.A (handleBy e X.env [.ExceptHandler (some (.Name x np)) (some n) [.Assign [.Name bad bp] (.Name n np2) ap] p5]) Q E s4) E s3) E s2:=by
 obtain⟨ea,T,a0,dd,H2,rfl,os,bare,un,hok,fly,kd,q0⟩:=h
 rw [hstk] at un fly
 have hfr:X.A.frames=some (X.env::X.outer):=by rw [<-hstk];exact I.ok.frames
 refine xf2 (L:=X.env.locals) hfr hf fly.flying kd fun h4 held4 ups4 kd4=> ?_
 refine wh8 held4 kd4 fun h5 held ups5 kd5=> ?_
 have kp5:∀b o,X.base.get? b=some o->h5.get? b=some o:=fun b o z=>held.1 b o (fly.base_in b o z)
 obtain⟨ob,hob,hobc⟩:=held.there
 obtain⟨bm,N,nm,qn,bs,hdct,sn,sub,ab,col,dd',k0,k1,k2,k3,k5,nid,hC,_⟩:=O.keeps kp5
 obtain⟨bm2,N2,nm2,qn2,bs2,hdct2,sn2,sub2,ab2,col2,dd2,j0,j1,j2,j3,j5,nid2,hC2,hbb⟩:=O2.keeps kp5
 refine wpAny_handleBy_cons (codeAny_handlers_test (YT I.ok.kind hg (Ws (by rw [I.ok.glob];exact I.ok.mod.glob.keeps kp5) hb2 ?_) hd)) (by intro q;cases q)
 refine zz6 hC hC2 hob hobc hbb (wa0 (I.ok.mod.kin.keeps kp5) hC up) (codeAny_handlers_suite_as ?_)
 refine xz8 held kd5 fun h6 fl6 ups6 kd6=> ?_
 have ups:s2.heap.UpToSlots h6:=(ups4.trans ups5).trans ups6
 have st:(PySem.W.hideAll s2.heap ([ea,T]++frs (X.env::X.outer))).StaysIn h6:=fl6.1
 have stk:∀b∈frs (X.env::X.outer),H2 b=none:=fun b m=>by
  have m':b∈frs X.stack:=by rw [hstk];exact m
  obtain⟨_,o,q1,_⟩:=I.stack.mem m'
  exact un.free b o q1 (I.stkFree b m') (by simp)
 have u2:=un.mono (fs':=frs (X.env::X.outer)) (ex':=[ea,T]) (fun b m=>m) (fun b m=>absurd m (by simp))
 have u3:Un (frs (X.env::X.outer)) [ea,T] H2 H2 s2.heap h6:=zr9 fly.fr ups st
 have u6:Un (frs X.stack) [] H1 H2 s1.heap h6:=by
  rw [hstk]
  refine zs0 (u2.trans u3) (fun b o z m=> ?_) (fun _ _ _ m=>m)
  rcases Z2.mp m with y|m
  ·rw [y,fly.ne] at z;cases z
  ·rw [Zg.mp m,fly.nT] at z;cases z
 have hok6:HOk X.prog X.w H2 h6:=zg9 hok (fun b m=>by
  rcases Z2.mp m with z|m
  ·rw [z];exact fly.He
  ·rw [Zg.mp m];exact fly.HT) stk st
 have I6:Inv X pins σ H2 {s2 with heap:=h6}:=I.call' (s':={s2 with heap:=h6}) os u6 hok6 bare (fun _ m=>absurd m (by simp))
 obtain⟨oe,ws,hoe,hoec,hoed,hoe0⟩:=fl6.first
 obtain⟨oe',kq,kd7⟩:=kd6
 rw [hoe] at kq;cases kq
 subst kd7
 have nl:ea≠X.env.locals:=fun z=>by
  have:=I.lt
  obtain⟨m,⟨o,_,_,q,_⟩,_⟩:=I.loc
  rw [<-z,fly.ne] at q;cases q
 have nf:ea∉X.fs:=fun z=>by
  obtain⟨_,o,q,_⟩:=I.funs.mem z
  rw [fly.ne] at q;cases q
 have I7:Inv X (pins++[(ea,oe)]) σ H2 {s2 with heap:=h6}:=I6.pins_of fun p hp=>(Zk.mp hp).elim (fun z=>I6.pin p (Z7 _ z)) fun z=>by
  rw [Zg.mp z]
  exact⟨hoe,fly.He,nl,nf,fun v q=>by rw [hoed] at q;cases q⟩
 refine xD I7 hN hi (.inl hkn) (v:= .ref ea) rfl (fun s7 I8=> ?_) (.inr hkn)
 have hil:i<σ.length:=by rw [I.len];exact(Z4.mp hi).1
 have en:(σ.set i (some (.ref ea)))[i]? =some (some (.ref ea)):=Zy hil
 obtain⟨m8,hn8,hl8⟩:=id I8.loc
 obtain⟨u8,r8,l8⟩:=hl8 i n _ hi en (.inl hkn)
 have eu:u8= .ref ea:=r8
 subst eu
 have hm8:m8 n=some (.ref ea):=by
  rcases l8 with ⟨_,q⟩|⟨q,_⟩
  ·exact q
  ·rw [hkn] at q;rcases q with q|q<;>cases q
 refine YH (wpAny_Assign_Name (Wa (wpAny_loadName_local I.ok.kind hkn hn8 hm8 ?_) hdn) hsw)
 refine xD I8 hN hj (.inl hkb) (v:= .ref ea) rfl (fun s9 I9=> ?_) (.inr hkb)
 refine YN ?_
 exact xz9 I9 hN hi hkn fun s10 I10=>k ea oe s10 H2 q0 hoec ⟨ws,hoed⟩ I10
end
structure KExc(K:tz0)(C:Addr):Prop where
 ga:PySem.W.findIn K (.ref C) "__getattribute__"=some (some (.builtin "BaseException.__getattribute__"))
 gt:PySem.W.findIn K (.ref C) "__getattr__"=some none
 a:PySem.W.findIn K (.ref C) "__class__"=some (some (.builtin "object.__class__"))
 n:PySem.W.specialIn K (.builtin "object.__class__") "__get__"=some (some (.builtin "getset_descriptor.__get__"))
 t:PySem.W.takesIn K (.builtin "object.__class__")=some true
 m:PySem.W.mroIn K C (.type "object")=some true
 b:PySem.W.mroIn K C (.type "BaseException")=some true
 c:(PySem.W.clsIn K C).isSome=true
section
variable{X:Cx}{C ea:Addr}{oe:Obj}
theorem xf7(hp:(ea,oe)∈X.pn)(hc:oe.cls= .ref C)(k:KExc X.K C):CallR X (.builtin "isinstance") (fun xs H Q=>∃c b,xs=[.ref ea,c]/\(∀u,cI c u->PySem.W.kitOne X.K (.ref C) u=some b)/\Q (.bl b) H):=⟨by
 intro pins s σ H xs us Q I r h
 obtain⟨c,b,rfl,e,q⟩:=h
 cases r with
 | cons r1 r2=>cases r2 with
  | cons r3 r4=>cases r4 with
   |nil=>
    cases r1
    exact ZN (yg0 k.ga k.gt k.a k.n k.t k.m k.b k.c) I.kIn ⟨oe,(I.pin (ea,oe) (Zj _ hp)).1,hc⟩ (e _ r3) (by intro z;cases z) fun tk=>⟨.bl b,H,I.tok tk,rfl,q⟩⟩
theorem xf8(hp:(ea,oe)∈X.pn)(hc:oe.cls= .ref C)(k:KExc X.K C):CallR X (.builtin "isinstance") (fun xs H Q=>∃tp its b,xs=[.ref ea,.ref tp]/\H tp=some (.tup its)/\(∀us,bQ its us->PySem.W.kitAny X.K (.ref C) us=some b)/\Q (.bl b) H):=⟨by
 intro pins s σ H xs us Q I r h
 obtain⟨tp,its,b,rfl,ht,e,q⟩:=h
 cases r with
 | cons r1 r2=>cases r2 with
  | cons r3 r4=>cases r4 with
   |nil=>
    cases r1;cases r3
    obtain⟨_,vs,rv,o,h1,h2,n,h3⟩:=(show dL X.prog X.w H s.heap tp (.tup its) from I.hok tp _ ht)
    obtain⟨c1,d1,e1,s1⟩:=o
    cases h2;cases h3
    exact PySem.W.kia_tup (yg0 k.ga k.gt k.a k.n k.t k.m k.b k.c) I.kIn ⟨oe,(I.pin (ea,oe) (Zj _ hp)).1,hc⟩ h1 (e _ rv) (by intro z;cases z) fun tk=>⟨.bl b,H,I.tok tk,rfl,q⟩⟩
end
def Cx.pinned(X:Cx)(ea:Addr)(oe:Obj):Cx:={X with pn:=X.pn++[(ea,oe)]}
section
variable{X:Cx}{pins:tzB}{σ:St}{H:Hp}{s:Shared}{ea:Addr}{oe:Obj}
theorem Inv.toPin(I:Inv X (pins++[(ea,oe)]) σ H s):Inv (X.pinned ea oe) pins σ H s:=
 ⟨⟨I.ok.mod,I.ok.kind,I.ok.glob,I.ok.blt,I.ok.above,I.ok.inj,I.ok.has,I.ok.cab,I.ok.hd,I.ok.frames,I.ok.stk,I.ok.exf,I.ok.bs,I.ok.bsz,I.ok.noex,I.ok.exfs,I.ok.funs,I.ok.frf⟩,I.os,I.bare,I.base,I.loc,I.cell,I.free,I.freeC,fun p hp=>I.pin p (by
  rcases Zk.mp hp with h|h
  ·rcases Zk.mp h with h|h
   ·exact Zj _ h
   ·exact Z7 _ (Z7 _ h)
  ·exact Z7 _ (Zj _ h)),I.hok,I.len⟩
theorem Inv.ofPin(I:Inv (X.pinned ea oe) pins σ H s):Inv X pins σ H s:=
 ⟨⟨I.ok.mod,I.ok.kind,I.ok.glob,I.ok.blt,I.ok.above,I.ok.inj,I.ok.has,I.ok.cab,I.ok.hd,I.ok.frames,I.ok.stk,I.ok.exf,I.ok.bs,I.ok.bsz,I.ok.noex,I.ok.exfs,I.ok.funs,I.ok.frf⟩,I.os,I.bare,I.base,I.loc,I.cell,I.free,I.freeC,fun p hp=>I.pin p (by
  rcases Zk.mp hp with h|h
  ·exact Zj _ (Zj _ h)
  ·exact Z7 _ h),I.hok,I.len⟩
theorem SP.ofPin{D:Ends}{f:Flow}(h:SP (X.pinned ea oe) pins D f s):SP X pins D f s:=by
 cases f with
 |next=>obtain⟨σ',H',I,q⟩:=h;exact⟨σ',H',I.ofPin,q⟩
 |brk=>obtain⟨σ',H',I,q⟩:=h;exact⟨σ',H',I.ofPin,q⟩
 |cont=>obtain⟨σ',H',I,q⟩:=h;exact⟨σ',H',I.ofPin,q⟩
 |ret u=>obtain⟨v,σ',H',I,r,q⟩:=h;exact⟨v,σ',H',I.ofPin,r,q⟩
end
def wm8(j:Nat)(ea:Addr):TS:=fun D σ H=>σ[j]? =some (some (.ref ea))/\∀H',SameK H H'->D.rt (.bl true) H'
section
variable{X:Cx}{C C2:Addr}{U:tz9}{φ:F0}
theorem xp1{x x0 cx n bad:Str}{i j:Nat}{st:Stmt}{rest:List Stmt}{ps:List Str}{fa:Addr}{fd:FuncData}{k np:Nat}{g:List D->Bool}{e:Expr}{es:List Expr}{ga:tz3}{p pos pos2 np' bp np2 ap p5 pos6:Pos}{bmB bmB2:List Value}{newId newId2:String}
  (Dd:Dn X.K X.mg x st ps fa fd) (G:FnOk X.prog X.w X.K X.mg X.base (CXn X.prog X.w X.base C) k fa fd ps (za9 np X.K U C g)) (O:OwnCls x0 C bmB newId X.mg X.base) (O2:OwnCls cx C2 bmB2 newId2 X.mg X.base) (up:PySem.W.mroIn X.K C (.ref C2)=some true) (hb1:bmB.contains (.type "BaseException")=true) (hbase:bmB2.contains (.type "BaseException")=true)
  (hr:Room k X.A) (hg:Gl X x) (hgc:Gl X cx) (hnp:(e::es).length=np) (ha:QVA X.nox U (e::es) ga) (hlen:∀ps ds,ga ps=some ds->ds.length=(e::es).length) (hstk:X.stack=X.env::X.outer) (hf:X.env.frame=some X.env.locals)
  (hN:X.N.Nodup) (hi:X.N[i]? =some n) (hj:X.N[j]? =some bad) (hij:i≠j) (hkn:X.env.kindOf n=some .local) (hkb:X.env.kindOf bad=some .local)
  (hrest:∀ea oe,oe.cls= .ref C->PSs (X.nox.pinned ea oe) rest (wm8 j ea))
  (hdb:(x==("__debug__":Str))=false:=by decide) (hdc:(cx==("__debug__":Str))=false:=by decide) (hdn:(n==("__debug__":Str))=false:=by decide) (he:starEach (e::es) X.env=(false,eval e X.env)::starEach es X.env:=by rfl) (hpl:(backTo pos (starEach es X.env)).any (·.1)=false:=by rfl)
  (hs:swapsWith (.Call (.Name x p) (e::es) [] pos) none pos2.line X.env=pure false:=by rfl) (hsw:swapsWith (.Name n np2) (some (.Name bad bp)) ap.line X.env=pure false:=by rfl):
  QSs X.nox U φ (.Try [.Expr (.Call (.Name x p) (e::es) [] pos) pos2] [.ExceptHandler (some (.Name cx np')) (some n) [.Assign [.Name bad bp] (.Name n np2) ap] p5] [] [] pos6::rest) (xu3 g ga):=⟨by
 intro pins s σ H D I hh_
 obtain⟨pp,F,fl,ps',R,e1,q⟩:=hh_
 obtain⟨ds,e2,e3⟩:=bind_some e1
 obtain⟨hgd,e4⟩:=bV e3
 cases e4
 have J:Inv X pins σ H s:=I.unwish
 refine YH (wpAny_Try_except ?_)
 show wpAny (model X.prog X.w) X.A (execs [.Expr (.Call (.Name x p) (e::es) [] pos) pos2] X.env) _ _ s
 refine YH (wpAny_Expr_any ?_ J.quiet hs)
 refine Y4 (sY J hg Dd.m ?_ hdb)
 refine Yp (h₀:=X.base) J.ok.mod.kin Dd.F.kp (ZO (ha pos pins s σ H (fun vs H1=>SameK H H1/\∃fp,Reps X.K U H1 vs ds fp) I ⟨pp,ds,R.ws,e2,fun vs H1 fp s1 r1=>⟨s1,fp,r1⟩⟩) (fun us s1 hu=> ?_) fun _ _ z=>z.elim) he hpl
 obtain⟨vs,H1,I1,r,sm,fp,rs⟩:=hu
 have J1:Inv X pins σ H1 s1:=I1.unwish
 refine⟨J1.kIn,?_⟩
 have hl:vs.length=np:=by rw [rs.length,hlen pp ds e2,hnp]
 have hps:ps.length=np:=(G.len vs H1 (fun _ _=>False) (fun _ _ _=>True) ⟨hl,ds,fp,rs,hgd,fun _ _=>trivial⟩).symm.trans hl
 have hlu:(us++([]:List Value)).length=ps.length:=by rw [Zq,hps,<-hl,r.length]
 have hjl:j<σ.length:=by rw [I.len];exact(Z4.mp hj).1
 refine wpAny_call (X9 (G.run X.A X.stack s1 H1 ⟨us,[]⟩ us vs (fun _ _=>False) (fun _ _ H'=>∀H'',SameK H' H''->D.rt (.bl true) H'') hr J1.env0 (by have:=Dd.b s1 us J1.kIn hlu;rwa [Zq] at this) r ⟨hl,ds,fp,rs,hgd,fun H' s2 H'' s3=> ?_⟩) fun rr s' hq=> ?_)
 ·exact q (.bl true) σ H'' F [] (Stp.same R ((sm.trans s2).trans s3)) (OwnV.new R (fun _ h=>absurd h (by simp)) Zr) (.bl true)
 ·cases rr with
  |error ee=>
   refine wa1 (X:=X.nox) (E1:=fun _ _ H'=>∀H'',SameK H' H''->D.rt (.bl true) H'') I1 hstk hf (zw5 O hb1) (zw5 O2 hbase) O2.bound up hgc hq hN hi hj hij hkn hkb (fun ea oe s4 H4 hE hc _ I4=> ?_) hdc hdn hsw
   refine ZO (hrest ea oe hc pins s4 _ H4 D I4.toPin ⟨?_,hE⟩) (fun f s5 z=>z.ofPin) fun _ _ z=>z
   rw [Zs hij,Zy (by rw [Xy];exact hjl)]
  |ok f2=>
   cases f2 with
   |ret u=>obtain⟨_,_,_,_,_,_,_,z⟩:=hq;exact z.elim
   |next=>exact hq.elim
   |brk=>exact hq.elim
   |cont=>exact hq.elim⟩
end
def yj8(j:Nat)(ea:Addr)(b:Bool):TE:=fun σ H Q=>σ[j]? =some (some (.ref ea))/\∀H',SameK H H'->Q (.bl b) H'
theorem zs2{X:Cx}{ea:Addr}{oe:Obj}:(ea,oe)∈(X.pinned ea oe).pn:=Z7 _ (Zg.mpr rfl)
section
variable{Y:Cx}{C ea:Addr}{oe:Obj}{j:Nat}{bad:Str}{p bp pos:Pos}{b:Bool}
theorem yp6{c:Expr}{cv:V}(hp:(ea,oe)∈Y.pn)(hc:oe.cls= .ref C)(k:KExc Y.K C)(hgi:Gl Y "isinstance")(hmi:Y.mg "isinstance"=none)(hN:Y.N[j]? =some bad)(hv:Vis Y.env.scope bad)(hcl:PE Y c (tC cv))(ho:∀u,cI cv u->PySem.W.kitOne Y.K (.ref C) u=some b)
  (hd:(bad==("__debug__":Str))=false:=by decide) (hcd:(bad==("__classdict__":Str))=false:=by decide)
  (he:starEach [.Name bad bp,c] Y.env=(false,eval (.Name bad bp) Y.env)::starEach [c] Y.env:=by rfl) (he2:starEach [c] Y.env=(false,eval c Y.env)::starEach [] Y.env:=by rfl) (hpl:(backTo pos (starEach [c] Y.env)).any (·.1)=false:=by rfl):
  PE Y (.Call (.Name "isinstance" p) [.Name bad bp,c] [] pos) (yj8 j ea b):=
 (nN (xf7 hp hc k) hgi hmi rfl (eL (qP hN hv hd hcd) (eL hcl kO he2) he) (by decide) (by decide) he hpl).imp fun σ H Q h=>⟨.ref ea,h.1,cv,b,rfl,ho,h.2 H (.refl H)⟩
theorem xp2{c1 c2:Expr}{v1 v2:V}{tp:Pos}{ctx:Nat}(hp:(ea,oe)∈Y.pn)(hc:oe.cls= .ref C)(k:KExc Y.K C)(hgi:Gl Y "isinstance")(hmi:Y.mg "isinstance"=none)(hN:Y.N[j]? =some bad)(hv:Vis Y.env.scope bad)(h1:PE Y c1 (tC v1))(h2:PE Y c2 (tC v2))(ho:∀us,bQ [v1,v2] us->PySem.W.kitAny Y.K (.ref C) us=some b)
  (hd:(bad==("__debug__":Str))=false:=by decide) (hcd:(bad==("__classdict__":Str))=false:=by decide)
  (he:starEach [.Name bad bp,.Tuple [c1,c2] ctx tp] Y.env=(false,eval (.Name bad bp) Y.env)::starEach [.Tuple [c1,c2] ctx tp] Y.env:=by rfl) (he2:starEach [.Tuple [c1,c2] ctx tp] Y.env=(false,eval (.Tuple [c1,c2] ctx tp) Y.env)::starEach [] Y.env:=by rfl)
  (he3:starEach [c1,c2] Y.env=(false,eval c1 Y.env)::starEach [c2] Y.env:=by rfl) (he4:starEach [c2] Y.env=(false,eval c2 Y.env)::starEach [] Y.env:=by rfl) (hpl:(backTo pos (starEach [.Tuple [c1,c2] ctx tp] Y.env)).any (·.1)=false:=by rfl):
  PE Y (.Call (.Name "isinstance" p) [.Name bad bp,.Tuple [c1,c2] ctx tp] [] pos) (yj8 j ea b):=
 (nN (xf8 hp hc k) hgi hmi rfl (eL (qP hN hv hd hcd) (eL (xb6 (eL h1 (eL h2 kO he4) he3)) kO he2) he) (by decide) (by decide) he hpl).imp fun σ H Q h=>
  ⟨.ref ea,h.1,⟨show 2<=sizeLine from Zv (by decide) (nR (n:=2) (by decide)),fun a ha=>⟨a,[v1,v2],b,rfl,by unfold upd;rw [if_pos rfl],ho,h.2 _ (.new ha _)⟩⟩⟩
end
theorem yv6{K:tz0}{C:Addr}{bm:List Value}{nid:String}(q:PySem.W.excIn K C bm nid=true):(PySem.W.clsIn K C).isSome=true:=by
 unfold PySem.W.excIn at q
 unfold PySem.W.clsIn
 split at q
 ·rename_i ho
  rw [ho];rfl
 ·cases q
section
variable{P:Program}{w:World}{A:Around}{E:Value->Shared->Prop}{h:Heap}{g:Array GenState}{d:Drawn}{t:Nat}{os:OsState}{nm q:Str}{C N:Addr}{bs bm bmB:List Value}{hdct ab:Bool}{sn:List Str}{sub:List Value}
 {col:Option Bool} {dd:Option Addr} {k0 k1 k2 k3 k5:Option Value} {B newId initId:String}
end
section
variable{P:Program}{w:World}{A:Around}{E:Value->Shared->Prop}{s:Shared}{env:Env}{nm q:Str}{C N:Addr}{bs bm bmB:List Value}{hdct ab:Bool}{sn:List Str}{sub:List Value}
 {col:Option Bool} {dd:Option Addr} {k0 k1 k2 k3 k5:Option Value} {B newId initId:String}
end
end L2
namespace L2
section
open PySem PySem.W PySem.Calls PyProof.Rows Builtin Builtin.ObjectAttr Builtin.Getset_descriptor
variable{prog:Program}{w:World}{A:Around}{E:Value->Shared->Prop}{K:tz0}{x C:Addr}{name:Str}
end
open PySem PySem.Spec PyProof.Rows
def sO:tz2:=fun _=>some (.dic true [] [])
theorem xp3{X:Cx}{U:tz9}{pos:Pos}:QP X U (.Dict [] [] pos) sO:=xn0.imp fun σ H Q hh_=>by
 obtain⟨ps,d,w,e,q⟩:=hh_
 cases e
 exact fun p hp=>q.at hp (fv:=[p]) (fun a ha=>by rw [Zg.mp ha];exact hp) (by simp) (.dic (kvs:=[]) cX rfl .nil)
section
variable{K:tz0}{U:tz9}{H:Hp}
theorem vU:∀{kvs:List (Key×V)} {ks:List Key} {ds:List D} {g:List Addr} {k:Key},kvs.map (·.1)=ks->Reps K U H (kvs.map (·.2)) ds g->(pR kvs k).isSome=(oS ks ds k).isSome
 |[],_,_,_,_,e,r=>by subst e;cases r;rfl
 |(k0,v0)::kvs,_,_,_,k,e,.cons h hs=>by
  subst e
  rw [Z9,oS]
  by_cases z:k0=k
  ·rw [if_pos z,tW z];rfl
  ·rw [if_neg z,tY z];exact vU rfl hs
theorem Rep.dicT_inv(r:Rep K U H v (.dic true ks ds) fp):∃a kvs g,v= .ref a/\H a=some (.dK kvs)/\kvs.map (·.1)=ks/\Reps K U H (kvs.map (·.2)) ds g/\fp=a::g:=by
 cases r with
 |dic h e hs=>exact⟨_,_,_,rfl,h,e,hs,rfl⟩
theorem Rep.dicF_inv(r:Rep K U H v (.dic false ks ds) fp):∃a o kvs,v= .ref a/\H a=some (.frz o (.dK kvs))/\kvs.map (·.1)=ks/\Reps K U H (kvs.map (·.2)) ds []:=by
 cases r with
 |dicF h e hs=>exact⟨_,_,_,rfl,h,e,hs⟩
end
def kX:D->D->Option D
 |y,.dic _ ks ds=>y.key.bind fun k=>some (.bl (!(oS ks ds k).isSome))
 |_,_=>none
def yI:List Key->List D->Key->D->List D
 |k::ks,d::ds,j,y=>(if k=j then y else d)::yI ks ds j y
 |_,_,_,_=>[]
def qH:D->D->D->Option (Unit×D)
 |i,y,.dic true ks ds=>i.key.bind fun k=>if D.imms ds=true/\y.imm=true/\ks.length<sizeLine then some ((),if (oS ks ds k).isSome=true then .dic true ks (yI ks ds k y) else .dic true (ks++[k]) (ds++[y])) else none
 |_,_,_=>none
theorem yv7(h:qH i y d=some (r,d')):∃k ks ds,d= .dic true ks ds/\i.key=some k/\D.imms ds=true/\y.imm=true/\ks.length<sizeLine/\d'=if (oS ks ds k).isSome=true then .dic true ks (yI ks ds k y) else .dic true (ks++[k]) (ds++[y]):=by
 unfold qH at h
 split at h
 ·obtain⟨k,e1,e2⟩:=bind_some h
  obtain⟨hc,e3⟩:=bV e2
  cases e3
  exact⟨k,_,_,rfl,e1,hc.1,hc.2.1,hc.2.2,rfl⟩
 ·cases h
theorem zQ{K:tz0}{U:tz9}{H:Hp}{v:V}{y:D}{k:Key}(r:Rep K U H v y []):∀{kvs:List (Key×V)} {ds:List D},Paired (fun v d=>Rep K U H v d []) (kvs.map (·.2)) ds->Paired (fun v d=>Rep K U H v d []) ((kvs.map fun kv=>if kv.1=k then(kv.1,v) else kv).map (·.2)) (yI (kvs.map (·.1)) ds k y)
 |[],_,.nil=> .nil
 |(k0,v0)::kvs,_,.cons h t=>by
  rw [Z9,Z9,Z9,yI]
  by_cases z:k0=k
  ·rw [if_pos z,if_pos z];exact .cons r (zQ r t)
  ·rw [if_neg z,if_neg z];exact .cons h (zQ r t)
theorem yW{k:Key}{v:V}:∀kvs:List (Key×V),(kvs.map fun kv=>if kv.1=k then(kv.1,v) else kv).map (·.1)=kvs.map (·.1)
 |[]=>rfl
 |(k0,v0)::kvs=>by
  rw [Z9,Z9,Z9,yW kvs]
  by_cases z:k0=k
  ·rw [if_pos z]
  ·rw [if_neg z]
theorem wa2{K:tz0}{U:tz9}{H:Hp}{l:Addr}{v:V}{y:D}{kvs:List (Key×V)}{ds:List D}{k:Key}(hl:H l=some (.dK kvs))(hs:Reps K U H (kvs.map (·.2)) ds [])(ry:Rep K U H v y []):
  Rep K U (upd H l (.dK (jX kvs k v))) (.ref l) (if (oS (kvs.map (·.1)) ds k).isSome=true then .dic true (kvs.map (·.1)) (yI (kvs.map (·.1)) ds k y) else .dic true (kvs.map (·.1)++[k]) (ds++[y])) [l]:=by
 have ha:=zg5 k kvs
 rw [vU (k:=k) rfl hs] at ha
 have hs':Reps K U (upd H l (.dK (jX kvs k v))) (kvs.map (·.2)) ds []:=hs.updL hl rfl (by simp)
 have ry':Rep K U (upd H l (.dK (jX kvs k v))) v y []:=ry.updL hl rfl (by simp)
 by_cases hc:(oS (kvs.map (·.1)) ds k).isSome=true
 ·rw [if_pos hc]
  rw [hc] at ha
  have e:jX kvs k v=kvs.map fun kv=>if kv.1=k then(kv.1,v) else kv:=by unfold jX;rw [if_pos ha]
  exact .dic (fp:=[]) (kvs:=jX kvs k v) cX (by rw [e];exact yW kvs) (.ofp (by rw [e];rw [e] at hs' ry';exact zQ ry' hs'.nilp))
 ·rw [if_neg hc]
  rw [YA] at hc
  rw [hc] at ha
  have e:jX kvs k v=kvs++[(k,v)]:=by unfold jX;rw [if_neg (by rw [ha];exact Zb)]
  have hh:=Reps.append hs' (Reps.one ry')
  exact .dic (fp:=[]) (kvs:=jX kvs k v) cX (by rw [e,Yn];rfl) (by rw [e,Yn];rw [e] at hh;exact hh)
section
variable{X:Cx}{U:tz9}{φ:F0}{a b o e i:Expr}{f fa fb fi fe:tz2}{pf:PSt->Option (List Ps1)}{j:Nat}{pos apos:Pos}{tg:Expr}
theorem xf9(hu:X.A.units+1<cLine)(ha:QV X U a fa)(hb:QV X U b fb)(hm:behindInMarks .NotIn b=false:=by rfl):QT X U (.Compare a [.NotIn] [b] pos) (fB (f2 kX fa fb)):=
 (we3 (xc8 hu ha hb) hm).imp fun σ H Q hh_=>by
  obtain⟨ps,c,w,e,q⟩:=hh_
  obtain⟨x,y,e1,e2,e3⟩:=wJ (yo4 e)
  refine⟨ps,x,w,e1,fun v H1 fp s1 r1=>⟨ps,y,w.same s1,e2,fun u H2 fq s2 r2=> ?_⟩⟩
  unfold kX at e3
  split at e3
  ·obtain⟨k,e4,e5⟩:=bind_some e3
   cases e5
   obtain⟨l,kvs,g,rfl,h,hk,hs,_⟩:=r2.dic_inv
   exact⟨l,pR kvs k,rfl,.inl ⟨kvs,k,h,zr4 r1 e4,rfl⟩,_,by rw [vU hk hs],q H2 (s1.trans s2)⟩
  ·cases e3
def sP(j:Nat)(pf:PSt->Option (List Ps1))(fi fe:tz2):tz1:=fun ps=>(fe ps).bind fun y=>((ps[j]?).join).bind fun d0=>(pf ps).bind fun p=>(fi ps).bind fun i=>(fL (qH i y) d0 p).bind fun r=>some (.nx,ps.set j (some r.2))
theorem wa3(hu:X.A.units+1<cLine)(hb:φ.bor j=false)(he:PE X e (tP X.K U fe))(ho:PE X o (oP X.K U j pf))(hi:PE X i (tV X.K U fi))(hs:swapsWith e (some (.Subscript o i apos)) pos.line X.env=pure false:=by rfl):QS X U φ (.Assign [.Subscript o i apos] e pos) (sP j pf fi fe):=
 (xy5 hu ho hi he hs).imp fun E σ H hh_=>by
  obtain⟨ps,F,fl,ps',R,e,q⟩:=hh_
  obtain⟨y,e1,e2⟩:=bind_some e
  obtain⟨d0,e3,e4⟩:=bind_some e2
  have e0:=join_some e3
  obtain⟨p,e5,e6⟩:=bind_some e4
  obtain⟨iv,e7,e8⟩:=bind_some e6
  obtain⟨⟨r,d0'⟩,em,e9⟩:=bind_some e8
  cases e9
  obtain⟨dd,dn,gp,hh⟩:=nP em
  refine⟨ps,y,R.ws,e1,fun v H1 fy s1 n1 nd1 ry=>⟨ps,p,d0,dd,R.ws.same s1,e0,e5,gp,fun lv H2 v0 s2 ev a2=>⟨ps,iv,(R.ws.same s1).same s2,e7,fun u H3 fu s3 r3=> ?_⟩⟩⟩
  have s13:=(s1.trans s2).trans s3
  obtain⟨d1,d1',fd,m1,m2,m3,m4,m5⟩:=wM R s13 hb e0 ev em (a2.same s3)
  obtain⟨k,ks,ds,rfl,ek,hi,hy,hl,rfl⟩:=yv7 m2
  obtain⟨l,kvs,g,rfl,hd,hk,hs,rfl⟩:=m1.dicT_inv
  subst hk
  have eg:=hs.imm hi
  subst eg
  have ey:=ry.imm hy
  subst ey
  refine⟨l,_,rfl,.inl ⟨kvs,k,hd,zr4 r3 ek,by simpa using hl,rfl⟩,?_⟩
  obtain⟨F',st,ow⟩:=m5 (upd H3 l (.dK (jX kvs k v))) [l] [] (fun a o h _ hn=>xH h hn) (fun a h=>pM h)
   (wa2 hd hs ((ry.same s2).same s3)) (by simp) (fun a ha=> .inl (by simpa using ha))
  exact q _ _ F' st
end
def Itf(a:Addr)(o:Obj)(kvs:List (Key×V)):It:=⟨fun i H=>H a=some (.frz o (.dK kvs))/\i<kvs.length,fun i H x H'=>H'=H/\(kvs.map fun kv=>kV kv.1)[i]? =some x,fun i H=>H a=some (.frz o (.dK kvs))/\kvs.length<=i⟩
theorem zh0{X:Cx}{pins:tzB}{σ:St}{H:Hp}{s:Shared}{a:Addr}{o:Obj}{kvs:List (Key×V)}(I:Inv X pins σ H s)(h:H a=some (.frz o (.dK kvs))):
  (a==sysModules)=false/\kvs.length<=sizeLine/\∃vs es ep,KV kvs vs/\o.data= .dict es ep/\s.heap.DictAt (eO X.prog X.w) a vs ep:=by
 obtain⟨g,z,sm,vs,hv,hd⟩:=(show dL X.prog X.w H s.heap a (.frz o (.dK kvs)) from I.hok a _ h)
 obtain⟨ep,hat⟩:=hd.dictAt
 obtain⟨o',es,g',h1,h2,h3⟩:=id hat
 rw [g] at g'
 cases g'
 exact⟨sm,z,vs,es,ep,hv,h2,hat⟩
theorem wa4{P:Program}{w:World}{K:tz0}{tg:Expr}{a it:Addr}{o:Obj}{es:Array DictEntry}{ep:Nat}{kvs:List (Key×V)}(hd:o.data= .dict es ep):Turn P w K tg (Itf a o kvs) [it] it (fun i h=>h.IsKeyIter it a i kvs.length ep) where
 mem:=by simp
 obj:=fun i h st b hb=>by
  have e:b=it:=by simpa using hb
  subst e
  obtain⟨o,e,c,d⟩:=st
  exact⟨o,e,fun v z=>by rw [d] at z;cases z⟩
 keep:=fun i h h' st k=>st.at fun o e=>k it (by simp) o e
 item:=by
  intro X hP hw hK hc i pins s σ H E I hf st hg
  subst hP hw hK
  obtain⟨sm,z,vs,es',ep',hv,hd',dd⟩:=zh0 I hg.1
  rw [hd] at hd'
  cases hd'
  have hi:i<vs.length:=by rw [<-ZJ hv];exact hg.2
  obtain⟨⟨k,x⟩,hx'⟩:∃p,vs[i]? =some p:=⟨vs[i],by simp [hi]⟩
  obtain⟨⟨k',v'⟩,hx2,he,_⟩:=lK hv hx'
  have he':k'=k:=he
  subst he'
  obtain⟨f0,f1,f2,f3,f4,f5⟩:=hf it (by simp)
  rw [ZJ hv] at st
  refine wpAny_pyNext_dict_item st dd hx' fun key h' hkey st' sb=> ?_
  have I1:Inv X pins σ H {s with heap:=h'}:=I.turned (t':=s.toks) (fun b o hb e=>(sb.2 b hb).trans e) f0 f1 f3 f4 f5
  obtain⟨o2,e,c,d⟩:=id st'
  rw [<-ZJ hv] at st'
  exact⟨key,rfl,ya5 (s:={s with heap:=h'}) e c d (by decide) ⟨kV k',H,I1,xz3 hkey,⟨rfl,by rw [Zd,hx2];rfl⟩,st',fun b hb=>(hf b hb).1⟩⟩
 done:=by
  intro X hP hw hK hc i pins s σ H E I hf st hg
  subst hP hw hK
  obtain⟨sm,z,vs,es',ep',hv,hd',dd⟩:=zh0 I hg.1
  rw [hd] at hd'
  cases hd'
  have hi:vs.length<=i:=by rw [<-ZJ hv];exact hg.2
  obtain⟨f0,f1,f2,f3,f4,f5⟩:=hf it (by simp)
  rw [ZJ hv] at st
  exact wpAny_pyNext_dict_end (I.ok.hd hc) st dd (Yw hi) fun h' eb=>⟨rfl,I.turned (t':=s.toks) (fun b o hb e=>eb b o hb e) f0 f1 f3 f4 f5⟩
 self:=fun _ _ _ _ _ st h=>wpAny_pyIter_keyiter st h
def dG:D->Option (List D)
 | .dic false ks _=>some (ks.map yz0)
 |_=>none
def xB(f:tz2):tz3:=fun ps=>(f ps).bind dG
theorem wa5{K:tz0}{U:tz9}{H:Hp}{a:Addr}{o:Obj}{kvs:List (Key×V)}(h:H a=some (.frz o (.dK kvs))):Walk K U (Itf a o kvs) [] H ((kvs.map (·.1)).map yz0) where
 go:=fun H' k i d e=>by
  rw [Yu,Zd] at e
  obtain⟨kv,hkv,e⟩:=Zp.mp e
  refine⟨⟨k a _ h (.inl rfl),(Z4.mp hkv).1⟩,fun y H2 ⟨hy1,hy2⟩=>⟨hy1,?_⟩⟩
  rw [Zd,hkv] at hy2
  cases hy2
  rw [<-e]
  exact xo3 kv.1
 stop:=fun H' k=>⟨k a _ h (.inl rfl),by rw [Z8,Z8];exact Zc _⟩
theorem zs3{X:Cx}{U:tz9}{tg e:Expr}{f:tz2}(h:QP X U e f):QIP X U tg e (xB f):=⟨by
 rintro pins s σ H R I ⟨ps,l,w,e,q⟩
 obtain⟨d,e1,e2⟩:=bind_some e
 unfold dG at e2
 split at e2
 ·cases e2
  refine thn (h pins s σ H (fun x H1=>SameK H H1/\∃fp,Rep X.K U H1 x _ fp) I ⟨ps,_,w,e1,fun v H' fv s1 _ _ r=>⟨s1,fv,r⟩⟩) fun v s1 ⟨x,H1,I1,r1,sm,fp,rp⟩=> ?_
  obtain⟨a,o,kvs,rfl,ha,hk,_⟩:=rp.dicF_inv
  subst hk
  cases r1
  obtain⟨hsm,z,vs,es,ep,hv,hd,dd⟩:=zh0 I1 ha
  refine wpAny_pyIter_dict hsm dd ?_
  refine⟨s1.heap.objs.size,[s1.heap.objs.size],_,_,H1,rfl,I1.kept (t':=s1.toks) fun b o e=>Zf _ e,wa4 (kvs:=kvs) (a:=a) hd,⟨_,Zw _ rfl,rfl,by rw [ZJ hv];rfl⟩,fun b hb=> ?_,q _ H1 [] sm (fun _ h=>absurd h (by simp)) (wa5 ha)⟩
  have e:b=s1.heap.objs.size:=by simpa using hb
  subst e
  exact I1.fpOk (Zc _) (I1.hok.fresh (Zc _))
 ·cases e2⟩
theorem xp4(I:Inv X pins σ H s)(h:H a=some (.dK kvs)):∃ob,Inv X pins σ (upd H a (.frz ob (.dK kvs))) s:=by
 have ne:∀b,H b=none->b≠a:=fun b hb z=>by rw [z,h] at hb;cases hb
 have nt:∀b o,H b=some o->(∀ys,o≠ .dK ys)->b≠a:=fun b o hb ho z=>by
  rw [z,h] at hb
  cases hb
  exact ho _ rfl
 obtain⟨z0,sm,vs,hv,hd⟩:=(show dL X.prog X.w H s.heap a (.dK kvs) from I.hok a _ h)
 obtain⟨ep,ob,es,e0,_⟩:=hd.dictAt
 refine⟨ob,I.ok,I.os,I.bare,⟨I.base.keep,I.base.slot,fun b o h1 h2 h3=> ?_,I.base.there,fun b xs h1=> ?_,fun b o u h1=> ?_,fun b ps h1=> ?_⟩,I.loc,I.cell,?_,fun x c e=> ?_,fun p hp=> ?_,fun b o e=> ?_,I.len⟩
 ·have:=I.base.free b o h1 h2 h3
  rw [bK (ne b this)];exact this
 ·have:=I.base.tups b xs h1
  rw [bK (nt b _ this fun _ z=>by cases z)];exact this
 ·have:=I.base.frzs b o u h1
  rw [bK (nt b _ this fun _ z=>by cases z)];exact this
 ·obtain⟨more,this⟩:=I.base.tbls b ps h1
  exact⟨more,by rw [bK (nt b _ this fun _ z=>by cases z)];exact this⟩
 ·rw [bK (ne _ I.free)];exact I.free
 ·have:=I.freeC x c e
  rw [bK (ne _ this)];exact this
 ·obtain⟨p1,p2,p3⟩:=I.pin p hp
  exact⟨p1,by rw [bK (ne _ p2)];exact p2,p3⟩
 ·have st:∀{b o},dL X.prog X.w H s.heap b o->dL X.prog X.w (upd H a (.frz ob (.dK kvs))) s.heap b o:=fun x=>
   x.stay (fun _ _ _ q=>q) (fun b' hb=>by rw [bK (nt b' _ hb fun _ z=>by cases z)];exact hb) fun b' xs hb=>by rw [bK (nt b' _ hb fun _ z=>by cases z)];exact hb
  by_cases z:b=a
  ·subst z
   rw [cX] at e
   cases e
   exact⟨e0,st (I.hok b _ h)⟩
  ·rw [bK z] at e
   exact st (I.hok b o e)
def yz2:D->Option D
 | .obj true C ns [x,.dic true ks ds]=>if x.imm=true/\D.imms ds=true then some (.obj false C ns [x,.dic false ks ds]) else none
 |_=>none
def jQ(f:tz2):tz2:=fun ps=>(f ps).bind yz2
theorem tI{X:Cx}{U:tz9}{e:Expr}{f:tz2}(h:QP X U e f):QP X U e (jQ f):=⟨by
 intro pins s σ H Q I hh_
 obtain⟨ps,d,w,e,q⟩:=hh_
 obtain⟨d0,e1,e2⟩:=bind_some e
 unfold yz2 at e2
 split at e2
 ·rename_i C ns x ks ds
  obtain⟨⟨hx,hi⟩,e3⟩:=bV e2
  cases e3
  refine thn (h pins s σ H (fun y H1=>SameK H H1/\∃fv,(∀a∈fv,H a=none)/\fv.Nodup/\Rep X.K U H1 y _ fv) I ⟨ps,_,w,e1,fun v H' fv s1 n1 nd1 r=>⟨s1,fv,n1,nd1,r⟩⟩) fun v s1 ⟨y,H1,I1,r1,sm,fv,n1,nd1,rp⟩=> ?_
  obtain⟨l,dx,fs,g,rfl,hl,hn,hs,rfl⟩:=rp.objT_inv
  obtain⟨v1,us,f1,g1,ev,k1,k2,rfl⟩:=hs.split
  obtain⟨v2,rfl,k3⟩:=k2.one_inv
  obtain⟨b,kvs,g2,rfl,hb,hk,k4,rfl⟩:=k3.dicT_inv
  have z1:=k1.imm hx
  subst z1
  have z2:=k4.imm hi
  subst z2
  rw [Y8] at nd1 n1
  have hln:=n1 l Z0
  have hbn:=n1 b (Z1 _ Z0)
  have nbl:b≠l:=fun z=>(Zu.mp nd1).1 (z▸Z0)
  obtain⟨ob,I2⟩:=xp4 I1 hb
  have hl2:upd H1 b (.frz ob (.dK kvs)) l=some (.ins (U C) dx fs):=by rw [bK (Y7 nbl)];exact hl
  refine⟨.ref l,_,I2.freeze hl2,r1,q (.ref l) _ [] ⟨fun c o hc hk'=> ?_,fun c hc=> ?_⟩ (fun _ h=>absurd h (by simp)) Zr (.objF cX hn ?_)⟩
  ·rw [bK (fun z=>by rw [z,hln] at hc;cases hc),bK (fun z=>by rw [z,hbn] at hc;cases hc)]
   exact sm.keep c o hc hk'
  ·exact sm.grow c (pM (pM hc))
  ·have mv:∀c o,H1 c=some o->tf o=true->upd (upd H1 b (.frz ob (.dK kvs))) l (.frz (PySem.W.instObj (U C) dx) (.ins (U C) dx fs)) c=some o:=fun c o hc ht=>by
    rw [bK (fun z=>by rw [z,hl] at hc;cases hc;cases ht),bK (fun z=>by rw [z,hb] at hc;cases hc;cases ht)];exact hc
   rw [ev]
   exact .cons (f:=[]) (g:=[]) (k1.move mv fun _ h=>absurd h (by simp)) (.one (.dicF (o:=ob) (by rw [bK nbl];exact cX) hk (k4.move mv fun _ h=>absurd h (by simp))))
 ·cases e2⟩
theorem yp7:∀{vs:List Value} {ns:List Int},vs.length=ns.length->(∀(i:Nat) v n,vs[i]? =some v->ns[i]? =some n->∃t,v= .int n t)->IntsAre vs ns
 |[],[],_,_=> .nil
 |v::vs,n::ns,hl,h=>by
  obtain⟨t,rfl⟩:=h 0 v n rfl rfl
  exact .cons _ _ (yp7 (by simpa using hl) fun i v m h1 h2=>h (i+1) v m (by simpa using h1) (by simpa using h2))
 |[],_::_,hl,_=>by simp at hl
 |_::_,[],hl,_=>by simp at hl
theorem zw6:∀{vs:List Value} {ns:List Int},IntsAre vs ns->bQ (ns.map V.int) vs
 |_,_,.nil=> .nil
 |_,_,.cons _ t h=> .cons ⟨t,rfl⟩ (zw6 h)
section
variable{prog:Program}{w:World}{A:Around}{E:Value->Shared->Prop}{s:Shared}
theorem zh1{a:Addr}{vs:List (Key×Value)}{ep:Nat}{ns:List Int}{Q:Value->Shared->Prop}(hh:A.handled=none)(sm:(a==sysModules)=false)(dd:s.heap.DictAt (eO prog w) a vs ep)(hk:vs.map (·.1)=ns.map Sum.inl)(h64:vs.length<64)
  (hQ:∀(h1 h':Heap) (tk:Nat) (its:Array Value) (c:Nat),(∀b o,s.heap.get? b=some o->h1.get? b=some o)->(∀b o,h1.get? b=some o->h'.get? b=some o)->h'.get? h1.objs.size=some {cls:= .type "list",data:= .seq its c}->IntsAre its.toList (PySem.W.sortI ns)->Q (.ref h1.objs.size) {s with heap:=h',toks:=tk}):
  wpAny (model prog w) A (call (.builtin "sorted") [.ref a]) Q E s:=by
 have ln:ns.length=vs.length:=by have:=ZK List.length hk;simpa using this.symm
 refine PySem.Calls.call_function_entry kind_sorted plain_sorted entry_sorted (args_sorted1 _) ?_
 unfold Builtin.«sorted»
 refine Ze (m:=checkCount "sorted" 1 1 _) (ZG ?_)
 refine Ze (PySem.W.kdu_collect (A:=A.in1) (PySem.W.kdl_dict (knd:=eO prog w) (kvs:=vs) (ep:=ep) sm) hh dd (by rw [Y2];omega) fun h' tk acc hkk hacc=> ?_)
 have hl:acc.toList.length=vs.length:=by rw [ZS];exact hacc.1
 have hI:IntsAre acc.toList ns:=yp7 (by omega) fun i v n h1 h2=>by
  obtain⟨k,x,e1,e2⟩:=hacc.2 i v (by rw [<-W8];exact h1)
  have e3:(vs.map (·.1))[i]? =(ns.map (Sum.inl (β:=Str)))[i]? :=by rw [hk]
  rw [Zd,Zd,e1,h2] at e3
  have e4:k=Sum.inl n:=by simpa using e3
  subst e4
  exact Value.isInt_shape (k:=n) (v:=v) e2
 refine Ze (wpAny_newList ?_ (by rw [hl,Y2];omega))
 have hoL:(h'.push (seqObj "list" acc.toList.toArray 0)).get? h'.objs.size=some (seqObj "list" acc.toList.toArray 0):=Zw _ rfl
 refine Ze (Ys (wpAny_call_entry slot_list_sort ⟨_,hoL,rfl⟩ entry_list_sort (list_sort_tree hoL hI (by omega) fun out ns' a1 a2 a3=>⟨_,rfl,?_⟩) (args_list_sort _)))
 obtain⟨e,he⟩:=sortedHeap_at (vs:=acc.toList) (out:=out) hoL
 refine ZG ⟨_,rfl,hQ h' _ tk out e hkk (fun b o hb=> ?_) he (by rw [<-PySem.W.eq_sortI a2 a3];exact a1)⟩
 rw [sortedHeap_old (ZH (Zi hb)) (by rw [size_push'];exact Nat.lt_succ_of_lt (Zi hb))]
 exact Zf _ hb
end
theorem zw7{K:tz0}{U:tz9}{H:Hp}:∀ns:List Int,Paired (fun v d=>Rep K U H v d []) (ns.map V.int) (ns.map D.int)
 |[]=> .nil
 |n::ns=> .cons (.int n) (zw7 ns)
def ze4:List Key->Option (List Int)
 |[]=>some []
 | .inl i::ks=>(ze4 ks).map (i::·)
 | .inr _::_=>none
theorem zl2:∀{ks:List Key} {ns:List Int},ze4 ks=some ns->ks=ns.map Sum.inl
 |[],_,e=>by cases e;rfl
 | .inl i::ks,_,e=>by
  obtain⟨ns,e1,rfl⟩:=Zp.mp e
  rw [Z9,zl2 e1]
 | .inr _::_,_,e=>by cases e
def zb0:tz6
 |[.dic _ ks _]=>(ze4 ks).bind fun ns=>if ns.length<64 then some (.lst true ((PySem.W.sortI ns).map .int)) else none
 |_=>none
theorem xp5{X:Cx}{U:tz9}(hc:X.calm=true):CallR X (.builtin "sorted") (PCl X.K U zb0):=⟨by
 rintro pins s σ H vs us Q I r ⟨ds,fp,d,rs,e,q⟩
 unfold zb0 at e
 split at e
 ·obtain⟨ns,e1,e2⟩:=bind_some e
  obtain⟨h64,e3⟩:=bV e2
  cases e3
  obtain⟨v,rfl,r1⟩:=rs.one_inv
  obtain⟨a,kvs,g,rfl,ha,hk,_⟩:=r1.dic_inv
  obtain⟨u,rfl,ru⟩:=mH r
  cases ru
  subst hk
  have hns:=zl2 e1
  obtain⟨z,sm,vs,hv,hd⟩:=uV I.hok ha
  obtain⟨ep,dd⟩:=hd.dictAt
  have ln:ns.length=kvs.length:=by have:=ZK List.length hns;simpa using this.symm
  have lv:=ZJ hv
  refine zh1 (I.ok.hd hc) sm dd (hv.keys.symm.trans hns) (by omega) fun h1 h' tk its c k1 k2 ho hI=> ?_
  have I1:Inv X pins σ H {s with heap:=h1}:=I.kept (t':=s.toks) k1
  have hl:((PySem.W.sortI ns).map V.int).length<=sizeLine:=by
   rw [Z8,(Yf ns).length_eq];exact YG (nR (by omega))
  have hp:H h1.objs.size=none:=I1.hok.fresh (Zc _)
  refine⟨.ref _,_,I1.laid (t':=tk) (o:= .lst ((PySem.W.sortI ns).map V.int)) k2 (Zc _) ⟨hl,its.toList,c,zw6 hI,by simpa using ho⟩,rfl,zc7 hp (zw7 _) q⟩
 ·cases e⟩
def Ite(K:tz0)(a:Addr):It:=
 ⟨fun i H=>∃xs x,SqL K H a xs/\xs[i]? =some x,fun i H x H'=>∃p v,H p=none/\x= .ref p/\H'=upd H p (.tup [.int i,v])/\∀xs,SqL K H a xs->xs[i]? =some v,fun i H=>∃xs,SqL K H a xs/\xs.length<=i⟩
theorem ym5{X:Cx}{pins:tzB}{σ:St}{H:Hp}{s:Shared}{h':Heap}{t':Nat}{e it:Addr}(I:Inv X pins σ H s)(k:∀b o,b≠e->b≠it->s.heap.get? b=some o->h'.get? b=some o)(he:oM X pins H e)(hi:oM X pins H it):Inv X pins σ H {s with heap:=h',toks:=t'}:=by
 have nn:∀b,(b∉[e,it])->b≠e/\b≠it:=fun b h=>⟨fun z=>h (by simp [z]),fun z=>h (by simp [z])⟩
 have nit:∀b u,H b=some u->b≠e/\b≠it:=fun b u q=>⟨fun z=>by(rw [z,he.1] at q;cases q),fun z=>by(rw [z,hi.1] at q;cases q)⟩
 refine I.step (g':=s.gens) (d':=s.drawn) (ch:=[e,it]) (fun b hb=> ?_) (fun b o _ _ hc q _=>k b o (nn b hc).1 (nn b hc).2 q) (fun b o _ _ hc q _=>⟨o.slots,k b o (nn b hc).1 (nn b hc).2 q⟩) (fun _ _ _ _ n=>n)
  (fun b o hc q=>⟨o,k b o (nn b hc).1 (nn b hc).2 q⟩) (fun _ _ e=>e) (fun _ _ _ e=>e) (fun b ps e=>⟨#[],by rw [e];simp⟩) (fun m hm=> ?_) (fun b u q=> ?_) I.bare
 ·rcases Z2.mp hb with z|z
  ·rw [z];exact⟨he.2.2.2.1,he.2.1,he.2.2.2.2.1,he.2.2.2.2.2⟩
  ·rw [Zg.mp z];exact⟨hi.2.2.2.1,hi.2.1,hi.2.2.2.2.1,hi.2.2.2.2.2⟩
 ·obtain⟨o,es,ep,ho,r⟩:=hm
  exact⟨o,es,ep,k _ o (Y7 he.2.1) (Y7 hi.2.1) ho,r⟩
 ·refine(I.hok b u q).stay (fun c v hc q'=> ?_) (fun _ q=>q) fun _ _ q=>q
  rcases hc with z|z
  ·rw [z] at q'|-;exact k b v (nit b u q).1 (nit b u q).2 q'
  ·exact k c v (nit c _ z).1 (nit c _ z).2 q'
theorem wa6{P:Program}{w:World}{K:tz0}{elts:List Expr}{x1:Nat}{pos:Pos}(a e it:Addr)(hne:e≠it):Turn P w K (.Tuple elts x1 pos) (Ite K a) [e,it] e (fun i h=>(∃old,IsEnum h e it (i:Nat) old)/\h.IsListIter it a i) where
 mem:=by simp
 obj:=fun i h st b hb=>by
  obtain⟨⟨old,st1⟩,st2⟩:=st
  rcases Z2.mp hb with rfl|hb
  ·exact⟨_,st1,fun v z=>by
    have z':Data.fields _=Data.cell v:=z
    cases z'⟩
  ·have z:b=it:=by simpa using hb
   subst z
   obtain⟨o,q,c,d⟩:=st2
   exact⟨o,q,fun v z=>by rw [d] at z;cases z⟩
 keep:=fun i h h' st k=>⟨by obtain⟨⟨old,st1⟩,_⟩:=st;exact⟨old,k e (by simp) _ st1⟩,st.2.at fun o q=>k it (by simp) o q⟩
 item:=by
  intro X hP hw hK hc i pins s σ H E I hf st hg
  subst hP hw hK
  obtain⟨xs,x,hq,hx⟩:=hg
  obtain⟨its,rv,p,hz⟩:=I.list hq
  obtain⟨u,hu,ru⟩:=rv.get hx
  obtain⟨⟨old,st1⟩,st2⟩:=st
  refine wpAny_pyNext_enum_item st1 st2 p.isList (x:=u) (by simpa using hu) hne fun h' heo hit ht hsz hk=> ?_
  refine⟨_,rfl,wpAny_letOwnedTupleGo_enum heo fun h2 he2 hs2=> ?_⟩
  have hs2':Heap.SameBut e h' h2:=hs2
  have hes:e<s.heap.objs.size:=Zi st1
  have ni:Heap.get? h2 s.heap.objs.size=some {cls:= .type "tuple",data:= .seq #[.int i s.toks,u]}:=(hs2'.2 _ (XW hes)).trans ht
  have hp:H s.heap.objs.size=none:=I.hok.fresh (Zc _)
  have kk:∀b o,b≠e->b≠it->s.heap.get? b=some o->h2.get? b=some o:=fun b o h3 h4 h5=>(hs2'.2 b h3).trans (hk b o h3 h4 h5)
  have hes2:it<s.heap.objs.size:=by obtain⟨o,q,_⟩:=st2;exact Zi q
  have I0:Inv X pins σ (upd H s.heap.objs.size (.tup [.int i,x])) {s with heap:=s.heap.push {cls:= .type "tuple",data:= .seq #[.int i s.toks,u]}}:=
   I.laid (t':=s.toks) (fun b o q=>Zf _ q) (Zc _) ⟨YG (nR (by simp)),[.int i s.toks,u],.cons ⟨_,rfl⟩ (.cons ru .nil),⟨_,Zw _ rfl,rfl,0,rfl⟩⟩
  have fo:∀b∈[e,it],oM X pins (upd H s.heap.objs.size (.tup [.int i,x])) b:=fun b hb=>by
   refine⟨?_,(hf b hb).2⟩
   rw [bK]
   ·exact(hf b hb).1
   ·rcases Z2.mp hb with z|z
    ·rw [z];exact ZH hes
    ·rw [Zg.mp z];exact ZH hes2
  have I1:Inv X pins σ (upd H s.heap.objs.size (.tup [.int i,x])) {s with heap:=h2,toks:=s.toks+1}:=ym5 (s:={s with heap:=s.heap.push {cls:= .type "tuple",data:= .seq #[.int i s.toks,u]}}) (t':=s.toks+1) I0 (fun b o h3 h4 h5=>by
   rcases Heap.get?_push_cases h5 with ⟨rfl,rfl⟩|h5
   ·exact ni
   ·exact kk b o h3 h4 h5) (fo e (by simp)) (fo it (by simp))
  refine⟨.ref s.heap.objs.size,_,I1,rfl,⟨_,x,hp,rfl,rfl,fun ys hy=>by rw [I.list_inj hy hq];exact hx⟩,⟨⟨u,?_⟩,?_⟩,fun b hb=> ?_⟩
  ·have:((i+1:Nat):Int)=(i:Int)+1:=by push_cast;rfl
   rw [this];exact he2
  ·exact hit.at fun o q=>(hs2'.2 it (Y7 hne)).trans q
  ·exact(fo b hb).1
 done:=by
  intro X hP hw hK hc i pins s σ H E I hf st hg
  subst hP hw hK
  obtain⟨xs,hq,hx⟩:=hg
  obtain⟨its,rv,p,hz⟩:=I.list hq
  obtain⟨⟨old,st1⟩,st2⟩:=st
  obtain⟨f0,f1,f2,f3,f4,f5⟩:=hf it (by simp)
  have hl:=rv.length
  exact wpAny_pyNext_enum_end (I.ok.hd hc) st1 st2 p.isList (by simp;omega) fun h' eb=>⟨rfl,I.turned (t':=s.toks) (fun b o hb e=>eb b o hb e) f0 f1 f3 f4 f5⟩
 self:=fun _ _ _ _ _ st h=>by
  obtain⟨⟨old,st1⟩,_⟩:=st
  exact wpAny_pyIter_enum st1 h
structure WalkE(K:tz0)(U:tz9)(J:It)(Z:List Addr)(H1:Hp)(ds:List D):Prop where
 go:∀H',rX Z H1 H'->∀(i:Nat) d,ds[i]? =some d->J.go i H'/\∀x H2,J.yld i H' x H2->SameK H' H2/\Rep K U H2 x d []
 stop:∀H',rX Z H1 H'->J.stop ds.length H'
def mQ:Nat->List D->List D
 |_,[]=>[]
 |n,d::ds=> .tup [.int n,d]::mQ (n+1) ds
theorem zw8:∀{ds:List D} {n i:Nat} {d:D},(mQ n ds)[i]? =some d->∃y,ds[i]? =some y/\d= .tup [.int ((n+i:Nat):Int),y]
 |[],_,_,_,h=>by simp [mQ] at h
 |y::ds,n,0,d,h=>by
  rw [mQ] at h
  exact⟨y,rfl,by simpa using h.symm⟩
 |y::ds,n,i+1,d,h=>by
  rw [mQ,Yd] at h
  obtain⟨z,h1,h2⟩:=zw8 h
  exact⟨z,by simpa using h1,by rw [h2,show n+1+i=n+(i+1) by omega]⟩
theorem zw9:∀(ds:List D) (n:Nat),(mQ n ds).length=ds.length
 |[],_=>rfl
 |d::ds,n=>by rw [mQ,Z6,Z6,zw9 ds]
theorem wa7{K:tz0}{U:tz9}{H1:Hp}{a:Addr}{vs:List V}{ds:List D}{Z:List Addr}(h:Rd H1 a (.lst vs))(hz:H1 a=some (.lst vs)->a∈Z)(r:Paired (fun v d=>Rep K U H1 v d []) vs ds):WalkE K U (Ite K a) Z H1 (mQ 0 ds) where
 go:=fun H' k i d e=>by
  obtain⟨y,e0,rfl⟩:=zw8 e
  obtain⟨x,e1,r1⟩:=lK r e0
  have sq:SqL K H' a vs:=k.sq h hz
  refine⟨⟨vs,x,sq,e1⟩,fun z H2 hy=> ?_⟩
  obtain⟨p,v,hp,rfl,rfl,hv⟩:=hy
  have e2:=hv vs sq
  rw [e1] at e2;cases e2
  have sm:SameK H' (upd H' p (.tup [.int i,x])):= .new hp _
  refine⟨sm,.tup (.inl (.inl cX)) (.cons (f:=[]) (g:=[]) ?_ (.one ((k.rep r1).same sm)))⟩
  rw [YZ];exact .int _
 stop:=fun H' k=>⟨vs,k.sq h hz,by rw [zw9,ZJ r];exact Zc _⟩
def yc0(f:tz2):tz3:=fun ps=>(f ps).bind fun d=>(yz1 d).map (mQ 0)
section
variable{X:Cx}{U:tz9}{φ:F0}{pos:Pos}{body:List Stmt}{f:tz1}
theorem xg0{φ:Fx}(R:RS φ H σ ps F)(hz:∀a∈Z,H a≠none/\∀i,a∉F i)(W:WalkE φ.K φ.U J Z H ds)(hb:∀i∈is,φ.bor i=false/\φ.M i=false)
  (e:nA is f ds ps=some (fl,ps')) (q:yG φ E σ H F fl ps'):wm6 (fun v σ H Q=>xt9 φ.K is.length (wZ is) v σ H Q\/xt4 φ.K is.length (wZ is) v σ H Q) (tS φ f) E σ J H:=by
 refine⟨fun k m σ1 H1=>k<=ds.length/\m=ds.length-k/\∃ps1 F1,Stp φ σ H F σ1 H1 ps1 F1/\nA is f (ds.drop k) ps1=some (fl,ps'),⟨_,ZT _,rfl,ps,F,.refl R,by rw [XH];exact e⟩,?_⟩
 rintro k m σ1 H1 ⟨hk,rfl,ps1,F1,s1,e1⟩
 have kp:rX Z H H1:=s1.fr.kept R fun a ha=>(hz a ha).2
 by_cases hlt:k<ds.length
 ·right
  have ed:ds[k]? =some ds[k]:=Zn hlt
  obtain⟨hgo,hy⟩:=W.go H1 kp k _ ed
  rw [ZR hlt,nA] at e1
  obtain⟨ys,e0,e1⟩:=bind_some e1
  obtain⟨hl,e1⟩:=bV e1
  obtain⟨⟨fl2,ps2⟩,e2,e3⟩:=bind_some e1
  refine⟨hgo,fun σ' H'=>∃F',Stp φ σ H F σ' H' ps2 F'/\nA is f (ds.drop (k+1)) ps2=some (fl,ps'),fun σ' H' ⟨F',s,e⟩=>⟨ds.length-(k+1),by omega,hlt,rfl,ps2,F',s,e⟩,fun x H' y=> ?_⟩
  obtain⟨sm,rx⟩:=hy x H' y
  rw [xf0 e0] at rx
  obtain⟨a,vs,rfl,h,hs⟩:=rx.tup_inv
  have ln:=hs.length
  have s0:=Stp.same s1.rs sm
  obtain⟨F2,s2⟩:=Stp.setN s1.rs s0 ⟨fun a ha=>absurd ha (by simp),Zr,fun k a ha hg=>absurd hg (by simp)⟩ hs hb
  have s12:=s1.trans s2
  refine .inr ⟨a,vs,rfl,h,by omega,uY (by omega) ⟨_,F2,fl2,ps2,s2.rs,e2,?_⟩⟩
  cases fl2 with
  |nx=>exact fun σ' H' F' s=>⟨F',s12.trans s,e3⟩
  |ct=>exact fun σ' H' F' s=>⟨F',s12.trans s,e3⟩
  |bk=>cases e3;exact fun σ' H' F' s=>q σ' H' F' (s12.trans s)
  |ret d=>cases e3;exact fun v σ' H' F' fv s o r=>q v σ' H' F' fv (s12.trans s) (o.after s12) r
 ·left
  have ek:k=ds.length:=by omega
  subst ek
  rw [Xs,nA] at e1
  cases e1
  exact⟨W.stop H1 kp,q _ _ F1 s1⟩
theorem wa8(is:List Nat){es:List Expr}{k:Nat}{l:Expr}{fl:tz2}{px p p2:Pos}(hp:PassesOwn (model X.prog X.w) X.A X.env X.xe)(hc:X.calm=true)(hg:Gl X "enumerate")(hm:X.mg "enumerate"=none)(hl:QP X U l fl)(hgs:PGs X es (wZ is))(hb:∀i∈is,φ.bor i=false/\φ.M i=false)
  (hbd:QSs X U φ body f) (hn:(assignEach es X.env).length=is.length:=by rfl) (hst:(assignEach es X.env).findIdx? (·.1)=none:=by rfl) (hs1:starEach [l] X.env=(false,eval l X.env)::starEach [] X.env:=by rfl) (hs:∀x,foldedSetIterable (.Call (.Name "enumerate" p) [l] [] p2) X.env x=pure x:=by intro _;rfl):
  QS X U φ (.For (.Tuple es k px) (.Call (.Name "enumerate" p) [l] [] p2) body [] pos) (yb8 is (yc0 fl) f):=by
 have hi:PI X (.Tuple es k px) (.Call (.Name "enumerate" p) [l] [] p2) (fun σ H R=>∃ps xs,WS X.K U H σ ps/\fl ps=some (.lst true xs)/\D.imms xs=true/\∀J H1 Z,SameK H H1->(∀a∈Z,H a=none/\H1 a≠none)->WalkE X.K U J Z H1 (mQ 0 xs)->R J H1):=by
  constructor
  intro pins s σ H R I hh_
  obtain⟨ps,xs,w,e1,him,q⟩:=hh_
  refine Y4 (tR I hg hm (u:= .type "enumerate") rfl ?_)
  refine Yi ?_ hs1 rfl
  rw [hs1]
  refine YU (thn (hl pins s σ H (fun v H1=>SameK H H1/\∃fv,(∀a∈fv,H a=none)/\Rep X.K U H1 v (.lst true xs) fv) I ⟨ps,_,w,e1,fun v H1 fv s1 n1 _ r1=>⟨s1,fv,n1,r1⟩⟩) fun u s1 hu=>X2 ?_)
  obtain⟨v,H1,I1,r1,sm,fv,n1,rp⟩:=hu
  obtain⟨a,ws,g,rfl,ha,hws,rfl⟩:=rp.lstT_inv
  have eg:=hws.imm him
  subst eg
  cases r1
  obtain⟨its,rv,pl,hz⟩:=I1.list (.inl (.inl ha))
  refine call_enumerate_list pl.isList fun h' hE hI hsz hk=>wpAny_pyIter_enum hE ?_
  have I2:Inv X pins σ H1 {s1 with heap:=h'}:=I1.kept (t':=s1.toks) hk
  refine⟨s1.heap.objs.size+1,[s1.heap.objs.size+1,s1.heap.objs.size],_,_,H1,rfl,I2,wa6 a (s1.heap.objs.size+1) s1.heap.objs.size (Nat.succ_ne_self _),⟨⟨_,hE⟩,hI⟩,fun b hb=> ?_,q _ H1 [a] sm (fun b hb=> ?_) (wa7 (.inl ha) (fun _=>by simp) hws.nilp)⟩
  ·have hb2:s1.heap.objs.size<=b:=by
    rcases Z2.mp hb with z|z
    ·rw [z];exact Nat.le_succ _
    ·rw [Zg.mp z];exact Zc _
   exact I1.fpOk hb2 (I1.hok.fresh hb2)
  ·rw [Zg.mp hb]
   exact⟨n1 a Z0,by rw [ha];simp⟩
 exact(yd1 hp hc hi (xe5 (n:=is.length) hc hgs hn hst) hbd hs).imp fun E σ H hh_=>by
  obtain⟨ps,F,fl',ps',R,e,q⟩:=hh_
  obtain⟨ds,e1,e2⟩:=bind_some e
  obtain⟨d,e4,e3⟩:=bind_some e1
  obtain⟨xs,e5,rfl⟩:=Zp.mp e3
  obtain⟨rfl,him⟩:=yv1 e5
  refine⟨ps,_,R.ws,e4,him,fun J H1 Z s1 hz W=> ?_⟩
  have s:=Stp.same R s1
  exact xg0 s.rs (fun a ha=>⟨(hz a ha).2,fun j hj=>by obtain⟨o,h,_⟩:=R.own hj;rw [(hz a ha).1] at h;cases h⟩) W hb e2 (q.back s)
end
inductive LtS(A:Around)(s:Shared):List Value->List Value->Bool->Prop
 |nn:LtS A s [] [] false
 |nc {y:Value} {ys:List Value}:LtS A s [] (y::ys) true
 |cn {x:Value} {xs:List Value}:LtS A s (x::xs) [] false
 |eq {x y:Value} {xs ys:List Value} {c:Bool}:SeqAt.EqAt A s x y true->LtS A s xs ys c->LtS A s (x::xs) (y::ys) c
 |ne {x y:Value} {xs ys:List Value} {c:Bool}:SeqAt.EqAt A s x y false->(∀(prog:Program) (w:World) (E Q:Value->Shared->Prop),Q (.bool c) s->wpAny (model prog w) A (richCompare .Lt x y) Q E s)->LtS A s (x::xs) (y::ys) c
section
open PySem.SeqAt
open PySem.AutoSeq1 (wpAny_loadPart')
open PySem.MeetsSeq PySem.MeetsSeq2 PySem.MeetsSeq3
theorem yv8(l b:Addr)(items items2:Array Value)(n n2:Nat)(dd dd2:Option Addr)(sl sl2:Array (Option Value))(c:Bool):
  Meets (Builtin.«tuple.__lt__» ⟨[.ref l,.ref b],[]⟩)
   (fun A R s=>s.heap.get? l=some {cls:= .type "tuple",dict:=dd,data:= .seq items n,slots:=sl}/\s.heap.get? b=some {cls:= .type "tuple",dict:=dd2,data:= .seq items2 n2,slots:=sl2}/\
    LtS A.in1 s items.toList items2.toList c/\R (.ok (.ret (.bool c))) s):=
 .of_wp fun prog w A R s h=>by
  obtain⟨hp,g,d,tk,os⟩:=s;obtain⟨hl,hb,hL,h⟩:=h
  have f2:=Wn
  wp_walk using Yv hl,Yv hb,wpAny_forIn_list _ (fun rest b s'=>b.1=none/\s'=⟨hp,g,d,tk,os⟩/\∃(vs ws:List Value),rest=vs.zip ws/\
   LtS A.in1 ⟨hp,g,d,tk,os⟩ vs ws c/\vs.length+items2.size=ws.length+items.size/\R (.ok (.ret (.bool c))) ⟨hp,g,d,tk,os⟩) _
  case turn=>
   rintro⟨y,x⟩ rest b s' ⟨hb',rfl,vs,ws,hz,hS,hlen,hR⟩
   cases hS with
   |nn=>rw [Xi] at hz;cases hz
   |nc=>rw [Xi] at hz;cases hz
   |cn=>rw [Wo] at hz;cases hz
   |eq he hS'=>
    rw [Ye] at hz
    injection hz with hyx hrest
    injection hyx with hy hx
    subst hy hx
    simp only [Z6] at hlen
    refine Ze (he prog w _ _ ?_)
    wp_walk
    exact⟨rfl,rfl,_,_,hrest,hS',by omega,hR⟩
   |ne he hlt=>
    rw [Ye] at hz
    injection hz with hyx hrest
    injection hyx with hy hx
    subst hy hx
    refine Ze (he prog w _ _ ?_)
    have hri:=hlt prog w
    wp_walk using hri
    exact⟨_,rfl,by simpa using hR⟩
  case fin=>
   rintro⟨b1,b2⟩ s' ⟨hb',rfl,vs,ws,hz,hS,hlen,hR⟩
   simp only at hb'
   subst hb'
   have hv:c=decide (items.size<items2.size):=by
    cases hS with
    |nn=>simp only [ZV] at hlen;exact(Zh (by omega)).symm
    |nc=>simp only [ZV,Z6] at hlen;exact(Zo (by omega)).symm
    |cn=>simp only [ZV,Z6] at hlen;exact(Zh (by omega)).symm
    |eq _ _=>rw [Ye] at hz;cases hz
    |ne _ _=>rw [Ye] at hz;cases hz
   rw [hv] at hR
   wp_walk
   exact⟨_,rfl,by simpa [Builtin.Tuple.tupleCompareSizes] using hR⟩
  case h=>
   exact⟨rfl,rfl,items.toList,items2.toList,rfl,hL,by simp;omega,h⟩
end
section
variable{prog:Program}{w:World}{A:Around}{E:Value->Shared->Prop}{s:Shared}
theorem yp8{l b:Addr}{items items2:Array Value}{c:Bool}{Q:Value->Shared->Prop}(hl:IsTup s.heap l items)(hb:IsTup s.heap b items2)(hS:LtS A.in1 s items.toList items2.toList c)
  (hu:A.units<cLine) (h:Q (.bool c) s):wpAny (model prog w) A (compareOp .Lt (.ref l) (.ref b)) Q E s:=by
 obtain⟨⟨cls,dd,data,sl⟩,ho,hc,n,hd⟩:=id hl
 obtain⟨⟨cls2,dd2,data2,sl2⟩,ho2,hc2,n2,hd2⟩:=id hb
 simp only at hc hd hc2 hd2
 subst hc hd hc2 hd2
 exact richCompare_meets_room (op:= .Lt) ⟨_,ho,rfl⟩ ⟨_,ho2,rfl⟩ W6 XY (XT _ _) (yv8 l b items items2 n n2 dd dd2 sl sl2 c)
  ⟨ho,ho2,hS,show Value.bool c≠Value.notImplemented/\Q (.bool c) s from⟨(fun x=>nomatch x),h⟩⟩ hu
end
def zb1:List (List Int)->List (List Int)->Bool
 |[],[]=>false
 |[],_::_=>true
 |_::_,[]=>false
 |x::xs,y::ys=>if x=y then zb1 xs ys else HT.lexLt x y
inductive TI2(s:Shared):List Value->List (List Int)->Prop
 |nil:TI2 s [] []
 |cons {a:Addr} {its:Array Value} {ns:List Int} {vs:List Value} {nss:List (List Int)}:IsTup s.heap a its->IntsAre its.toList ns->TI2 s vs nss->TI2 s (.ref a::vs) (ns::nss)
theorem zl3{h:Heap}:∀{vs:List Value} {ns:List Int},IntsAre vs ns->∃as,ReadsAll h vs (ns.map .int) as
 |_,_,.nil=>⟨_,.nil⟩
 |_,_,.cons i t hs=>by
  obtain⟨as,r⟩:=zl3 (h:=h) hs
  exact⟨_,.cons (.int i t) r⟩
theorem zx0{s:Shared}{a:Addr}{its:Array Value}{ns:List Int}(h:IsTup s.heap a its)(hi:IntsAre its.toList ns):∃as,Reads s.heap (.ref a) (.tuple (ns.map .int)) as:=by
 obtain⟨o,e,c,n,d⟩:=h
 obtain⟨as,r⟩:=zl3 (h:=s.heap) hi
 exact⟨_,.tuple e c d r⟩
theorem zg0:∀ns ms:List Int,PyData.eqvAll (ns.map .int) (ms.map .int)=decide (ns=ms)
 |[],[]=>by simp [PyData.eqvAll]
 |[],_::_=>by simp [PyData.eqvAll]
 |_::_,[]=>by simp [PyData.eqvAll]
 |n::ns,m::ms=>by
  rw [Z9,Z9,PyData.eqvAll,zg0 ns ms,PyData.eqv]
  by_cases h:n=m<;>by_cases h2:ns=ms<;>simp [h,h2]
theorem xp6{A:Around}{s:Shared}(hu:A.units+8<cLine):∀{vs ws:List Value} {nss mss:List (List Int)},TI2 s vs nss->TI2 s ws mss->LtS A s vs ws (zb1 nss mss)
 |_,_,_,_,.nil,.nil=> .nn
 |_,_,_,_,.nil,.cons _ _ _=> .nc
 |_,_,_,_,.cons _ _ _,.nil=> .cn
 | _,_,_,_,.cons (ns:=ns) h1 i1 t1,.cons (ns:=ms) h2 i2 t2=>by
  obtain⟨as,r1⟩:=zx0 h1 i1
  obtain⟨bs,r2⟩:=zx0 h2 i2
  have e:=SeqAt.eqAt_reads _ _ A s _ _ as bs r1 r2 (by simp only [PyData.canLay0,canLayAll_ints]) (by simp only [PyData.canLay0,canLayAll_ints]) (by simp only [PyData.depth,depthAll_ints];omega)
  rw [PyData.eqv,zg0] at e
  rw [zb1]
  by_cases z:ns=ms
  ·rw [Zo z] at e
   rw [if_pos z]
   exact .eq e (xp6 hu t1 t2)
  ·rw [Zh z] at e
   rw [if_neg z]
   exact .ne e fun prog w E Q q=>HT.lt_tupInts h1 h2 i1 i2 (by omega) q
def D.intss:List D->Option (List (List Int))
 |[]=>some []
 | .tup xs::ds=>(D.ints xs).bind fun ns=>(D.intss ds).map (ns::·)
 |_=>none
theorem zl4{X:Cx}{U:tz9}{pins:tzB}{σ:St}{H:Hp}{s:Shared}(I:Inv X pins σ H s):∀{ds:List D} {vs:List V} {us:List Value} {nss:List (List Int)},Reps X.K U H vs ds []->bQ vs us->D.intss ds=some nss->TI2 s us nss
 |[],_,_,_,r,v,e=>by
  cases r;cases v;cases e
  exact .nil
 | d::ds,_,_,nss,r,v,e=>by
  obtain⟨v1,vs1,f,g,rfl,r1,r2,ef⟩:=r.split
  obtain⟨rfl,rfl⟩:=W0.mp ef.symm
  cases v with
  | cons ru rus=>
   cases d with
   |tup xs=>
    obtain⟨ns,e1,e2⟩:=bind_some (show(D.ints xs).bind _=some nss from e)
    obtain⟨mss,e3,rfl⟩:=Zp.mp e2
    obtain⟨a,ws,rfl,h1,s1⟩:=r1.tup_inv
    rw [sZ s1 e1] at h1
    cases ru
    obtain⟨its,rv,p,_⟩:=I.tuple h1
    exact .cons p (by simpa using xE rv) (zl4 I r2 rus e3)
   |_=>cases e
def yj9:D->D->Option D
 | .tup xs,.tup ys=>(D.intss xs).bind fun ns=>(D.intss ys).map fun ms=> .bl (zb1 ns ms)
 |_,_=>none
theorem wp0{X:Cx}{U:tz9}(hu:X.A.units+64<cLine):OpR X (compareOp .Lt) (POp X.K U yj9):=⟨by
 rintro pins s σ H x y v u Q I rx ry ⟨dx,dy,d,fx,fy,r1,r2,e,q⟩
 unfold yj9 at e
 split at e
 ·obtain⟨ns,e1,e⟩:=bind_some e
  obtain⟨ms,e2,e⟩:=Zp.mp e
  subst e
  obtain⟨a,vs,rfl,h1,s1⟩:=r1.tup_inv
  obtain⟨b,us,rfl,h2,s2⟩:=r2.tup_inv
  cases rx
  cases ry
  obtain⟨its,rv,p1,_⟩:=I.tuple h1
  obtain⟨its2,rv2,p2,_⟩:=I.tuple h2
  refine yp8 p1 p2 (xp6 (by show X.A.units+1+8<cLine;omega) (zl4 I s1 rv e1) (zl4 I s2 rv2 e2)) (by omega) ⟨.bl _,H,I,rfl,q.now (.bl _)⟩
 ·cases e⟩
def wB:List Int->Option Int
 |[]=>none
 |n::ns=>match wB ns with
  |none=>some n
  |some m=>some (if m<=n then n else m)
theorem yp9:∀{ns:List Int} {k:Int},wB ns=some k->k∈ns/\∀n∈ns,n<=k
 |[],k,h=>by cases h
 | n::ns,k,h=>by
  rw [wB] at h
  cases e:wB ns with
  | none=>
   rw [e] at h
   cases h
   cases ns with
   |nil=>simp
   |cons m ms=>
    rw [wB] at e
    cases e2:wB ms<;>rw [e2] at e<;>cases e
  | some m=>
   rw [e] at h
   obtain⟨h1,h2⟩:=yp9 e
   have h3:(if m<=n then n else m)=k:=by simpa using h
   by_cases c:m<=n
   ·rw [if_pos c] at h3
    subst h3
    exact⟨by simp,fun x hx=>(Z2.mp hx).elim (fun z=>by omega) fun z=>by have:=h2 x z;omega⟩
   ·rw [if_neg c] at h3
    subst h3
    exact⟨by simp [h1],fun x hx=>(Z2.mp hx).elim (fun z=>by omega) fun z=>h2 x z⟩
def ze5:tz6
 |[.lst _ xs]=>(D.ints xs).bind fun ns=>(wB ns).map .int
 |_=>none
theorem xg1{X:Cx}{U:tz9}(hc:X.calm=true):CallR X (.builtin "max") (PCl X.K U ze5):=⟨by
 rintro pins s σ H vs us Q I r ⟨ds,fp,d,rs,e,q⟩
 unfold ze5 at e
 split at e
 ·obtain⟨ns,e1,e2⟩:=bind_some e
  obtain⟨k,e3,rfl⟩:=Zp.mp e2
  obtain⟨v,rfl,r1⟩:=rs.one_inv
  obtain⟨a,ws,g,rfl,h,hs,_⟩:=r1.lst_inv
  rw [sZ hs e1] at h
  obtain⟨h1,h2⟩:=yp9 e3
  refine xd2 hc pins s σ H _ us Q I r ⟨a,ns,rfl,.inl h,List.length_pos_of_mem h1,fun m hm hx=> ?_⟩
  have em:m=k:=by have:=h2 m hm;have:=hx k h1;omega
  rw [em]
  exact q.now (.int _)
 ·cases e⟩
def wm9(C:Addr)(m:Str)(sp:Sp)(dvs:List V)(E:XK)(ta:TE)(t:TA):TE:=fun σ H Q=>ta σ H fun x H1=>∃a dx fs,x= .ref a/\Rd H1 a (.ins C dx fs)/\fs.lookup m=none/\
 t σ H1 fun vs H2=>sp (x::(vs++dvs)) H2 Q E
section
variable{X:Cx}{U:tz9}{o e:Expr}{es:List Expr}{m qual:Str}{st:Stmt}{ps:List Str}{f:Addr}{fd:FuncData}{k np:Nat}{apos pos p:Pos}{pl:Sem Bool}
theorem xp7{C:Addr}{CX:CXT}{sp:Sp}{E:XK}{ds:List Value}{dvs:List V}{ta:TE}{t:TA}(he:PE X o ta)(c:Cls X.K C)(hm:Meth X.K C m f)(F:FnOk X.prog X.w X.K X.mg X.base CX k f fd ps sp)(hr:Room k X.A)(hb:lF X.K fd ps ds)(hd:bQ dvs ds)(hx:mY CX X E)(ha:PA X (e::es) t)
  (hst:starEach (e::es) X.env=(false,eval e X.env)::starEach es X.env:=by rfl) (hpl:(backTo pos (starEach es X.env)).any (·.1)=false:=by rfl)
  (ht:eval (.Call (.Attribute o m apos) (e::es) [] pos) X.env=(do
   let ov<-eval o X.env
   standAt apos.atName
   let (f,first)<-holding [ov] (getMethod ov m pl)
   callWith pos f first (backTo pos (starEach (e::es) X.env)) (backToKw pos (keywordEach [] X.env))):=by rfl):
  PE X (.Call (.Attribute o m apos) (e::es) [] pos) (wm9 C m sp dvs E ta t):=⟨by
 intro pins s σ H Q I h
 refine X5 (pl:=pl) (thn (he pins s σ H _ I h) fun u s1 ⟨x,H1,I1,rx,a,dx,fs,ex,ea,l,q⟩=> ?_) ht
 subst ex
 obtain rfl:u=Value.ref a:=rx
 refine yu8 I1 ea c hm l ?_
 refine Yp (first:=[.ref a]) (h₀:=X.base) I.ok.mod.kin hm.kp (thn (ha pos pins s1 σ H1 _ I1 q) fun us s2 ⟨vs,H2,I2,r,q2⟩=>⟨I2.kIn,?_⟩) hst hpl
 exact zJ (us:= .ref a::us) (vs:= .ref a::vs) F hr hb hd hx I2 (.cons rfl r) q2⟩
def ze6(C m:Str):D->Option D
 | .obj false C' ns vs=>if (C'=C/\cQ ns m=none) then some (.obj false C' ns vs) else none
 |_=>none
def rC(C m:Str)(fo:tz2):tz2:=fun ps=>(fo ps).bind (ze6 C m)
theorem yv9(h:ze6 C m x=some d):∃ns vs,x=d/\d= .obj false C ns vs/\cQ ns m=none:=by
 unfold ze6 at h
 split at h
 ·obtain⟨⟨hC,hn⟩,e3⟩:=bV h
  subst hC;cases e3
  exact⟨_,_,rfl,rfl,hn⟩
 ·cases h
theorem yg1{C:Str}{h:tz6}{fo:tz2}{g:tz3}(M:Mn X.K U C m qual st ps f fd)(G:FnOk X.prog X.w X.K X.mg X.base CX0 k f fd ps (SpP np X.K U h))(hr:Room k X.A)(ho:QV X U o fo)(hnp:(e::es).length+1=np)(ha:QVA X U (e::es) g)(hlen:∀ps ds,g ps=some ds->ds.length=(e::es).length)
  (hst:starEach (e::es) X.env=(false,eval e X.env)::starEach es X.env:=by rfl) (hpl:(backTo pos (starEach es X.env)).any (·.1)=false:=by rfl)
  (ht:eval (.Call (.Attribute o m apos) (e::es) [] pos) X.env=(do
   let ov<-eval o X.env
   standAt apos.atName
   let (f,first)<-holding [ov] (getMethod ov m pl)
   callWith pos f first (backTo pos (starEach (e::es) X.env)) (backToKw pos (keywordEach [] X.env))):=by rfl):
  QP X U (.Call (.Attribute o m apos) (e::es) [] pos) (aH h (aB (rC C m fo) g)):=(xp7 ho M.c M.h G hr M.b .nil zc6 ha hst hpl ht).imp fun σ H Q hh_=>by
 obtain⟨ps,d,w,e,q⟩:=hh_
 obtain⟨ds,e1,e2⟩:=bind_some e
 obtain⟨x,k1,k2⟩:=bind_some e1
 obtain⟨ds',k3,k4⟩:=bind_some k2
 cases k4
 obtain⟨y,k0,k1⟩:=bind_some k1
 obtain⟨ns,vs,rfl,rfl,k6⟩:=yv9 k1
 refine⟨ps,_,w,k0,fun v H1 fp s1 r1=> ?_⟩
 have r1':=r1
 obtain⟨_,_,_,_,rfl,hl,hn,hs,_⟩:=r1.obj_inv
 subst hn
 refine⟨_,_,_,rfl,hl,qD k6,ps,ds',w.same s1,k3,fun us H2 fq s2 r2=> ?_⟩
 show SpP np X.K U h (_::(us++[])) H2 Q E0
 rw [Zq]
 exact⟨by rw [Z6,r2.length,hlen ps ds' k3,hnp],_,_,d,.cons (r1'.same s2) r2,e2,q.after (s1.trans s2)⟩
end
def xw2:D->Option Bool
 | .dic _ ks _=>some (!ks.isEmpty)
 |_=>none
def fTK(f:tz2):tz4:=fun ps=>(f ps).bind xw2
theorem yq0{X:Cx}{U:tz9}{a:Expr}{fa:tz2}(ha:QV X U a fa)(he:∀whole,isTrue a X.env whole=(do let v<-whole;standAt a.pos;holding [v] (truthy v)):=by intro _;rfl):QT X U a (fTK fa):=⟨by
 intro pins s σ H Q I hh_
 obtain⟨ps,c,w,e,q⟩:=hh_
 obtain⟨d,e1,e2⟩:=bind_some e
 unfold xw2 at e2
 split at e2
 ·rename_i o ks ds
  cases e2
  refine isTrue_plain (thn (ha pins s σ H (fun v H1=>SameK H H1/\∃fp,Rep X.K U H1 v (.dic o ks ds) fp) I ⟨ps,_,w,e1,fun v H1 fp s1 r1=>⟨s1,fp,r1⟩⟩) fun v s1 hv=> ?_) (he _)
  obtain⟨x,H1,I1,r1,sm,fp,rp⟩:=hv
  obtain⟨l,kvs,g,rfl,hl,hk,_⟩:=rp.dic_inv
  cases r1
  refine xy2 I1 hl fun s2 I2=>⟨H1,I2,?_⟩
  rw [show kvs.isEmpty=ks.isEmpty by rw [<-hk];cases kvs<;>rfl]
  exact q H1 sm
 ·cases e2⟩
section
variable{prog:Program}{w:World}{A:Around}{E:Value->Shared->Prop}
def qI(h0 h:Heap):Prop:=∀b o,h0.get? b=some o->h.get? b=some o
theorem TI2.keep{s s':Shared}(k:qI s.heap s'.heap):∀{vs:List Value} {n:List (List Int)},TI2 s vs n->TI2 s' vs n
 |_,_,.nil=> .nil
 |_,_,.cons (a:=a) h1 h2 h3=> .cons (let ⟨o,e,r⟩:=h1;⟨o,k a o e,r⟩) h2 (TI2.keep k h3)
def zb2(s:Shared)(v:Value)(n:List (List Int)):Prop:=∃a its,v= .ref a/\IsTup s.heap a its/\TI2 s its.toList n
theorem zb2.keep{s s':Shared}{v:Value}{n:List (List Int)}(k:qI s.heap s'.heap)(h:zb2 s v n):zb2 s' v n:=by
 obtain⟨a,its,rfl,h1,h2⟩:=h
 exact⟨a,its,rfl,let ⟨o,e,r⟩:=h1;⟨o,k a o e,r⟩,h2.keep k⟩
theorem wp1{s:Shared}{v u:Value}{n m:List (List Int)}{Q:Value->Shared->Prop}(hu:A.units+9<cLine)(h1:zb2 s v n)(h2:zb2 s u m)(q:Q (.bool (zb1 n m)) s):wpAny (model prog w) A (richCompare .Lt v u) Q E s:=by
 obtain⟨a,its,rfl,a1,a2⟩:=h1
 obtain⟨b,jts,rfl,b1,b2⟩:=h2
 exact yp8 a1 b1 (xp6 (by show A.units+1+8<cLine;omega) a2 b2) (by omega) q
def ltN(N:List (List (List Int)))(i j:Nat):Bool:=zb1 (N.getD i []) (N.getD j [])
theorem wp2{R:Result->Shared->Prop}{s0:Shared}{vs:List (Key×Value)}{N:List (List (List Int))}{d it S:Addr}{ep:Nat}(hh:A.in1.handled=none)(hu:A.units+10<cLine)(hN:∀(i:Nat) (k:Key) v,vs[i]? =some (k,v)->zb2 s0 v (N.getD i []))(dd:s0.heap.DictAt (eO prog w) d vs ep)(n1:s0.heap.get? it=none)(n2:s0.heap.get? S=none)(ne:it≠S):
  ∀(m j:Nat) (s:Shared) (vb:Value) (c:Nat) (k:Key),vs.length=j+1+m->s.heap.IsValIter it d (j+1) vs.length ep->qI s0.heap s.heap->vs[argBest (ltN N) j]? =some (k,vb)->s.heap.get? S=some {cls:= .type "list",dict:=none,data:= .seq #[vb,vb] c,slots:= #[]}->
  (∀v k h' tk,vs[argBest (ltN N) (vs.length-1)]? =some (k,v)->qI s0.heap h'->R (.ok (.ret v)) {s with heap:=h',toks:=tk})->codeAny (model prog w) A (.builtin "min.loop" ⟨[.ref it,.none,.ref S],[]⟩) R s:=by
 have hname:(toString "min"++toString ".loop":String)="min.loop"/\∀b o,s0.heap.get? b=some o->b≠it/\b≠S:=⟨by decide,fun b o e=>⟨fun z=>(by rw [z,n1] at e;cases e),fun z=>(by rw [z,n2] at e;cases e)⟩⟩
 intro m
 induction m with
 |zero=>
  intro j s vb c k hj hit K hb hS hR
  refine Xe XR (?_:wpAny _ _ _ _ _ s);rw [Xm Yg _]
  show wpAny _ A.in1 (seqItems? (.ref S)>>=fun _=>_) _ _ s;refine Ze (Wc hS rfl (?_:wpAny _ _ _ _ _ s))
  show wpAny _ A.in1 (tryCatch (pyNext (.ref it)) _>>=_) _ _ s
  refine Ze (Xn (wpAny_pyNext_values_end hh hit (dd.keep K) (Yw (by omega)) fun h' eb=> ?_))
  have hS':=eb S _ (Y7 ne) hS;show wpAny _ A.in1 (updateSeq S (fun _=> #[])>>=fun _=>_) _ _ _
  refine Ze (W4 hS' rfl (Ze (XV (ZG ?_))))
  exact hR vb k _ s.toks (by rw [show vs.length-1=j by omega];exact hb) fun b o e=>(ZZ _ _ (Y7 (hname.2 b o e).2)).trans (eb b o (hname.2 b o e).1 (K b o e))
 | succ m ih=>
  intro j s vb c k hj hit K hb hS hR
  obtain⟨⟨kx,vx⟩,hx⟩:∃p,vs[j+1]? =some p:=⟨vs[j+1],by simp⟩
  refine Xe XR (?_:wpAny _ _ _ _ _ s);rw [Xm Yg _]
  show wpAny _ A.in1 (seqItems? (.ref S)>>=fun _=>_) _ _ s;refine Ze (Wc hS rfl (?_:wpAny _ _ _ _ _ s))
  show wpAny _ A.in1 (tryCatch (pyNext (.ref it)) _>>=_) _ _ s
  refine Ze (Xn (Wq hit (dd.keep K) hx fun h' hit' sb=> ?_))
  have K':qI s0.heap h':=fun b o e=>(sb.2 b (hname.2 b o e).1).trans (K b o e)
  have hS':h'.get? S=_:=(sb.2 S (Y7 ne)).trans hS;show wpAny _ A.in1 (tryCatch (holding [vx,vx] (richCompare .Lt vx vb>>=fun _=>_)) _>>=_) _ _ _
  refine Ze (Xn (Ys (Ze (wp1 (s:={s with heap:=h'}) (by show A.units+1+9<cLine;omega) ((hN _ _ _ hx).keep K') ((hN _ _ _ hb).keep K') ?_))))
  refine Ze (Ys (ZY (Ze (XV (ZG ?_)))))
  have tl:∀(h2:Heap) (vb2:Value) (k2:Key) (c2:Nat),h2.IsValIter it d (j+1+1) vs.length ep->qI s0.heap h2->vs[argBest (ltN N) (j+1)]? =some (k2,vb2)->h2.get? S=some {cls:= .type "list",dict:=none,data:= .seq #[vb2,vb2] c2,slots:= #[]}->codeAny (model prog w) A (.builtin "min.loop" ⟨[.ref it,.none,.ref S],[]⟩) R {s with heap:=h2}:=fun h2 vb2 k2 c2 a1 a2 a3 a4=>ih (j+1) {s with heap:=h2} vb2 c2 k2 (by omega) a1 a2 a3 a4 fun v k h3 tk a5 a6=>hR v k h3 tk a5 a6
  have hlt:zb1 (N.getD (j+1) []) (N.getD (argBest (ltN N) j) [])=ltN N (j+1) (argBest (ltN N) j):=rfl
  rw [hlt]
  cases hbt:ltN N (j+1) (argBest (ltN N) j) with
  | true=>
   simp only [Y9]
   refine Ze (W4 hS' rfl (Ze (XV ?_)));rw [hname.1]
   refine ZG ⟨Xu Yg _,tl _ vx kx _ ?_ ?_ ?_ (Xh _ hS' rfl)⟩
   ·obtain⟨oi,q1,q2⟩:=hit'
    exact⟨oi,(ZZ _ _ (Y7 ne)).trans q1,q2⟩
   ·exact fun b o e=>(ZZ _ _ (Y7 (hname.2 b o e).2)).trans (K' b o e)
   ·rw [argBest,hbt,if_pos rfl];exact hx
  |false=>
   simp only [Y6,YK]
   refine Ze (XV ?_);rw [hname.1]
   exact ZG ⟨Xu Yg _,tl _ vb k c hit' K' (by rw [argBest,hbt,if_neg Zb];exact hb) hS'⟩
theorem zz7{Q:Value->Shared->Prop}{s0 s:Shared}{vs:List (Key×Value)}{N:List (List (List Int))}{d vw:Addr}{ep:Nat}(hh:A.handled=none)(hu:A.units+11<cLine)(hN:∀(i:Nat) (k:Key) v,vs[i]? =some (k,v)->zb2 s0 v (N.getD i []))(dd:s0.heap.DictAt (eO prog w) d vs ep)(K:qI s0.heap s.heap)(hv:s.heap.IsValuesView vw d)(h0:0<vs.length)
  (hQ:∀v k h' tk,vs[argBest (ltN N) (vs.length-1)]? =some (k,v)->qI s0.heap h'->Q v {s with heap:=h',toks:=tk}):wpAny (model prog w) A (call (.builtin "min") [.ref vw]) Q E s:=by
 have hname:(toString "min"++toString ".loop":String)="min.loop"/\True:=⟨by decide,trivial⟩
 refine call_function_tree F.kind_min F.plain_min F.entry_min (F.args_min1 (.ref vw)) (?_:wpAny _ _ _ _ _ s)
 show wpAny _ A.in1 (Builtin.Builtins.bindParams "min" ["key","default"] 0 ⟨[],[]⟩>>=fun _=>_) _ _ s
 refine Ze (wpAny_of_eq (a:=[none,none]) rfl (Ze (ZG (Ze (wpAny_pyIter_values hv (dd.keep K) (Ze (wpAny_newObj_type ?_)))))))
 rw [hname.1]
 refine ZG ⟨Xu Yg _,?_⟩
 have e0:∀b o,s0.heap.get? b=some o->b<s.heap.objs.size:=fun b o e=>Zi (K b o e)
 have nn:∀b,s.heap.objs.size<=b->s0.heap.get? b=none:=fun b hb=>by
  cases z:s0.heap.get? b with
  |none=>rfl
  |some o=>exact absurd (e0 b o z) (Nat.not_lt.mpr hb)
 have szp:∀o:Obj,(s.heap.push o).objs.size=s.heap.objs.size+1:=fun o=>Wb ..
 obtain⟨⟨k0,v0⟩,hx⟩:∃p,vs[0]? =some p:=⟨vs[0],by simp⟩
 generalize hio:({cls:= .type "dict_valueiterator",data:= .fields #[.ref d,.int 0 0,.int vs.length 0,.int ep 0]}:Obj)=io
 have K1:qI s0.heap ((s.heap.push io).push {cls:= .type "list",data:= .seq #[]}):=fun b o e=>Zf _ (Zf _ (K b o e))
 have hS:((s.heap.push io).push {cls:= .type "list",data:= .seq #[]}).get? (s.heap.push io).objs.size=some {cls:= .type "list",data:= .seq #[]}:=Zw _ rfl
 have hI:((s.heap.push io).push {cls:= .type "list",data:= .seq #[]}).IsValIter s.heap.objs.size d 0 vs.length ep:=⟨io,Zf _ (Zw _ (by rw [<-hio];rfl)),by rw [<-hio],by rw [<-hio];rfl⟩
 have ne:s.heap.objs.size≠(s.heap.push io).objs.size:=by rw [szp];omega
 have n2:s0.heap.get? (s.heap.push io).objs.size=none:=nn _ (by rw [szp];omega)
 generalize (s.heap.push io).objs.size=S at hS ne n2|-
 generalize (s.heap.push io).push {cls:= .type "list",data:= .seq #[]}=hp at K1 hS hI|-
 refine Xe XR (?_:wpAny _ _ _ _ _ {s with heap:=hp});rw [Xm Yg _]
 show wpAny _ A.in1 (seqItems? (.ref S)>>=fun _=>_) _ _ _;refine Ze (Wc hS rfl (?_:wpAny _ _ _ _ _ {s with heap:=hp}))
 show wpAny _ A.in1 (tryCatch (pyNext (.ref s.heap.objs.size)) _>>=fun _=>_) _ _ _
 refine Ze (Xn (Wq (s:={s with heap:=hp}) hI (dd.keep K1) hx fun h' hit' sb=> ?_))
 have K':qI s0.heap h':=fun b o e=>(sb.2 b (fun z=>by rw [z,nn _ (Zc _)] at e;cases e)).trans (K1 b o e)
 have hS':h'.get? S=_:=(sb.2 S (Y7 ne)).trans hS;show wpAny _ A.in1 (updateSeq S (fun _=> #[v0,v0])>>=fun _=>_) _ _ _
 refine Ze (W4 hS' rfl ?_);rw [hname.1]
 refine ZG ⟨Xu Yg _,wp2 (s0:=s0) (A:=A) (N:=N) (vs:=vs) hh (by omega) hN dd (nn _ (Zc _)) n2 ne (vs.length-1) 0 _ v0 _ k0 (by omega) ?_ ?_ hx (Xh _ hS' rfl) fun v k h2 tk a1 a2=> ?_⟩
 ·obtain⟨oi,q1,q2⟩:=hit'
  exact⟨oi,(ZZ _ _ (Y7 ne)).trans q1,q2⟩
 ·exact fun b o e=>(ZZ _ _ (fun z=>by rw [<-z,n2] at e;cases e)).trans (K' b o e)
 ·exact hQ v k h2 tk a1 a2
end
def D.intsss:List D->Option (List (List (List Int)))
 |[]=>some []
 | .tup xs::ds=>(D.intss xs).bind fun n=>(D.intsss ds).map (n::·)
 |_=>none
theorem zx1:∀{ds:List D} {N:List (List (List Int))},D.intsss ds=some N->ds.length=N.length/\∀(i:Nat) d,ds[i]? =some d->∃xs,d= .tup xs/\D.intss xs=some (N.getD i [])
 |[],_,e=>by cases e;exact⟨rfl,fun i d h=>by simp at h⟩
 | .tup xs::ds,N,e=>by
  obtain⟨n,e1,e2⟩:=bind_some (show(D.intss xs).bind _=some N from e)
  obtain⟨M,e3,rfl⟩:=Zp.mp e2
  obtain⟨h1,h2⟩:=zx1 e3
  refine⟨by simp [h1],fun i d h=> ?_⟩
  cases i with
  |zero=>simp at h;exact⟨xs,h.symm,e1⟩
  |succ i=>simpa using h2 i d (by simpa using h)
 | .non::_,_,e=>by cases e
 | .bl _::_,_,e=>by cases e
 | .int _::_,_,e=>by cases e
 | .str _::_,_,e=>by cases e
 | .lst _ _::_,_,e=>by cases e
 | .con _::_,_,e=>by cases e
 | .ty _::_,_,e=>by cases e
 | .dic _ _ _::_,_,e=>by cases e
 | .obj _ _ _ _::_,_,e=>by cases e
def xw3:D->Option D
 | .dic _ _ ds=>(D.intsss ds).bind fun N=>ds[argBest (ltN N) (N.length-1)]?
 |_=>none
def yc1(f:tz2):tz2:=fun ps=>(f ps).bind xw3
section
variable{X:Cx}{U:tz9}{a:Expr}{fa:tz2}{p1 p2 ap pos:Pos}
theorem wa9(hc:X.calm=true)(hu:X.A.units+64<cLine)(ha:QV X U a fa)(hg:Gl X "min")(hm:X.mg "min"=none)(hb:attributeBase a "values" X.env (eval a X.env)=eval a X.env:=by rfl)(hln:(ap.endLine==p2.line)=true:=by rfl)
  (hs1:starEach [.Call (.Attribute a "values" ap) [] [] p2] X.env=(false,eval (.Call (.Attribute a "values" ap) [] [] p2) X.env)::starEach [] X.env:=by rfl):
  QV X U (.Call (.Name "min" p1) [.Call (.Attribute a "values" ap) [] [] p2] [] pos) (yc1 fa):=⟨by
 intro pins s σ H Q I hh_
 obtain⟨ps,d,w,e,q⟩:=hh_
 obtain⟨d1,e1,e2⟩:=bind_some e
 unfold xw3 at e2
 split at e2
 ·rename_i b ks ds
  obtain⟨N,eN,e3⟩:=bind_some e2
  obtain⟨hNl,hNa⟩:=zx1 eN
  refine Y4 (tR I hg hm (u:= .builtin "min") boot_min ?_)
  refine Xp ?_ hs1 rfl
  rw [hs1]
  refine YU ?_
  refine wpAny_Call_method hb rfl hln PySem.F.plainAttrs_dict XS PySem.F.type_dict_values (thn (ha pins s σ H (fun v H1=>SameK H H1/\∃fp,Rep X.K U H1 v (.dic b ks ds) fp) I ⟨ps,_,w,e1,fun v H1 fp s1 r1=>⟨s1,fp,r1⟩⟩) fun u s1 hx=> ?_)
  obtain⟨v,H1,I1,r1,sm,fp,rp⟩:=hx
  obtain⟨l,kvs,g,rfl,hl,hk,hrs,_⟩:=rp.dic_inv
  cases r1
  obtain⟨t1,t2,t3⟩:=wg3 I1 (.inl ⟨kvs,hl⟩)
  refine⟨t1,t2,?_⟩
  obtain⟨z,sm',vs,hv,hd⟩:=uV I1.hok hl
  obtain⟨ep,dd⟩:=hd.dictAt
  refine Xa rfl (PyProof.Rows.evalArgs_nil3 (?_:wpAny _ _ _ _ _ s1))
  refine call_meetsIn XS t1 PySem.F.entry_dict_values (PySem.F.args_dict_values_1 (.ref l)) (meets_dict_values (eO X.prog X.w) l t3) ⟨⟨vs,hd⟩,X2 ?_⟩
  have lv:=ZJ hv
  have ld:kvs.length=ds.length:=by have:=hrs.length;simpa using this
  have h0:argBest (ltN N) (N.length-1)<ds.length:=(Z4.mp e3).1
  have hN:∀(i:Nat) (k:Key) v,vs[i]? =some (k,v)->zb2 s1 v (N.getD i []):=fun i k v hi=>by
   obtain⟨⟨k',vv⟩,hx2,hk',rv⟩:=lK hv hi
   have hlt:i<ds.length:=by have:=(Z4.mp hx2).1;omega
   obtain⟨xs,hxs,en⟩:=hNa i ds[i] (by simp [hlt])
   obtain⟨v2,f2,g1,g2,_⟩:=hrs.get (i:=i) (d:=ds[i]) (by simp [hlt])
   rw [Zd,hx2] at g1
   cases g1
   rw [hxs] at g2
   obtain⟨a2,ws,rfl,hw,sw⟩:=g2.tup_inv
   cases rv
   obtain⟨its,rvs,p,_⟩:=I1.tuple hw
   exact⟨a2,_,rfl,p,by simpa using zl4 I1 sw rvs en⟩
  refine zz7 (s0:=s1) (N:=N) (vs:=vs) (d:=l) (I.ok.hd hc) (by show X.A.units+11<cLine;omega) hN dd (fun b o e=>Zf _ e) ⟨_,Zw _ rfl,rfl,rfl⟩ (by omega) fun v k h' tk hv' K=> ?_
  rw [<-lv,ld,hNl] at hv'
  obtain⟨⟨k',vv⟩,hx2,hk',rv⟩:=lK hv hv'
  obtain⟨v2,f2,g1,g2,_⟩:=hrs.get e3
  rw [Zd,hx2] at g1
  cases g1
  exact⟨vv,H1,I1.kept (t':=tk) (h':=h') K,rv,q vv H1 f2 sm g2⟩
 ·cases e2⟩
end
def yk0(g:List D->Bool)(ga:tz3):tz5:=fun ps=>match ga ps with
 |some ds=>g ds
 |none=>false
section
variable{P:Program}{w:World}{K:tz0}{mg:tzA}{base:Heap}{N:List Str}{qual:Str}{scope:Scope}{f C:Addr}{cd:Value}{A:Around}{outer:List Env}{s:Shared}{H:Hp}{E:XK}{U:tz9}{φ:F0}
theorem wi0{x:Str}{st:Stmt}{ps:List Str}{fa:Addr}{fd:FuncData}{k np:Nat}{g:List D->Bool}{e:Expr}{es:List Expr}{ga:tz3}{p pos:Pos}(Dd:Dn K mg x st ps fa fd)(G:FnOk P w K mg base (CXn P w base C) k fa fd ps (za9 np K U C g))(hr:Room k (A.deeper (envOfC qual scope s.heap.objs.size f cd)))(hg:Gl (iU (CXn P w base C) P w K mg base N qual scope f cd A outer s H E) x)
  (hnp:(e::es).length=np) (ha:QVA (iU (CXn P w base C) P w K mg base N qual scope f cd A outer s H E).nox U (e::es) ga) (hlen:∀ps ds,ga ps=some ds->ds.length=(e::es).length)
  (hdb:(x==("__debug__":Str))=false:=by decide) (he:starEach (e::es) (envOfC qual scope s.heap.objs.size f cd)=(false,eval e (envOfC qual scope s.heap.objs.size f cd))::starEach es (envOfC qual scope s.heap.objs.size f cd):=by rfl) (hpl:(backTo pos (starEach es (envOfC qual scope s.heap.objs.size f cd))).any (·.1)=false:=by rfl):
  QXe (iU (CXn P w base C) P w K mg base N qual scope f cd A outer s H E) U φ (E (.ref C) none) (.Call (.Name x p) (e::es) [] pos) (yk0 g ga):=
 (yo2 (X:=iU (CXn P w base C) P w K mg base N qual scope f cd A outer s H E) G hr hg Dd.m Dd.F.kp Dd.b .nil wo8 (PA.nox ha) hdb he hpl).imp fun σ H0 Q hh_=>by
  obtain⟨ps,F,R,e,q⟩:=hh_
  unfold yk0 at e
  split at e
  ·rename_i ds e1
   refine⟨ps,ds,R.ws,e1,fun vs H1 fp s1 r1=> ?_⟩
   show za9 np K U C g (vs++[]) H1 Q E
   rw [Zq]
   exact⟨by rw [r1.length,hlen ps ds e1,hnp],ds,fp,r1,e,fun H' s2=>q H' ⟨fun a o h kk _=>(s1.trans s2).keep a o h kk,(s1.trans s2).grow⟩⟩
  ·cases e
end
section
variable{Y:Cx}{C ea:Addr}{oe:Obj}{j:Nat}
theorem xg2{f1 f2 f3:Expr}{a1 a2 a3:List Expr}{thn_:List Stmt}{cp1 cp2 cp3 n1 n2 n3 op ip rp:Pos}
  (h1:PE Y (.Call f1 a1 [] cp1) (yj8 j ea true)) (h2:PE Y (.Call f2 a2 [] cp2) (yj8 j ea true)) (h3:PE Y (.Call f3 a3 [] cp3) (yj8 j ea false)):
  PSs Y [.If (.BoolOp .Or [.UnaryOp .Not (.Call f1 a1 [] cp1) n1,.UnaryOp .Not (.Call f2 a2 [] cp2) n2] op) thn_ [] ip,.Return (some (.UnaryOp .Not (.Call f3 a3 [] cp3) n3)) rp] (wm8 j ea):=
 (kD (ya4 (PW.pt (xu9 (yc9 (xa3 h1)) (xa4 (yc9 (xa3 h2))))) zP zq2) (wE (wH (xa5 h3)))).imp fun D σ H h=>by
  obtain⟨hσ,q⟩:=h
  exact⟨hσ,fun H1 s1=>⟨true,rfl,hσ,fun H2 s2=>⟨true,rfl,hσ,fun H3 s3=>⟨false,rfl,q H3 ((s1.trans s2).trans s3)⟩⟩⟩⟩
end
end L2
namespace L3
open PySem PySem.Spec PyProof.Rows L2
def top(i:Nat):Stmt:=PySem.Challenge.pw_linepress_k21_pressed_is_a_road.main.body.getD i (.Pass ⟨0,0,0,0⟩)
end L3
namespace My
open PySem PySem.Spec PyProof.Rows L2 L3
variable{P:Program}{w:World}{K:tz0}{mg:tzA}{base:Heap}{U:tz9}
theorem cG{N ps:List Str}{sc:Scope}(a:sc.kind= .function:=by rfl)(b:sc.isCoroutine=false:=by rfl)(c:sc.isGenerator=false:=by rfl)(d:N.Nodup:=by decide+kernel)(e:N.take ps.length=ps:=by rfl)(f:∀x∈ps,sc.names.lookup x=some .local\/sc.names.lookup x=some .cell:=by decide+kernel)(g:∀y∈sc.names,y.2≠ .free:=by decide+kernel):FnScope N ps sc:=⟨a,b,c,d,e,f,g⟩
inductive Leaf where
 |word (x:Str)|gap (x:Str)|stop (c:Int)|fin
inductive Tk where
 |leaf (l:Leaf)|opn|cls|hng (n:Int)|bck|eit|orr|don
inductive Pc where
 |leaf (l:Leaf)|group (r:List Pc)|hang (n:Int) (r:List Pc)|either (rs:List (List Pc))
mutual
def cR:Pc->List Tk
 | .leaf l=>[.leaf l]
 | .group r=> .opn::(toksR r++[.cls])
 | .hang n r=> .hng n::(toksR r++[.bck])
 | .either rs=> .eit::(toksRows rs++[.don])
def toksR:List Pc->List Tk
 |[]=>[]
 |p::r=>cR p++toksR r
def toksRows:List (List Pc)->List Tk
 |[]=>[]
 |r::rs=>toksR r++toksMore rs
def toksMore:List (List Pc)->List Tk
 |[]=>[]
 |r::rs=> .orr::(toksR r++toksMore rs)
end
theorem uD:∀r s:List Pc,toksR (r++s)=toksR r++toksR s
 |[],s=>rfl
 |p::r,s=>by
  show cR p++toksR (r++s)=(cR p++toksR r)++toksR s
  rw [uD r s,Zt]
theorem xg3(p:Pc):toksR [p]=cR p:=by
 show cR p++[]=cR p
 rw [Zq]
mutual
def eD:Pc->Nat
 | .leaf _=>0
 | .group r=>depR r+1
 | .hang _ r=>depR r+1
 | .either rs=>depRs rs+1
def depR:List Pc->Nat
 |[]=>0
 |p::r=>max (eD p) (depR r)
def depRs:List (List Pc)->Nat
 |[]=>0
 |r::rs=>max (depR r) (depRs rs)
end
theorem zR:∀(r:List Pc) (p:Pc),depR (r++[p])=max (depR r) (eD p)
 |[],p=>by
  exact Nat.max_comm (eD p) 0
 |q::r,p=>by
  show max (eD q) (depR (r++[p]))=max (max (eD q) (depR r)) (eD p)
  rw [zR r p,Nat.max_assoc]
theorem xL:∀(rs:List (List Pc)) (r:List Pc),depRs (rs++[r])=max (depRs rs) (depR r)
 |[],r=>by
  exact Nat.max_comm (depR r) 0
 |q::rs,r=>by
  show max (depR q) (depRs (rs++[r]))=max (max (depR q) (depRs rs)) (depR r)
  rw [xL rs r,Nat.max_assoc]
def ze7(c:Nat):Bool:=decide (33<=c)&&decide (c<=126)
def yk1(z:Str):Prop:=1<=z.length/\z.length<=12/\z.cps.toList.all ze7=true
def hJ:Leaf->Prop
 | .word x=>yk1 x
 | .gap x=>x=""\/x=" "
 | .stop c=>0<=c/\c<=40
 | .fin=>True
end My
namespace My
open PySem PySem.Spec PyProof.Rows L2 L3
variable{P:Program}{w:World}{K:tz0}{mg:tzA}{base:Heap}{U:tz9}
def rD(ns:List Int)(k:Int):Int:=ns.getD (k % (ns.length:Int)).toNat 0
def zo6(ns:List Int)(k:Int):Int:=k/(if (ns.length:Int)>1 then(ns.length:Int) else 1)
def wn0(ns:List Int)(k salt:Int):Int:=PySem.Builtin.bitAnd (rD ns k) 2147483647+1009*k*k+7919*salt*salt+12
def ze8(ns:List Int)(k salt:Int):Int:=wn0 ns k salt*48271 % 2147483647
def xw4(ns:List Int)(k salt:Int):Int:=ze8 ns k salt*ze8 ns k salt % 2147483629
def yJ(ns:List Int)(k salt:Int):Int:=PySem.Builtin.bitAnd (rD ns k/2^(31*(salt+128*zo6 ns k)).toNat+xw4 ns k salt) 2147483647
theorem ym6(ns:List Int)(k salt:Int):0<=yJ ns k salt/\yJ ns k salt<2147483648:=by
 have e:yJ ns k salt=(rD ns k/2^(31*(salt+128*zo6 ns k)).toNat+xw4 ns k salt) % 2147483648:=PySem.W.kbt_mask _ 31
 rw [e]
 exact⟨ZE _ (by decide),Zz _ (by decide)⟩
def yk2(K:tz0):Sp:=fun vs H Q _=>∃(a:Addr) (ns:List Int) (k:Int),vs=[.ref a,.int k]/\SqL K H a (ns.map V.int)/\Q (.int (rD ns k)) H
def ys5(K:tz0):Sp:=fun vs H Q _=>∃(a:Addr) (ns:List Int) (k salt:Int),vs=[.ref a,.int k,.int salt]/\SqL K H a (ns.map V.int)/\ns.length<=63/\(0<=k/\k<1000000)/\(0<=salt/\salt<1000000)/\Q (.int (yJ ns k salt)) H
abbrev lV:Stmt:=top 38
abbrev uM:List Str:=["_law_script","_law_k"]
theorem zS:FnScope ["_law_script","_law_k"] uM (aT lV):=cG
theorem yg2{n:Nat}{f:Addr}{fd:FuncData}(D:Dn K mg "_law_cell_at" lV ["_law_script","_law_k"] f fd)(ac:mg "len"=none):
  FnOk P w K mg base CX0 (n+1) f fd ["_law_script","_law_k"] (yk2 K):=by
 refine D.F.ok zS (fun vs H Q E h=> ?_) (fun cdv A outer s H vs Q E hr h=> ?_)
 ·obtain⟨a,ns,k,rfl,_⟩:=h
  rfl
 obtain⟨a,ns,k,rfl,hS,q⟩:=h
 refine⟨_,(kD (ya4 (yn9 yt1 (nN jT rfl ac ZU (eL (pv 0) kO)) iR (bR _)) (wE (wH iR)) zq2)
  (wE (wH (ya7 zq6 (pv 0) (gL zj3 (pv 1) (nN jT rfl ac ZU (eL (pv 0) kO))) (fun _ _=>rfl))))),?_⟩
 have hl:(ns.map V.int).length=ns.length:=Z8 _
 refine⟨_,rfl,a,_,rfl,.inl hS,rfl,_,rfl,?_⟩
 refine ws2 (fun c=> ?_) (fun c=> ?_)
 ·have e:(((ns.map V.int).length:Nat):Int)=0:=by simpa using c
  have e':ns=[]:=by
   rw [hl] at e
   exact Xv (by omega)
  subst e'
  exact q
 ·have e:¬(((ns.map V.int).length:Nat):Int)=0:=by simpa using c
  rw [hl] at e
  have hp:(0:Int)<((ns.map V.int).length:Nat):=by rw [hl];omega
  refine⟨_,rfl,_,rfl,_,rfl,a,_,rfl,.inl hS,_,_,rfl,rfl,hp,a,_,_,_,rfl,rfl,hS,?_,q⟩
  rw [hl]
  have h0:=ZE k e
  have h1:=Zz k (show(0:Int)<ns.length by omega)
  have ek:k % (ns.length:Int)=(((k % (ns.length:Int)).toNat:Nat):Int):=by omega
  rw [ek]
  refine zq5 ?_
  rw [Zd,Zn (by omega)]
  unfold rD
  rw [YM,Zn (by omega)]
  rfl
abbrev kK:Stmt:=top 39
abbrev iM:List Str:=["_law_script","_law_k","_law_salt"]
theorem kH:FnScope ["_law_script","_law_k","_law_salt","_law_cell","_law_lap","_law_near"] iM (aT kK):=cG
theorem yw0{n:Nat}{f f1:Addr}{fd fd1:FuncData}(D:Dn K mg "_law_mixed" kK ["_law_script","_law_k","_law_salt"] f fd)(ez:Dn K mg "_law_cell_at" lV ["_law_script","_law_k"] f1 fd1)
  (je:FnOk P w K mg base CX0 n f1 fd1 ["_law_script","_law_k"] (yk2 K)) (ac:mg "len"=none) (j8:mg "max"=none):
  FnOk P w K mg base CX0 (n+1) f fd ["_law_script","_law_k","_law_salt"] (ys5 K):=by
 refine D.F.ok kH (fun vs H Q E h=> ?_) (fun cdv A outer s H vs Q E hr h=> ?_)
 ·obtain⟨a,ns,k,salt,rfl,_⟩:=h
  rfl
 obtain⟨a,ns,k,salt,rfl,hS,h63,⟨hk0,hk1⟩,⟨hs0,hs1⟩,q⟩:=h
 refine⟨_,(kD (tT (i:=3) kH.nd rfl (.inl rfl) (yu1 ez je hr rfl (eL (pv 0) (eL (pv 1) kO))))
  (kD (tT (i:=4) kH.nd rfl (.inl rfl) (gL yn4 (pv 1) (nN (zu2 rfl) rfl j8 boot_max (eL iR (eL (nN jT rfl ac ZU (eL (pv 0) kO)) kO)))))
  (kD (tT (i:=5) kH.nd rfl (.inl rfl) (gL wI (gL wI (gL wI (gL xb1 (pv 3) iR) (gL nZ (gL nZ iR (pv 1)) (pv 1))) (gL nZ (gL nZ iR (pv 2)) (pv 2))) iR))
  (kD (tT (i:=5) kH.nd rfl (.inl rfl) (gL zj3 (gL nZ (pv 5) iR) iR))
  (kD (tT (i:=5) kH.nd rfl (.inl rfl) (gL zj3 (gL nZ (pv 5) (pv 5)) iR))
  (wE (wH (gL xb1 (gL wI (gL wf0 (pv 3) (gL nZ iR (gL wI (pv 2) (gL nZ iR (pv 4))))) (pv 5)) iR)))))))),?_⟩
 have hl:(ns.map V.int).length=ns.length:=Z8 _
 have hlap:0<=zo6 ns k:=by unfold zo6;exact Int.ediv_nonneg hk0 (by split<;>omega)
 have hn1:0<=ze8 ns k salt/\ze8 ns k salt<2147483647:=⟨ZE _ (by decide),Zz _ (by decide)⟩
 refine⟨_,rfl,_,rfl,a,ns,k,rfl,hS,?_⟩
 refine⟨_,rfl,_,rfl,a,_,rfl,.inl hS,_,_,rfl,_,_,rfl,rfl,?_,?_⟩
 ·rw [hl];constructor
  ·split<;>omega
  ·split<;>omega
 rw [hl]
 refine⟨_,rfl,_,_,rfl,rfl,_,rfl,_,_,rfl,rfl,.inl ⟨by decide,by decide⟩,_,rfl,_,_,rfl,rfl,.inr ⟨by omega,by omega⟩,_,_,rfl,rfl,_,rfl,_,_,rfl,rfl,.inl ⟨by decide,by decide⟩,_,rfl,_,_,rfl,rfl,.inr ⟨by omega,by omega⟩,_,_,rfl,rfl,_,_,rfl,rfl,?_⟩
 refine⟨_,rfl,_,_,rfl,rfl,.inr ⟨by decide,by decide⟩,_,_,rfl,rfl,(by show(0:Int)<2147483647;decide),?_⟩
 refine⟨_,rfl,_,rfl,_,_,rfl,rfl,.inl ⟨by show-(2^64)<ze8 ns k salt;omega,by show ze8 ns k salt<2^64;omega⟩,_,_,rfl,rfl,(by show(0:Int)<2147483629;decide),?_⟩
 refine⟨_,rfl,_,rfl,_,rfl,_,_,rfl,rfl,.inl ⟨by decide,by decide⟩,_,_,rfl,rfl,_,_,rfl,rfl,.inl ⟨by decide,by decide⟩,_,_,rfl,rfl,?_,_,rfl,_,_,rfl,rfl,_,_,rfl,rfl,q⟩
 show 0<=31*(salt+128*zo6 ns k)
 omega
end My
namespace L3
open PySem PySem.Spec PyProof.Rows L2 My
variable{P:Program}{w:World}{K:tz0}{mg:tzA}{base:Heap}{U:tz9}
def uN(cz:(tz7)):tz1:=
 (bS (aI (mW (fD "Place" (cC [.im (fC (.bl true)),.im (fC (.int 0))]) cz))))
abbrev iW:Stmt:=top 8
abbrev fN:List Str:=[]
theorem uE:FnScope [] fN (aT iW):=cG
theorem zh2(ba:Dn K mg "first_place" iW fN f fd)
  (g7:Kn K mg U "Place" "Place.__init__" st_Place_init ps_Place_init j9 jh) (dt:FnOk P w K mg base CX0 n j9 jh ps_Place_init (SpE 3 K U (bC [true,false,false]) cz)):
  FnOk P w K mg base CX0 ((n+1)+1) f fd fN (SpP 0 K U (gP 0 0 (uN cz))):=
 cO ba.F uE fun cdv A outer s H E B hr=>
 (aL (bL (QP.e (zl1 (mK g7 dt hr rfl (bE (QP.v jA) (bE (QP.v aG) cS)) rfl rfl (dH 2))))))
def vH:tz1:=
 (bS (aI (f2 dIn (f2 dIx (aA 0) (fC (.int 0))) (fC (.tup [(.str "group"),(.str "hang"),(.str "either")])))))
abbrev jH:Stmt:=top 9
abbrev fW:List Str:=["piece"]
theorem uZ:FnScope ["piece"] fW (aT jH):=cG
theorem zl5(bi:Dn K mg "holds_rows" jH fW f fd)
  (o4:mg "HOLDERS"=some (.ref lu)) (o5:∀H,Rep K U H (.ref lu) (.tup [(.str "group"),(.str "hang"),(.str "either")]) []):
  FnOk P w K mg base CX0 (n+1) f fd fW (SpP 1 K U (gP 1 0 (vH))):=
 cO bi.F uZ fun cdv A outer s H E B hr=>
 (aL (bL (QP.e (qQ ws3 (aZ (aC 0) (QP.v aG)) (QP.v (xy8 (v:= .ref lu) (d:=(.tup [(.str "group"),(.str "hang"),(.str "either")])) rfl o4 rfl o5)) (by with_unfolding_all rfl)))))
def sC:tz1:=
 (bS (aI (fOr (f2 dEq (f2 dIx (aA 0) (fC (.int 0))) (fC (.str "either"))) (oN (f2 dEq (f2 dIx (aA 0) (fC (.int 0))) (fC (.str "group"))) (aY (cL "Place" "broken" (aA 1)))))))
abbrev iJ:Stmt:=top 10
abbrev fG:List Str:=["piece","place"]
theorem sB:FnScope ["piece","place"] fG (aT iJ):=cG
theorem zf3(ax:Dn K mg "takes_choice" iJ fG f fd)
  (a9:Cls K (U "Place"))
  (bq:cF K (U "Place") "broken"):
  FnOk P w K mg base CX0 (n+1) f fd fG (SpP 2 K U (gP 2 0 (sC))):=
 cO ax.F sB fun cdv A outer s H E B hr=>
 (aL (bL (QP.e (wo3 (qQ (gS (Room.units hr)) (aZ (aC 0) (QP.v aG)) (QP.v cD) (bR _)) (zk2 (zk3 (qQ (gS (Room.units hr)) (aZ (aC 0) (QP.v aG)) (QP.v cD) (bR _)) (zk2 (QV.p (cU (C:="Place") a9 bq (aC 1))))))))))
def lW(cz:(tz7)):tz1:=
 (aV (aW 2 (aI (aY (f2 dIx (aA 0) (fC (.int 0))))))
 (aV (fIf (aU (fB (f2 dEq (aA 2) (fC (.str "hang")))))
  (bS (aI (cV (aB (cK (aB (aY (f2 dIx (aA 0) (fC (.int 2)))) (aB (mW (fD "Place" (cC [.im (cL "Place" "broken" (aA 1)),.im (f2 cJ (cL "Place" "margin" (aA 1)) (f2 dIx (aA 0) (fC (.int 1))))]) cz)) aE))) aE))))
  bN)
 (aV (fIf (aU (fB (f2 dEq (aA 2) (fC (.str "either")))))
  (bS (aI (iD [none,some 1] (cP (f2 dIx (aA 0) (fC (.int 1)))) iG (cK (aB (aY (aA 0)) (aB (aY (aA 1)) aE))))))
  bN)
 (aV (aW 3 (aI (cK (aB (aY (f2 dIx (aA 0) (fC (.int 1)))) (aB (mW (fD "Place" (cC [.im (fC (.bl false)),.im (cL "Place" "margin" (aA 1))]) cz)) aE)))))
 (aV (fIf (aU (fT (cL "Place" "broken" (aA 1))))
  (bS (aI (cV (aB (aY (aA 3)) (aB (cK (aB (aY (f2 dIx (aA 0) (fC (.int 1)))) (aB (aY (aA 1)) aE))) aE)))))
  bN)
 (bS (aI (cV (aB (aY (aA 3)) aE)))))))))
abbrev nX:Stmt:=top 11
abbrev lX:List Str:=["piece","place"]
theorem vA:FnScope ["piece","place","kind","on_one_line"] lX (aT nX):=cG
theorem xg4(gk:Dn K mg "ways" nX lX f fd)
  (g7:Kn K mg U "Place" "Place.__init__" st_Place_init ps_Place_init j9 jh) (dt:FnOk P w K mg base CX0 n j9 jh ps_Place_init (SpE 3 K U (bC [true,false,false]) cz))
  (a9:Cls K (U "Place"))
  (bq:cF K (U "Place") "broken")
  (dj:cF K (U "Place") "margin"):
  FnOk P w K mg base CX0 ((n+1)+1) f fd lX (SpP 2 K U (gP 2 2 (lW cz))):=
 cO gk.F vA fun cdv A outer s H E B hr=>
 (aJ (bB 2 vA.nd rfl (by first|exact Or.inl rfl|exact Or.inr rfl) rfl rfl (QP.e (QV.p (aZ (aC 0) (QP.v aG)))))
 (aJ (cB (QT.e (cE (gS (Room.units hr)) (aC 2) (QP.v cD) (bR _)))
  (aL (bL (QP.e (dZ (aP (dJ (aP (QV.p (aZ (aC 0) (QP.v aG))) (aP (zl1 (mK g7 dt hr rfl (bE (cU (C:="Place") a9 bq (aC 1)) (bE (QP.v (bG eW (cU (C:="Place") a9 dj (aC 1)) (aZ (aC 0) (QP.v aG)))) cS)) rfl rfl (dH 2))) bA))) bA)))))
  bU)
 (aJ (cB (QT.e (cE (gS (Room.units hr)) (aC 2) (QP.v cD) (bR _)))
  (aL (bL (QP.e (tG (sc:=aT nX) (NX:=["piece","place","kind","on_one_line"]) (N:=["row","place"]) (pick:=[none,some 1]) ⟨rfl,by decide+kernel,by decide+kernel,by decide+kernel,by decide+kernel,by decide,rfl⟩ rfl rfl rfl (wL (aZ (aC 0) (QP.v aG))) (fun _ _ _ _=>(iA (i:=0) (show(["row","place"]:List Str).Nodup by decide) rfl (by first|exact Or.inl rfl|exact Or.inr rfl))) (fun _ _ _ _=>tF) (fun _ _ _ _=>(dJ (aP (QV.p (aC 0)) (aP (QV.p (aC 1)) bA))))))))
  bU)
 (aJ (bB 3 vA.nd rfl (by first|exact Or.inl rfl|exact Or.inr rfl) rfl rfl (QP.e (dJ (aP (QV.p (aZ (aC 0) (QP.v aG))) (aP (zl1 (mK g7 dt hr rfl (bE (QP.v jA) (bE (cU (C:="Place") a9 dj (aC 1)) cS)) rfl rfl (dH 2))) bA)))))
 (aJ (cB (QT.e (eQ (cU (C:="Place") a9 bq (aC 1))))
  (aL (bL (QP.e (dZ (aP (QV.p (aC 3)) (aP (dJ (aP (QV.p (aZ (aC 0) (QP.v aG))) (aP (QV.p (aC 1)) bA))) bA))))))
  bU)
 (aL (bL (QP.e (dZ (aP (QV.p (aC 3)) bA))))))))))
def zC:tz1:=
 (bS (aI (f2 cJ (fC (.str "\n")) (f2 iL (fC (.str " ")) (aA 0)))))
abbrev nI:Stmt:=top 12
abbrev kP:List Str:=["blanks"]
theorem yX:FnScope ["blanks"] kP (aT nI):=cG
theorem zz8(du:Dn K mg "new_line" nI kP f fd)
     :
  FnOk P w K mg base CX0 (n+1) f fd kP (SpP 1 K U (gP 1 0 (zC))):=
 cO du.F yX fun cdv A outer s H E B hr=>
 (aL (bL (QP.e (bG eW (QP.v cD) (QP.v (bG uX (QP.v cD) (aC 0)))))))
def oV(ka:(tz6)):tz1:=
 (aV (aW 3 (aI (aY (f2 dIx (aA 0) (fC (.int 0))))))
 (aV (fIf (aU (fB (f2 dEq (aA 3) (fC (.str "word")))))
  (bS (aI (aY (f2 dIx (aA 0) (fC (.int 1))))))
  bN)
 (aV (fIf (aU (eK (fB (f2 dEq (aA 3) (fC (.str "gap")))) (fA (fT (cL "Place" "broken" (aA 1))))))
  (bS (aI (aY (f2 dIx (aA 0) (fC (.int 1))))))
  bN)
 (aV (fIf (aU (eK (fB (f2 dEq (aA 3) (fC (.str "stop")))) (fB (f2 dLe (aA 2) (f2 dIx (aA 0) (fC (.int 1)))))))
  (bS (aI (f2 iL (fC (.str " ")) (f2 lB (f2 dIx (aA 0) (fC (.int 1))) (aA 2)))))
  bN)
 (aV (fIf (aU (fA (fT (cL "Place" "broken" (aA 1)))))
  (bS (aI (fC .non)))
  bN)
 (aV (fIf (aU (fB (f2 dEq (aA 3) (fC (.str "stop")))))
  (bS (aI (aH ka (aB (f2 dIx (aA 0) (fC (.int 1))) aE))))
  bN)
 (bS (aI (aH ka (aB (cL "Place" "margin" (aA 1)) aE))))))))))
abbrev lY:Stmt:=top 13
abbrev iX:List Str:=["piece","place","column"]
theorem uF:FnScope ["piece","place","column","kind"] iX (aT lY):=cG
theorem yg3(cu:Dn K mg "writing" lY iX f fd)
  (du:Dn K mg "new_line" nI kP o6 ot) (kc:FnOk P w K mg base CX0 n o6 ot kP (SpP 1 K U ka))
  (a9:Cls K (U "Place"))
  (bq:cF K (U "Place") "broken")
  (dj:cF K (U "Place") "margin"):
  FnOk P w K mg base CX0 (n+1) f fd iX (SpP 3 K U (gP 3 1 (oV ka))):=
 cO cu.F uF fun cdv A outer s H E B hr=>
 (aJ (bB 3 uF.nd rfl (.inl rfl) rfl rfl (QP.e (QV.p (aZ (aC 0) (QP.v aG)))))
 (aJ (cB (QT.e (cE (gS (Room.units hr)) (aC 3) (QP.v cD) (bR _)))
  (aL (bL (QP.e (QV.p (aZ (aC 0) (QP.v aG))))))
  bU)
 (aJ (cB (QT.e (rT (oC (cE (gS (Room.units hr)) (aC 3) (QP.v cD) (bR _)) (nS (jU (eQ (cU (C:="Place") a9 bq (aC 1))))))))
  (aL (bL (QP.e (QV.p (aZ (aC 0) (QP.v aG))))))
  bU)
 (aJ (cB (QT.e (rT (oC (cE (gS (Room.units hr)) (aC 3) (QP.v cD) (bR _)) (nS (cE xn5 (aC 2) (aZ (aC 0) (QP.v aG)) (bR _))))))
  (aL (bL (QP.e (bG uX (QP.v cD) (QP.v (bG qC (aZ (aC 0) (QP.v aG)) (aC 2)))))))
  bU)
 (aJ (cB (QT.e (jU (eQ (cU (C:="Place") a9 bq (aC 1)))))
  (aL (bL (QP.e oA)))
  bU)
 (aJ (cB (QT.e (cE (gS (Room.units hr)) (aC 3) (QP.v cD) (bR _)))
  (aL (bL (QP.e (cM du kc hr rfl rfl (aF (aZ (aC 0) (QP.v aG)) aQ) (aN bF)))))
  bU)
 (aL (bL (QP.e (cM du kc hr rfl rfl (aF (cU (C:="Place") a9 dj (aC 1)) aQ) (aN bF)))))))))))
def pT:tz1:=
 (bS (aI (fMt qG (aA 0) (aB (fC (.str "\n")) aE))))
abbrev jZ:Stmt:=top 14
abbrev gJ:List Str:=["wrote"]
theorem wN:FnScope ["wrote"] gJ (aT jZ):=cG
theorem zs4(bz:Dn K mg "ends_line" jZ gJ f fd)
     :
  FnOk P w K mg base CX0 (n+1) f fd gJ (SpP 1 K U (gP 1 0 (pT))):=
 cO bz.F wN fun cdv A outer s H E B hr=>
 (aL (bL (QP.e (zc8 PySem.F.slot_str_startswith PySem.F.type_str_startswith yf5 (aC 0) (aF (QP.v cD) aQ)))))
def eG(dc:(tz6)):tz1:=
 (aV (fIf (aU (fT (aH dc (aB (aA 1) aE))))
  (bS (aI (f2 lB (aH cW (aB (aA 1) aE)) (fC (.int 1)))))
  bN)
 (bS (aI (f2 cJ (aA 0) (aH cW (aB (aA 1) aE))))))
abbrev hV:Stmt:=top 15
abbrev eV:List Str:=["column","wrote"]
theorem qT:FnScope ["column","wrote"] eV (aT hV):=cG
theorem zT(av:Dn K mg "column_behind" hV eV f fd)
  (bz:Dn K mg "ends_line" jZ gJ ji i5) (d8:FnOk P w K mg base CX0 n ji i5 gJ (SpP 1 K U dc))
  (ac:mg "len"=none):
  FnOk P w K mg base CX0 (n+1) f fd eV (SpP 2 K U (gP 2 0 (eG dc))):=
 cO av.F qT fun cdv A outer s H E B hr=>
 (aJ (cB (QT.e (eQ (QP.v (cM bz d8 hr rfl rfl (aF (aC 1) aQ) (aN bF)))))
  (aL (bL (QP.e (bG qC (QP.v (bY gN rfl ac ZU (aF (aC 1) aQ))) (QP.v aG)))))
  bU)
 (aL (bL (QP.e (bG eW (aC 0) (QP.v (bY gN rfl ac ZU (aF (aC 1) aQ))))))))
def uO(am:(tz7))(ar:(tz7)):tz1:=
 (aV (aW 2 (aI (fD "Front" (cC [.im (cL "Front" "steps" (aA 0))]) am)))
 (aV (fV 3 (xB (aY (cL "Front" "best" (aA 0))))
  (aV (aW 4 (aI (aY (f2 gZ (cL "Front" "best" (aA 0)) (aA 3)))))
 (cN (dA 2 bI (cC [.im (aA 3),.im (cK (aB (aY (f2 dIx (aA 4) (fC (.int 0)))) (aB (f2 cJ (f2 dIx (aA 4) (fC (.int 1))) (cK (aB (aY (aA 1)) aE))) aE)))]) (eC "Front" "add" ar)))))
 (sM 2)))
abbrev kL:Stmt:=top 18
abbrev iY:List Str:=["front","number"]
theorem iS:FnScope ["front","number","chosen","state","way"] iY (aT kL):=cG
theorem zh3(c8:Dn K mg "with_choice" kL iY f fd)
  (ci:Kn K mg U "Front" "Front.__init__" st_Front_init ps_Front_init c5 cg) (az:FnOk P w K mg base CX0 n c5 cg ps_Front_init (SpE 2 K U (bC [true,false]) am))
  (au:Mn K U "Front" "add" "Front.add" st_Front_add ps_Front_add dk c6) (bf:FnOk P w K mg base CX0 (n+1) dk c6 ps_Front_add (SpE 3 K U (bC [true,false,false]) ar))
  (aa:Cls K (U "Front"))
  (ah:cF K (U "Front") "best")
  (cj:cF K (U "Front") "steps"):
  FnOk P w K mg base CX0 ((n+1)+1) f fd iY (SpP 2 K U (gP 2 3 (uO am ar))):=
 cO c8.F iS fun cdv A outer s H E B hr=>
 (aJ (bB 2 iS.nd rfl (.inl rfl) rfl rfl (QP.e (mK ci az hr rfl (bE (cU (C:="Front") aa cj (aC 0)) cS) rfl rfl (dH 1))))
 (aJ (qS 3 ZL rfl iS.nd rfl (.inl rfl) rfl rfl (zs3 (QV.p (cU (C:="Front") aa ah (aC 0))))
  (aJ (bB 4 iS.nd rfl (.inl rfl) rfl rfl (QP.e (QV.p (tH (uU hr) (cU (C:="Front") aa ah (aC 0)) (aC 3)))))
 (aL (eM (kW au bf hr rfl (bM 2) (bE (aC 3) (bE (QP.v (dJ (aP (QV.p (aZ (aC 4) (QP.v aG))) (aP (bG eW (aZ (aC 4) (QP.v aG)) (QP.v (dJ (aP (QV.p (aC 1)) bA)))) bA)))) cS)) rfl rfl (dH 2))))))
 (aL (pL 2 rfl))))
def sE(am:(tz7))(de:(tz6))(ar:(tz7)):tz1:=
 (aV (aW 3 (aI (fD "Front" (cC [.im (cL "Front" "steps" (aA 0))]) am)))
 (aV (fV 4 (xB (aY (cL "Front" "best" (aA 0))))
  (aV (aW 5 (aI (aY (f2 gZ (cL "Front" "best" (aA 0)) (aA 4)))))
 (aV (aW 6 (aI (aH de (aB (rC "WithinWidth" "state_behind" (cL "Front" "steps" (aA 0))) (aB (aA 4) (aB (f2 dIx (aA 5) (fC (.int 0))) (aB (aA 1) (aB (aA 2) aE))))))))
 (fIf (aU (fB (f2 za8 (aA 6) (fC .non))))
  (cN (dA 3 bI (cC [.im (f2 dIx (aA 6) (fC (.int 0))),.im (cK (aB (aY (f2 dIx (aA 6) (fC (.int 1)))) (aB (aY (f2 dIx (aA 5) (fC (.int 1)))) aE)))]) (eC "Front" "add" ar)))
  bN))))
 (sM 3)))
abbrev jR:Stmt:=top 19
abbrev iK:List Str:=["front","piece","place"]
theorem fZ:FnScope ["front","piece","place","behind","state","way","reached"] iK (aT jR):=cG
theorem zf4(ck:Dn K mg "behind_plain" jR iK f fd)
  (ci:Kn K mg U "Front" "Front.__init__" st_Front_init ps_Front_init c5 cg) (az:FnOk P w K mg base CX0 n c5 cg ps_Front_init (SpE 2 K U (bC [true,false]) am))
  (ao:Mn K U "WithinWidth" "state_behind" "WithinWidth.state_behind" st_WithinWidth_state_behind ps_WithinWidth_state_behind g6 gh) (df:FnOk P w K mg base CX0 (n+1) g6 gh ps_WithinWidth_state_behind (SpP 5 K U de))
  (au:Mn K U "Front" "add" "Front.add" st_Front_add ps_Front_add dk c6) (bf:FnOk P w K mg base CX0 (n+1) dk c6 ps_Front_add (SpE 3 K U (bC [true,false,false]) ar))
  (aa:Cls K (U "Front"))
  (ah:cF K (U "Front") "best")
  (cj:cF K (U "Front") "steps"):
  FnOk P w K mg base CX0 ((n+1)+1) f fd iK (SpP 3 K U (gP 3 4 (sE am de ar))):=
 cO ck.F fZ fun cdv A outer s H E B hr=>
 (aJ (bB 3 fZ.nd rfl (.inl rfl) rfl rfl (QP.e (mK ci az hr rfl (bE (cU (C:="Front") aa cj (aC 0)) cS) rfl rfl (dH 1))))
 (aJ (qS 4 ZL rfl fZ.nd rfl (.inl rfl) rfl rfl (zs3 (QV.p (cU (C:="Front") aa ah (aC 0))))
  (aJ (bB 5 fZ.nd rfl (.inl rfl) rfl rfl (QP.e (QV.p (tH (uU hr) (cU (C:="Front") aa ah (aC 0)) (aC 4)))))
 (aJ (bB 6 fZ.nd rfl (.inl rfl) rfl rfl (QP.e (yg1 ao df hr (cU (C:="Front") aa cj (aC 0)) rfl (aF (aC 4) (aF (aZ (aC 5) (QP.v aG)) (aF (aC 1) (aF (aC 2) aQ)))) (aN (aN (aN (aN bF)))))))
 (aL (cB (QT.e (cE yo6 (aC 6) (QP.v oA) (bR _)))
  (aL (eM (kW au bf hr rfl (bM 3) (bE (aZ (aC 6) (QP.v aG)) (bE (QP.v (dJ (aP (QV.p (aZ (aC 6) (QP.v aG))) (aP (QV.p (aZ (aC 5) (QP.v aG))) bA)))) cS)) rfl rfl (dH 2))))
  bU)))))
 (aL (pL 3 rfl))))
def rE(am:(tz7))(jk:(tz6))(b5:(tz6))(ke:(tz6))(kf:(tz7))(cm:(tz6)):tz1:=
 (aV (aW 3 (aI (fD "Front" (cC [.im (cL "Front" "steps" (aA 0))]) am)))
 (aV (yb8 [4,5] (yc0 (aH jk (aB (aA 1) (aB (aA 2) aE))))
  (aV (aW 6 (aI (aY (aA 0))))
 (aV (fIf (aU (fT (aH b5 (aB (aA 1) (aB (aA 2) aE)))))
  (aW 6 (aI (jQ (aH ke (aB (aA 0) (aB (aA 4) aE))))))
  bN)
 (cN (dA 3 bI (cC [.im (aH cm (aB (aA 6) (aB (f2 dIx (aA 5) (fC (.int 0))) (aB (f2 dIx (aA 5) (fC (.int 1))) aE))))]) (eC "Front" "add_all" kf))))))
 (sM 3)))
abbrev jI:Stmt:=top 20
abbrev hX:List Str:=["front","piece","place"]
theorem eR:FnScope ["front","piece","place","behind","number","way","chosen"] hX (aT jI):=cG
theorem zU(cc:Dn K mg "behind_holder" jI hX f fd)
  (ci:Kn K mg U "Front" "Front.__init__" st_Front_init ps_Front_init c5 cg) (az:FnOk P w K mg base CX0 n c5 cg ps_Front_init (SpE 2 K U (bC [true,false]) am))
  (gk:Dn K mg "ways" nX lX n8 mz) (kz:FnOk P w K mg base CX0 (n+1) n8 mz lX (SpP 2 K U jk))
  (ax:Dn K mg "takes_choice" iJ fG gl fj) (cp:FnOk P w K mg base CX0 (n+1) gl fj fG (SpP 2 K U b5))
  (c8:Dn K mg "with_choice" kL iY m6 ml) (kg:FnOk P w K mg base CX0 (n+1) m6 ml iY (SpP 2 K U ke))
  (c9:Mn K U "Front" "add_all" "Front.add_all" st_Front_add_all ps_Front_add_all m7 mm) (kh:FnOk P w K mg base CX0 (n+1) m7 mm ps_Front_add_all (SpE 2 K U (bC [true,false]) kf))
  (bj:Dn K mg "behind_row" st_p_behind_row ps_p_behind_row i6 il) (f7:FnOk P w K mg base CX0 (n+1) i6 il ps_p_behind_row (SpP 3 K U cm))
  (aa:Cls K (U "Front"))
  (cj:cF K (U "Front") "steps")
  (nh:mg "enumerate"=none):
  FnOk P w K mg base CX0 ((n+1)+1) f fd hX (SpP 3 K U (gP 3 4 (rE am jk b5 ke kf cm))):=
 cO cc.F eR fun cdv A outer s H E B hr=>
 (aJ (bB 3 eR.nd rfl (.inl rfl) rfl rfl (QP.e (mK ci az hr rfl (bE (cU (C:="Front") aa cj (aC 0)) cS) rfl rfl (dH 1))))
 (aJ (wa8 [4,5] ZL rfl rfl nh (cM gk kz hr rfl rfl (aF (aC 1) (aF (aC 2) aQ)) (aN (aN bF))) (pK (iA (i:=4) eR.nd rfl (.inl rfl)) (pK (iA (i:=5) eR.nd rfl (.inl rfl)) yn3)) (fun j hj=>by simp only [Z2,Zm,ZW] at hj;rcases hj with rfl|rfl<;>exact⟨rfl,rfl⟩)
  (aJ (bB 6 eR.nd rfl (.inl rfl) rfl rfl (QP.e (QV.p (aC 0))))
 (aJ (cB (QT.e (eQ (QP.v (cM ax cp hr rfl rfl (aF (aC 1) (aF (aC 2) aQ)) (aN (aN bF))))))
  (aL (bB 6 eR.nd rfl (.inl rfl) rfl rfl (QP.e (tI (cM c8 kg hr rfl rfl (aF (aC 0) (aF (aC 4) aQ)) (aN (aN bF)))))))
  bU)
 (aL (eM (kW c9 kh hr rfl (bM 3) (bE (QP.v (cM bj f7 hr rfl rfl (aF (aC 6) (aF (aZ (aC 5) (QP.v aG)) (aF (aZ (aC 5) (QP.v aG)) aQ))) (aN (aN (aN bF))))) cS) rfl rfl (dH 1)))))))
 (aL (pL 3 rfl))))
def oW(cq:(tz6))(jb:(tz6))(jl:(tz6)):tz1:=
 (aV (aW 3 (aI (aY (aA 0))))
 (aV (fV 4 (cP (aA 1))
  (fIf (aU (fT (aH cq (aB (aA 4) aE))))
  (aW 3 (aI (jQ (aH jb (aB (aA 3) (aB (aA 4) (aB (aA 2) aE)))))))
  (aW 3 (aI (jQ (aH jl (aB (aA 3) (aB (aA 4) (aB (aA 2) aE)))))))))
 (sM 3)))
abbrev st_p_behind_row:Stmt:=top 21
abbrev ps_p_behind_row:List Str:=["front","row","place"]
theorem iB:FnScope ["front","row","place","behind","piece"] ps_p_behind_row (aT st_p_behind_row):=cG
theorem zl6(bj:Dn K mg "behind_row" st_p_behind_row ps_p_behind_row f fd)
  (bi:Dn K mg "holds_rows" jH fW i7 iq) (dm:FnOk P w K mg base CX0 n i7 iq fW (SpP 1 K U cq))
  (cc:Dn K mg "behind_holder" jI hX l6 lw) (qh:FnOk P w K mg base CX0 n l6 lw hX (SpP 3 K U jb))
  (ck:Dn K mg "behind_plain" jR iK mn l7) (jm:FnOk P w K mg base CX0 n mn l7 iK (SpP 3 K U jl)):
  FnOk P w K mg base CX0 (n+1) f fd ps_p_behind_row (SpP 3 K U (gP 3 2 (oW cq jb jl))):=
 cO bj.F iB fun cdv A outer s H E B hr=>
 (aJ (bB 3 iB.nd rfl (.inl rfl) rfl rfl (QP.e (QV.p (aC 0))))
 (aJ (zc9 4 1 ZL rfl iB.nd rfl (.inl rfl) rfl rfl rfl
  (aL (cB (QT.e (eQ (QP.v (cM bi dm hr rfl rfl (aF (aC 4) aQ) (aN bF)))))
  (aL (bB 3 iB.nd rfl (.inl rfl) rfl rfl (QP.e (tI (cM cc qh hr rfl rfl (aF (aC 3) (aF (aC 4) (aF (aC 2) aQ))) (aN (aN (aN bF))))))))
  (aL (bB 3 iB.nd rfl (.inl rfl) rfl rfl (QP.e (tI (cM ck jm hr rfl rfl (aF (aC 3) (aF (aC 4) (aF (aC 2) aQ))) (aN (aN (aN bF)))))))))))
 (aL (pL 3 rfl))))
def rF(cm:(tz6))(ca:(tz6)):tz1:=
 (bS (aI (aH cm (aB (aA 0) (aB (aA 1) (aB (aH ca aE) aE))))))
abbrev fQ:Stmt:=top 22
abbrev dQ:List Str:=["front","pieces"]
theorem qU:FnScope ["front","pieces"] dQ (aT fQ):=cG
theorem zV(ag:Dn K mg "behind_pieces" fQ dQ f fd)
  (bj:Dn K mg "behind_row" st_p_behind_row ps_p_behind_row i6 il) (f7:FnOk P w K mg base CX0 n i6 il ps_p_behind_row (SpP 3 K U cm))
  (ba:Dn K mg "first_place" iW fN ir gm) (da:FnOk P w K mg base CX0 n ir gm fN (SpP 0 K U ca)):
  FnOk P w K mg base CX0 (n+1) f fd dQ (SpP 2 K U (gP 2 0 (rF cm ca))):=
 cO ag.F qU fun cdv A outer s H E B hr=>
 (aL (bL (QP.e (cM bj f7 hr rfl rfl (aF (aC 0) (aF (aC 1) (aF (QP.v (xe3 ba da hr rfl)) aQ))) (aN (aN (aN bF)))))))
def zD:tz1:=
 (bS (aI (fMt mZ (aA 0) (aB (fC (.str "\n")) aE))))
abbrev kQ:Stmt:=top 24
abbrev iH:List Str:=["text"]
theorem yY:FnScope ["text"] iH (aT kQ):=cG
theorem zz9(cb:Dn K mg "lines_of" kQ iH f fd)
     :
  FnOk P w K mg base CX0 (n+1) f fd iH (SpP 1 K U (gP 1 0 (zD))):=
 cO cb.F yY fun cdv A outer s H E B hr=>
 (aL (bL (QP.e (zc8 X0 X1 zr0 (aC 0) (aF (QP.v cD) aQ)))))
def vI(dw:(tz6)):tz1:=
 (bS (aI (aH yy8 (aB (iD [none,some 1] (cP (aH dw (aB (aA 0) aE))) iG (f2 dLe (aH cW (aB (aA 0) aE)) (aA 1))) aE))))
abbrev rG:Stmt:=top 25
abbrev rH:List Str:=["text","width"]
theorem zx2:FnScope ["text","width"] rH (aT rG):=cG
theorem xg5(k7:Dn K mg "fits" rG rH f fd)
  (cb:Dn K mg "lines_of" kQ iH ki jj) (f8:FnOk P w K mg base CX0 n ki jj iH (SpP 1 K U dw))
  (vf:mg "all"=none)
  (ac:mg "len"=none):
  FnOk P w K mg base CX0 (n+1) f fd rH (SpP 2 K U (gP 2 0 (vI dw))):=
 cO k7.F zx2 fun cdv A outer s H E B hr=>
 (aL (bL (QP.e (bY (wo5 rfl) rfl vf boot_all (aF (QP.v (tG (sc:=aT rG) (NX:=["text","width"]) (N:=["line","width"]) (pick:=[none,some 1]) ⟨rfl,by decide+kernel,by decide+kernel,by decide+kernel,by decide+kernel,by decide,rfl⟩ rfl rfl rfl (wL (QP.v (cM cb f8 hr rfl rfl (aF (aC 0) aQ) (aN bF)))) (fun _ _ _ _=>(iA (i:=0) (show(["line","width"]:List Str).Nodup by decide) rfl (by first|exact Or.inl rfl|exact Or.inr rfl))) (fun _ _ _ _=>tF) (fun _ _ _ _=>(qQ xn5 (QP.v (bY gN rfl ac ZU (aF (aC 0) aQ))) (aC 1) (bR _))))) aQ)))))
def yK(qu:(tz6))(dw:(tz6)):tz1:=
 (aV (fIf (aU (fA (fT (aH qu (aB (aA 0) (aB (aA 1) aE))))))
  (bS (aI (fC .non)))
  bN)
 (aV (aW 2 (aI (aH dw (aB (aA 0) aE))))
 (aV (aW 3 (aI (aH yy9 (aB (iD [none,some 1] (cP (fSl (aA 2) gB (jP (dP (fC (.int 1)))))) iG (f2 iL (f2 lB (aA 1) (aH cW (aB (aA 0) aE))) (f2 lB (aA 1) (aH cW (aB (aA 0) aE))))) aE))))
 (bS (aI (cK (aB (aH cW (aB (aA 2) aE)) (aB (aY (aA 3)) aE))))))))
abbrev oX:Stmt:=top 26
abbrev oY:List Str:=["text","width"]
theorem sJ:FnScope ["text","width","lines","rag"] oY (aT oX):=cG
theorem yw1(ju:Dn K mg "price" oX oY f fd)
  (k7:Dn K mg "fits" rG rH ui tq) (qy:FnOk P w K mg base CX0 n ui tq rH (SpP 2 K U qu))
  (cb:Dn K mg "lines_of" kQ iH ki jj) (f8:FnOk P w K mg base CX0 n ki jj iH (SpP 1 K U dw))
  (vg:mg "sum"=none)
  (ac:mg "len"=none):
  FnOk P w K mg base CX0 (n+1) f fd oY (SpP 2 K U (gP 2 2 (yK qu dw))):=
 cO ju.F sJ fun cdv A outer s H E B hr=>
 (aJ (cB (QT.e (jU (eQ (QP.v (cM k7 qy hr rfl rfl (aF (aC 0) (aF (aC 1) aQ)) (aN (aN bF)))))))
  (aL (bL (QP.e oA)))
  bU)
 (aJ (bB 2 sJ.nd rfl (by first|exact Or.inl rfl|exact Or.inr rfl) rfl rfl (QP.e (cM cb f8 hr rfl rfl (aF (aC 0) aQ) (aN bF))))
 (aJ (bB 3 sJ.nd rfl (by first|exact Or.inl rfl|exact Or.inr rfl) rfl rfl (QP.e (bY (wo6 rfl) rfl vg boot_sum (aF (QP.v (tG (sc:=aT oX) (NX:=["text","width","lines","rag"]) (N:=["line","width"]) (pick:=[none,some 1]) ⟨rfl,by decide+kernel,by decide+kernel,by decide+kernel,by decide+kernel,by decide,rfl⟩ rfl rfl rfl (wL (QP.v (ye3 (aC 2) yo8 (yo9 (QP.v (qR (QP.v aG))))))) (fun _ _ _ _=>(iA (i:=0) (show(["line","width"]:List Str).Nodup by decide) rfl (by first|exact Or.inl rfl|exact Or.inr rfl))) (fun _ _ _ _=>tF) (fun _ _ _ _=>(bG uX (QP.v (bG qC (aC 1) (QP.v (bY gN rfl ac ZU (aF (aC 0) aQ))))) (QP.v (bG qC (aC 1) (QP.v (bY gN rfl ac ZU (aF (aC 0) aQ))))))))) aQ))))
 (aL (bL (QP.e (dJ (aP (bY gN rfl ac ZU (aF (aC 2) aQ)) (aP (QV.p (aC 3)) bA)))))))))
def uP(am:(tz7))(iw:(tz7))(o7:(tz6))(ar:(tz7)):tz1:=
 (aV (aW 1 (aI (fD "Front" (cC [.im (mW (fD "WithinWidth" (cC [.im (aA 0)]) iw))]) am)))
 (aV (aW 2 (aI (aH o7 (aB (fC (.str "")) (aB (aA 0) aE)))))
 (aV (fIf (aU (fB (f2 za8 (aA 2) (fC .non))))
  (cN (dA 1 bI (cC [.im (fC (.int 0)),.im (cK (aB (aY (aA 2)) (aB (cK aE) aE)))]) (eC "Front" "add" ar)))
  bN)
 (sM 1))))
abbrev gK:Stmt:=top 29
abbrev eJ:List Str:=["width"]
theorem kI:FnScope ["width","front","cost"] eJ (aT gK):=cG
theorem zh4(al:Dn K mg "roads_begin" gK eJ f fd)
  (ci:Kn K mg U "Front" "Front.__init__" st_Front_init ps_Front_init c5 cg) (az:FnOk P w K mg base CX0 n c5 cg ps_Front_init (SpE 2 K U (bC [true,false]) am))
  (d9:Kn K mg U "WithinWidth" "WithinWidth.__init__" st_WithinWidth_init ps_WithinWidth_init lx kr) (iy:FnOk P w K mg base CX0 n lx kr ps_WithinWidth_init (SpE 2 K U (bC [true,false]) iw))
  (ju:Dn K mg "price" oX oY tu r9) (o8:FnOk P w K mg base CX0 (n+1) tu r9 oY (SpP 2 K U o7))
  (au:Mn K U "Front" "add" "Front.add" st_Front_add ps_Front_add dk c6) (bf:FnOk P w K mg base CX0 (n+1) dk c6 ps_Front_add (SpE 3 K U (bC [true,false,false]) ar)):
  FnOk P w K mg base CX0 ((n+1)+1) f fd eJ (SpP 1 K U (gP 1 2 (uP am iw o7 ar))):=
 cO al.F kI fun cdv A outer s H E B hr=>
 (aJ (bB 1 kI.nd rfl (.inl rfl) rfl rfl (QP.e (mK ci az hr rfl (bE (QP.v (zl1 (mK d9 iy hr rfl (bE (aC 0) cS) rfl rfl (dH 1)))) cS) rfl rfl (dH 1))))
 (aJ (bB 2 kI.nd rfl (.inl rfl) rfl rfl (QP.e (cM ju o8 hr rfl rfl (aF (QP.v cD) (aF (aC 0) aQ)) (aN (aN bF)))))
 (aJ (cB (QT.e (cE yo6 (aC 2) (QP.v oA) (bR _)))
  (aL (eM (kW au bf hr rfl (bM 1) (bE (QP.v aG) (bE (QP.v (dJ (aP (QV.p (aC 2)) (aP (dJ bA) bA)))) cS)) rfl rfl (dH 2))))
  bU)
 (aL (pL 1 rfl)))))
def zo7(aj:(tz6))(aq:(tz6)):tz1:=
 (aV (aW 2 (aI (aY (cL "Front" "best" (aH aj (aB (jQ (aH aq (aB (aA 1) aE))) (aB (aA 0) aE)))))))
 (bS (aI (iD [none,some 2] (cP (aH zb0 (aB (aA 2) aE))) iG (f2 cJ (f2 cJ (cK (aB (aY (aA 0)) aE)) (f2 dIx (f2 gZ (aA 1) (aA 0)) (fC (.int 0)))) (cK (aB (aY (f2 dIx (f2 gZ (aA 1) (aA 0)) (fC (.int 1)))) aE)))))))
abbrev oZ:Stmt:=top 30
abbrev pA:List Str:=["row","width"]
theorem xM:FnScope ["row","width","best"] pA (aT oZ):=cG
theorem yw2(jv:Dn K mg "roads" oZ pA f fd)
  (ag:Dn K mg "behind_pieces" fQ dQ ce b7) (aw:FnOk P w K mg base CX0 n ce b7 dQ (SpP 2 K U aj))
  (al:Dn K mg "roads_begin" gK eJ db cr) (bc:FnOk P w K mg base CX0 n db cr eJ (SpP 1 K U aq))
  (aa:Cls K (U "Front"))
  (ah:cF K (U "Front") "best")
  (qz:mg "sorted"=none):
  FnOk P w K mg base CX0 (n+1) f fd pA (SpP 2 K U (gP 2 1 (zo7 aj aq))):=
 cO jv.F xM fun cdv A outer s H E B hr=>
 (aJ (bB 2 xM.nd rfl (by first|exact Or.inl rfl|exact Or.inr rfl) rfl rfl (QP.e (QV.p (cU (C:="Front") aa ah (QP.v (cM ag aw hr rfl rfl (aF (QP.v (tI (cM al bc hr rfl rfl (aF (aC 1) aQ) (aN bF)))) (aF (aC 0) aQ)) (aN (aN bF))))))))
 (aL (bL (QP.e (tG (sc:=aT oZ) (NX:=["row","width","best"]) (N:=["length","best"]) (pick:=[none,some 2]) ⟨rfl,by decide+kernel,by decide+kernel,by decide+kernel,by decide+kernel,by decide,rfl⟩ rfl rfl rfl (wL (QP.v (bY (xp5 rfl) rfl qz boot_sorted (aF (aC 2) aQ)))) (fun _ _ _ _=>(iA (i:=0) (show(["length","best"]:List Str).Nodup by decide) rfl (by first|exact Or.inl rfl|exact Or.inr rfl))) (fun _ _ _ _=>tF) (fun _ _ _ _=>(bG eW (QP.v (bG eW (QP.v (dJ (aP (QV.p (aC 0)) bA))) (aZ (tH (uU hr) (aC 1) (aC 0)) (QP.v aG)))) (QP.v (dJ (aP (QV.p (aZ (tH (uU hr) (aC 1) (aC 0)) (QP.v aG))) bA))))))))))
def wC(l4:(tz7))(b6:(tz7))(ca:(tz6))(ig:(tz6)):tz1:=
 (aV (aW 2 (aI (fD "Setter" (cC [.im (aA 1)]) l4)))
 (aV (cN (dA 2 bI (cC [.im (aA 0),.im (aH ca aE)]) (eC "Setter" "set_row" b6)))
 (bS (aI (aH ig (aB (zo4 "Setter" "whole_text" (aA 2)) aE))))))
abbrev nB:Stmt:=top 33
abbrev jL:List Str:=["row","choices"]
theorem vV:FnScope ["row","choices","setter"] jL (aT nB):=cG
theorem ym7(di:Dn K mg "set_by" nB jL f fd)
  (k8:Kn K mg U "Setter" "Setter.__init__" st_Setter_init ps_Setter_init ou ny) (l5:FnOk P w K mg base CX0 n ou ny ps_Setter_init (SpE 2 K U (bC [true,false]) l4))
  (ay:Mn K U "Setter" "set_row" "Setter.set_row" st_Setter_set_row ps_Setter_set_row gn fk) (d7:FnOk P w K mg base CX0 (n+1) gn fk ps_Setter_set_row (SpE 3 K U (bC [true,false,false]) b6))
  (ba:Dn K mg "first_place" iW fN ir gm) (da:FnOk P w K mg base CX0 (n+1) ir gm fN (SpP 0 K U ca))
  (bv:Mn K U "Setter" "whole_text" "Setter.whole_text" st_Setter_whole_text ps_Setter_whole_text kt kj) (ii:FnOk P w K mg base CX0 (n+1) kt kj ps_Setter_whole_text (SpP 1 K U ig)):
  FnOk P w K mg base CX0 ((n+1)+1) f fd jL (SpP 2 K U (gP 2 1 (wC l4 b6 ca ig))):=
 cO di.F vV fun cdv A outer s H E B hr=>
 (aJ (bB 2 vV.nd rfl (.inl rfl) rfl rfl (QP.e (mK k8 l5 hr rfl (bE (aC 1) cS) rfl rfl (dH 1))))
 (aJ (eM (kW ay d7 hr rfl (bM 2) (bE (aC 0) (bE (QP.v (xe3 ba da hr rfl)) cS)) rfl rfl (dH 2)))
 (aL (bL (QP.e (xo5 bv ii hr (aC 2)))))))
def sF:tz1:=
 (aV (fIf (aU (fA (fTK (cL "Front" "best" (aA 0)))))
  wY
  bN)
 (bS (aI (f2 dIx (aY (yc1 (cL "Front" "best" (aA 0)))) (fC (.int 1))))))
abbrev gC:Stmt:=top 35
abbrev dY:List Str:=["front"]
theorem mR:FnScope ["front"] dY (aT gC):=cG
theorem zf5(ai:Dn K mg "best_choices" gC dY f fd)
  (aa:Cls K (U "Front"))
  (ah:cF K (U "Front") "best")
  (iu:mg "min"=none):
  FnOk P w K mg base CX0 (n+1) f fd dY (SpP 1 K U (gP 1 0 (sF))):=
 cO ai.F mR fun cdv A outer s H E B hr=>
 (aJ (cB (QT.e (jU (yq0 (cU (C:="Front") aa ah (aC 0)))))
  (aL tZ)
  bU)
 (aL (bL (QP.e (sH (QV.p (wa9 rfl (Room.units hr) (cU (C:="Front") aa ah (aC 0)) rfl iu)) (QP.v aG))))))
def rJ:tz5:=
 (xu2 (fA (fTK (cL "Front" "best" (aA 0)))) xw1)
theorem zW(ai:Dn K mg "best_choices" gC dY f fd)
  (gq:OwnCls "NoRoom" ae bmV "ValueError.__new__" mg base)
  (aa:Cls K (U "Front"))
  (ah:cF K (U "Front") "best")
  (iu:mg "min"=none):
  FnOk P w K mg base (CXn P w base ae) (n+1) f fd dY (za9 1 K U ae (gX 1 0 (rJ))):=
 zw4 ai.F mR fun cdv A outer s H E B hr=>
 (zs1 (wo9 (jU (yq0 (cU (C:="Front") aa ah (aC 0)))) (zs1 (xp0 gq PySem.F.excBase_ValueError rfl))))
def zb3(jn:(tz6))(aj:(tz6))(aq:(tz6))(gs:(tz6)):tz1:=
 (aV (aW 2 (aI (aH jn (aB (aH aj (aB (jQ (aH aq (aB (aA 1) aE))) (aB (aA 0) aE))) aE))))
 (bS (aI (cK (aB (aH gs (aB (aA 0) (aB (aA 2) aE))) (aB (aY (aA 2)) aE))))))
abbrev kA:Stmt:=top 36
abbrev fX:List Str:=["row","width"]
theorem lN:FnScope ["row","width","choices"] fX (aT kA):=cG
theorem yg4(bg:Dn K mg "pressed" kA fX f fd)
  (ai:Dn K mg "best_choices" gC dY gu fm) (jo:FnOk P w K mg base CX0 n gu fm dY (SpP 1 K U jn))
  (ag:Dn K mg "behind_pieces" fQ dQ ce b7) (aw:FnOk P w K mg base CX0 n ce b7 dQ (SpP 2 K U aj))
  (al:Dn K mg "roads_begin" gK eJ db cr) (bc:FnOk P w K mg base CX0 n db cr eJ (SpP 1 K U aq))
  (di:Dn K mg "set_by" nB jL l9 lm) (i8:FnOk P w K mg base CX0 n l9 lm jL (SpP 2 K U gs)):
  FnOk P w K mg base CX0 (n+1) f fd fX (SpP 2 K U (gP 2 1 (zb3 jn aj aq gs))):=
 cO bg.F lN fun cdv A outer s H E B hr=>
 (aJ (bB 2 lN.nd rfl (.inl rfl) rfl rfl (QP.e (cM ai jo hr rfl rfl (aF (QP.v (cM ag aw hr rfl rfl (aF (QP.v (tI (cM al bc hr rfl rfl (aF (aC 1) aQ) (aN bF)))) (aF (aC 0) aQ)) (aN (aN bF)))) aQ) (aN bF))))
 (aL (bL (QP.e (dJ (aP (cM di i8 hr rfl rfl (aF (aC 0) (aF (aC 2) aQ)) (aN (aN bF))) (aP (QV.p (aC 2)) bA)))))))
def zE(jc:(List D->Bool))(aj:(tz6))(aq:(tz6)):tz5:=
 (yk0 jc (aB (aH aj (aB (jQ (aH aq (aB (aA 1) aE))) (aB (aA 0) aE))) aE))
theorem ya0(bg:Dn K mg "pressed" kA fX f fd)
  (ai:Dn K mg "best_choices" gC dY gu fm) (jd:FnOk P w K mg base (CXn P w base ae) n gu fm dY (za9 1 K U ae jc))
  (ag:Dn K mg "behind_pieces" fQ dQ ce b7) (aw:FnOk P w K mg base CX0 n ce b7 dQ (SpP 2 K U aj))
  (al:Dn K mg "roads_begin" gK eJ db cr) (bc:FnOk P w K mg base CX0 n db cr eJ (SpP 1 K U aq))
  (gq:OwnCls "NoRoom" ae bmV "ValueError.__new__" mg base):
  FnOk P w K mg base (CXn P w base ae) (n+1) f fd fX (za9 2 K U ae (gX 2 1 (zE jc aj aq))):=
 zw4 bg.F lN fun cdv A outer s H E B hr=>
 (zs1 (wh9 2 lN.nd rfl (.inl rfl) (wi0 ai jd hr rfl rfl (aF (QP.v (cM ag aw hr rfl rfl (aF (QP.v (tI (cM al bc hr rfl rfl (aF (aC 1) aQ) (aN bF)))) (aF (aC 0) aQ)) (aN (aN bF)))) aQ) (aN bF))))
def zo8:tz1:=
 (bS (aI (oN (aH mU (aB (aA 0) (aB (fC (.ty "int")) aE))) (yy7 (aH mU (aB (aA 0) (aB (fC (.ty "bool")) aE)))))))
abbrev sQ:Stmt:=top 40
abbrev pB:List Str:=["_law_found"]
theorem zl7:FnScope ["_law_found"] pB (aT sQ):=cG
theorem yw3(jw:Dn K mg "_law_whole" sQ pB f fd)
  (ak:mg "isinstance"=none)
  (qg:mg "int"=none)
  (uj:mg "bool"=none):
  FnOk P w K mg base CX0 (n+1) f fd pB (SpP 1 K U (gP 1 0 (zo8))):=
 cO jw.F zl7 fun cdv A outer s H E B hr=>
 (aL (bL (QP.e (zk3 (bY zk4 rfl ak X3 (aF (aC 0) (aF (QP.v (zj9 rfl qg boot_int)) aQ))) (zk2 (wg9 (bY zk4 rfl ak X3 (aF (aC 0) (aF (QP.v (zj9 rfl uj boot_bool)) aQ)))))))))
def zb4:tz1:=
 (aV (aW 1 (aI (fC (.str "abcdefghijklmnopqrstuvwxyzABCDEFGHIJKLMNOPQRSTUVWXYZ0123456789"))))
 (aV (aW 1 (aI (f2 cJ (aA 1) (fC (.str "!\"#$&'()*+,-./:;<=>?\x40[\\]^_`{|}~")))))
 (aV (aW 2 (aI (f2 dIx (cV (fKs [.int 1,.int 2,.int 3,.int 4,.int 5,.int 6,.int 7,.int 8,.int 10,.int 11,.int 9,.int 12])) (f2 dX (aA 0) (fC (.int 12))))))
 (aV (aW 3 (aI (f2 dX (f2 gI (aA 0) (fC (.int 9000))) (fC (.int 93)))))
 (aV (aW 4 (aI (fC (.str ""))))
 (aV (fV 5 (qF (aB (aA 2) aE))
  (aW 4 (aI (f2 cJ (aA 4) (f2 dIx (aA 1) (f2 dX (f2 cJ (f2 gI (aA 0) (fC (.int 12))) (f2 iL (aA 5) (aA 3))) (fC (.int 93))))))))
 (sM 4)))))))
abbrev vJ:Stmt:=top 41
abbrev rK:List Str:=["_law_number"]
theorem jF:FnScope ["_law_number","_law_signs","_law_size","_law_step","_law_word_here","_law_j"] rK (aT vJ):=cG
theorem xg6(k9:Dn K mg "_law_word" vJ rK f fd)
  (i9:mg "range"=none):
  FnOk P w K mg base CX0 (n+1) f fd rK (SpP 1 K U (gP 1 5 (zb4))):=
 cO k9.F jF fun cdv A outer s H E B hr=>
 (aJ (bB 1 jF.nd rfl (.inl rfl) rfl rfl (QP.e cD))
 (aJ (bB 1 jF.nd rfl (.inl rfl) rfl rfl (QP.e (bG eW (aC 1) (QP.v cD))))
 (aJ (bB 2 jF.nd rfl (.inl rfl) rfl rfl (QP.e (sH (dZ (sI (.int (.int (.int (.int (.int (.int (.int (.int (.int (.int (.int (.int .nil)))))))))))))) (QP.v (bG gM (aC 0) (QP.v aG))))))
 (aJ (bB 3 jF.nd rfl (.inl rfl) rfl rfl (QP.e (bG gM (QP.v (bG nG (aC 0) (QP.v aG))) (QP.v aG))))
 (aJ (bB 4 jF.nd rfl (.inl rfl) rfl rfl (QP.e cD))
 (aJ (qS 5 ZL rfl jF.nd rfl (.inl rfl) rfl rfl (zv7 rfl i9 (aF (aC 2) aQ))
  (aL (bB 4 jF.nd rfl (.inl rfl) rfl rfl (QP.e (bG eW (aC 4) (aZ (aC 1) (QP.v (bG gM (QP.v (bG eW (QP.v (bG nG (aC 0) (QP.v aG))) (QP.v (bG uX (aC 5) (aC 3))))) (QP.v aG)))))))))
 (aL (pL 4 rfl))))))))
def zb5(re:(tz6)):tz1:=
 (aV (aW 1 (aI (f2 gI (aA 0) (fC (.int 16)))))
 (aV (fIf (aU (fB (f2 dLt (f2 dX (aA 0) (fC (.int 16))) (fC (.int 8)))))
  (bS (aI (cK (aB (fC (.str "word")) (aB (aH re (aB (aA 1) aE)) aE)))))
  bN)
 (aV (fIf (aU (fB (f2 dLt (f2 dX (aA 0) (fC (.int 16))) (fC (.int 13)))))
  (bS (aI (cK (aB (fC (.str "gap")) (aB (f2 dIx (cV (fKs [.str " ",.str " ",.str " ",.str ""])) (f2 dX (aA 1) (fC (.int 4)))) aE)))))
  bN)
 (aV (fIf (aU (fB (f2 dEq (f2 dX (aA 0) (fC (.int 16))) (fC (.int 13)))))
  (bS (aI (cK (aB (fC (.str "end")) aE))))
  bN)
 (bS (aI (cK (aB (fC (.str "stop")) (aB (f2 dIx (cV (aB (f2 dX (f2 gI (aA 1) (fC (.int 2))) (fC (.int 10))) (aB (f2 dX (f2 gI (aA 1) (fC (.int 2))) (fC (.int 41))) aE))) (f2 dX (aA 1) (fC (.int 2)))) aE)))))))))
abbrev vK:Stmt:=top 42
abbrev rL:List Str:=["_law_number"]
theorem zX:FnScope ["_law_number","_law_some"] rL (aT vK):=cG
theorem xg7(la:Dn K mg "_law_leaf" vK rL f fd)
  (k9:Dn K mg "_law_word" vJ rK uk tw) (rf:FnOk P w K mg base CX0 n uk tw rK (SpP 1 K U re)):
  FnOk P w K mg base CX0 (n+1) f fd rL (SpP 1 K U (gP 1 1 (zb5 re))):=
 cO la.F zX fun cdv A outer s H E B hr=>
 (aJ (bB 1 zX.nd rfl (.inl rfl) rfl rfl (QP.e (bG nG (aC 0) (QP.v aG))))
 (aJ (cB (QT.e (cE (zK (Room.units0 hr)) (QP.v (bG gM (aC 0) (QP.v aG))) (QP.v aG) (bR _)))
  (aL (bL (QP.e (dJ (aP cD (aP (cM k9 rf hr rfl rfl (aF (aC 1) aQ) (aN bF)) bA))))))
  bU)
 (aJ (cB (QT.e (cE (zK (Room.units0 hr)) (QP.v (bG gM (aC 0) (QP.v aG))) (QP.v aG) (bR _)))
  (aL (bL (QP.e (dJ (aP cD (aP (sH (dZ (sI (.str (.str (.str (.str .nil)))))) (QP.v (bG gM (aC 1) (QP.v aG)))) bA))))))
  bU)
 (aJ (cB (QT.e (cE (gS (Room.units hr)) (QP.v (bG gM (aC 0) (QP.v aG))) (QP.v aG) (bR _)))
  (aL (bL (QP.e (dJ (aP cD bA)))))
  bU)
 (aL (bL (QP.e (dJ (aP cD (aP (sH (dZ (aP (bG gM (QP.v (bG nG (aC 1) (QP.v aG))) (QP.v aG)) (aP (bG gM (QP.v (bG nG (aC 1) (QP.v aG))) (QP.v aG)) bA))) (QP.v (bG gM (aC 1) (QP.v aG)))) bA))))))))))
def rM:tz1:=
 (aV (rZ [1,2,3,4] (dA 0 bI aE oQ))
 (aV (aW 3 (aI (f2 cJ (aA 3) (cV (aB (aH gY (aB (aA 4) aE)) aE)))))
 (aV (fIf (aU (eK (fB (f2 dEq (aA 1) (fC (.str "either")))) (fB (f2 dLt (aH cW (aB (aA 3) aE)) (fC (.int 2))))))
  (aW 3 (aI (f2 cJ (aA 3) (cV (aB (cK (aB (cK (aB (fC (.str "word")) (aB (fC (.str "or")) aE))) aE)) aE)))))
  bN)
 (aV (aW 5 (aI (cK (aB (fC (.str "group")) (aB (aY (f2 dIx (aA 3) (fC (.int 0)))) aE)))))
 (aV (fIf (aU (fB (f2 dEq (aA 1) (fC (.str "hang")))))
  (aW 5 (aI (cK (aB (fC (.str "hang")) (aB (aY (aA 2)) (aB (aY (f2 dIx (aA 3) (fC (.int 0)))) aE))))))
  bN)
 (aV (fIf (aU (fB (f2 dEq (aA 1) (fC (.str "either")))))
  (aW 5 (aI (cK (aB (fC (.str "either")) (aB (aH gY (aB (aA 3) aE)) aE)))))
  bN)
 (cN (dA 0 (fM 0 (fM 0 bI (dP (fC (.int 1)))) (fC (.int 3))) (aB (aY (aA 5)) aE) dD))))))))
abbrev vL:Stmt:=top 43
abbrev rN:List Str:=["_law_frames"]
theorem gU:FnScope ["_law_frames","_law_kind","_law_n","_law_full","_law_parts","_law_piece"] rN (aT vL):=cG
theorem xg8(jp:Dn K mg "_law_shut" vL rN f fd)
  (bw:mg "tuple"=none)
  (ac:mg "len"=none):
  FnOk P w K mg base CX0 (n+1) f fd rN (SpE 1 K U (bC [true]) (gE 1 5 (bC [true]) (rM))):=
 jN jp.F gU (fun i hi=>fF hi) fun cdv A outer s H E hr=>
 (aJ (xe6 (is:=[1,2,3,4]) rfl (pK (iA (i:=1) gU.nd rfl (.inl rfl)) (pK (iA (i:=2) gU.nd rfl (.inl rfl)) (pK (iA (i:=3) gU.nd rfl (.inl rfl)) (pK (iA (i:=4) gU.nd rfl (.inl rfl)) yn3)))) (wh6 (j:=0) rfl (bM 0)) (fun j hj=>by simp only [Z2,Zm,ZW] at hj;rcases hj with rfl|rfl|rfl|rfl<;>exact⟨rfl,rfl⟩))
 (aJ (bB 3 gU.nd rfl (.inl rfl) rfl rfl (QP.e (bG eW (aC 3) (QP.v (dZ (aP (lJ tD rfl bw YS (aF (aC 4) aQ)) bA))))))
 (aJ (cB (QT.e (rT (oC (cE (gS (Room.units hr)) (aC 1) (QP.v cD) (bR _)) (nS (cE (zK (Room.units0 hr)) (QP.v (bY gN rfl ac ZU (aF (aC 3) aQ))) (QP.v aG) (bR _))))))
  (aL (bB 3 gU.nd rfl (.inl rfl) rfl rfl (QP.e (bG eW (aC 3) (QP.v (dZ (aP (dJ (aP (dJ (aP cD (aP cD bA))) bA)) bA)))))))
  bU)
 (aJ (bB 5 gU.nd rfl (.inl rfl) rfl rfl (QP.e (dJ (aP cD (aP (QV.p (aZ (aC 3) (QP.v aG))) bA)))))
 (aJ (cB (QT.e (cE (gS (Room.units hr)) (aC 1) (QP.v cD) (bR _)))
  (aL (bB 5 gU.nd rfl (.inl rfl) rfl rfl (QP.e (dJ (aP cD (aP (QV.p (aC 2)) (aP (QV.p (aZ (aC 3) (QP.v aG))) bA)))))))
  bU)
 (aJ (cB (QT.e (cE (gS (Room.units hr)) (aC 1) (QP.v cD) (bR _)))
  (aL (bB 5 gU.nd rfl (.inl rfl) rfl rfl (QP.e (dJ (aP cD (aP (lJ tD rfl bw YS (aF (aC 3) aQ)) bA))))))
  bU)
 (aL (eM (lL (j:=0) rfl (kF (kF (bM 0) (QP.v (qR (QP.v aG)))) (QP.v aG)) (aP (QV.p (aC 5)) bA))))))))))
def yk3(a8:(tz6))(n9:(tz7))(rh:(tz6)):tz1:=
 (aV (aW 4 (aI (cV (aB (cV (aB (fC (.str "top")) (aB (fC (.int 0)) (aB (cV aE) (aB (cV aE) aE))))) aE))))
 (aV (fV 5 (sN (aB (aA 1) (aB (f2 cJ (aA 1) (aA 2)) aE)))
  (aV (aW 6 (aI (aH a8 (aB (aA 0) (aB (aA 5) (aB (fC (.int 31)) aE))))))
 (aV (aW 7 (aI (f2 dX (aA 6) (fC (.int 13)))))
 (aV (aW 8 (aI (aY (f2 dIx (f2 dIx (aA 4) (dP (fC (.int 1)))) (fC (.int 0))))))
 (fIf (aU (eK (fB (f2 dLt (aA 7) (fC (.int 4)))) (fB (f2 dLe (aH cW (aB (aA 4) aE)) (aA 3)))))
  (aV (aW 9 (aI (f2 dIx (cV (fKs [.str "group",.str "group",.str "hang",.str "either"])) (aA 7))))
 (cN (dA 4 bI (aB (cV (aB (aY (aA 9)) (aB (f2 dIx (cV (aB (fC (.int 1)) (aB (fC (.int 2)) (aB (fC (.int 4)) (aB (f2 dX (f2 gI (aA 6) (fC (.int 13))) (fC (.int 13))) aE))))) (f2 dX (f2 gI (aA 6) (fC (.int 169))) (fC (.int 4)))) (aB (cV aE) (aB (cV aE) aE))))) aE) dD)))
  (fIf (aU (eK (fB (f2 dEq (aA 7) (fC (.int 4)))) (fB (f2 dGt (aH cW (aB (aA 4) aE)) (fC (.int 1))))))
  (cN (fIO [.io 4] n9))
  (fIf (aU (eK (fB (f2 dLt (aA 7) (fC (.int 7)))) (eK (fB (f2 dEq (aA 8) (fC (.str "either")))) (fB (f2 dLt (aH cW (aB (f2 dIx (f2 dIx (aA 4) (dP (fC (.int 1)))) (fC (.int 2))) aE)) (fC (.int 3)))))))
  (aV (cN (dA 4 (fM 4 (fM 4 bI (dP (fC (.int 1)))) (fC (.int 2))) (aB (aH gY (aB (f2 dIx (f2 dIx (aA 4) (dP (fC (.int 1)))) (fC (.int 3))) aE)) aE) dD))
 (dE 4 (fM 4 bI (dP (fC (.int 1)))) (fC (.int 3)) (cV aE)))
  (cN (dA 4 (fM 4 (fM 4 bI (dP (fC (.int 1)))) (fC (.int 3))) (aB (aH rh (aB (aH a8 (aB (aA 0) (aB (aA 5) (aB (fC (.int 32)) aE)))) aE)) aE) dD)))))))))
 (aV (lU (aU (fB (f2 dGt (aH cW (aB (aA 4) aE)) (fC (.int 1)))))
  (cN (fIO [.io 4] n9)) 400)
 (bS (aI (aH gY (aB (f2 dIx (f2 dIx (aA 4) (fC (.int 0))) (fC (.int 3))) aE)))))))
abbrev yL:Stmt:=top 44
abbrev uQ:List Str:=["_law_script","_law_at","_law_many","_law_nest"]
theorem lO:FnScope ["_law_script","_law_at","_law_many","_law_nest","_law_frames","_law_k","_law_number","_law_way","_law_kind","_law_new"] uQ (aT yL):=cG
theorem xp8(mj:Dn K mg "_law_row" yL uQ f fd)
  (bu:Dn K mg "_law_mixed" kK iM gi eo) (b8:FnOk P w K mg base CX0 n gi eo iM (SpP 3 K U a8))
  (jp:Dn K mg "_law_shut" vL rN ul tx) (oa:FnOk P w K mg base CX0 n ul tx rN (SpE 1 K U (bC [true]) n9))
  (la:Dn K mg "_law_leaf" vK rL um tz) (rj:FnOk P w K mg base CX0 n um tz rL (SpP 1 K U rh))
  (i9:mg "range"=none)
  (bw:mg "tuple"=none)
  (ac:mg "len"=none):
  FnOk P w K mg base CX0 (n+1) f fd uQ (SpP 4 K U (gP 4 6 (yk3 a8 n9 rh))):=
 cO mj.F lO fun cdv A outer s H E B hr=>
 (aJ (bB 4 lO.nd rfl (.inl rfl) rfl rfl (QP.e (dZ (aP (dZ (aP cD (aP aG (aP (dZ bA) (aP (dZ bA) bA))))) bA))))
 (aJ (qS 5 ZL rfl lO.nd rfl (.inl rfl) rfl rfl (xe0 rfl i9 (aF (aC 1) (aF (QP.v (bG eW (aC 1) (aC 2))) aQ)))
  (aJ (bB 6 lO.nd rfl (.inl rfl) rfl rfl (QP.e (cM bu b8 hr rfl rfl (aF (aC 0) (aF (aC 5) (aF (QP.v aG) aQ))) (aN (aN (aN bF))))))
 (aJ (bB 7 lO.nd rfl (.inl rfl) rfl rfl (QP.e (bG gM (aC 6) (QP.v aG))))
 (aJ (bB 8 lO.nd rfl (.inl rfl) rfl rfl (QP.e (QV.p (aZ (aZ (aC 4) (QP.v (qR (QP.v aG)))) (QP.v aG)))))
 (aL (cB (QT.e (rT (oC (cE (zK (Room.units0 hr)) (aC 7) (QP.v aG) (bR _)) (nS (cE xn5 (QP.v (bY gN rfl ac ZU (aF (aC 4) aQ))) (aC 3) (bR _))))))
  (aJ (bB 9 lO.nd rfl (.inl rfl) rfl rfl (QP.e (sH (dZ (sI (.str (.str (.str (.str .nil)))))) (aC 7))))
 (aL (eM (lL (j:=4) rfl (bM 4) (aP (dZ (aP (QV.p (aC 9)) (aP (sH (dZ (aP aG (aP aG (aP aG (aP (bG gM (QP.v (bG nG (aC 6) (QP.v aG))) (QP.v aG)) bA))))) (QP.v (bG gM (QP.v (bG nG (aC 6) (QP.v aG))) (QP.v aG)))) (aP (dZ bA) (aP (dZ bA) bA))))) bA)))))
  (aL (cB (QT.e (rT (oC (cE (gS (Room.units hr)) (aC 7) (QP.v aG) (bR _)) (nS (cE zq9 (QP.v (bY gN rfl ac ZU (aF (aC 4) aQ))) (QP.v aG) (bR _))))))
  (aL (eM (mJ jp oa hr rfl (jV 4 cS) rfl (eX rfl) (show List.Nodup ([4]:List Nat) by decide) (fun j hj=>by have h:j∈([4]:List Nat):=hj;simp only [Z2,Zm,ZW] at h;rcases h with rfl<;>rfl))))
  (aL (cB (QT.e (rT (oC (cE (zK (Room.units0 hr)) (aC 7) (QP.v aG) (bR _)) (oC (cE (gS (Room.units hr)) (aC 8) (QP.v cD) (bR _)) (nS (cE (zK (Room.units0 hr)) (QP.v (bY gN rfl ac ZU (aF (aZ (aZ (aC 4) (QP.v (qR (QP.v aG)))) (QP.v aG)) aQ))) (QP.v aG) (bR _)))))))
  (aJ (eM (lL (j:=4) rfl (kF (kF (bM 4) (QP.v (qR (QP.v aG)))) (QP.v aG)) (aP (lJ tD rfl bw YS (aF (aZ (aZ (aC 4) (QP.v (qR (QP.v aG)))) (QP.v aG)) aQ)) bA)))
 (aL (uB (j:=4) rfl (dZ bA) (kF (bM 4) (QP.v (qR (QP.v aG)))) (QP.v aG))))
  (aL (eM (lL (j:=4) rfl (kF (kF (bM 4) (QP.v (qR (QP.v aG)))) (QP.v aG)) (aP (cM la rj hr rfl rfl (aF (QP.v (cM bu b8 hr rfl rfl (aF (aC 0) (aF (aC 5) (aF (QP.v aG) aQ))) (aN (aN (aN bF))))) aQ) (aN bF)) bA))))))))))))))
 (aJ (xn8 400 ZL (QT.e (cE zq9 (QP.v (bY gN rfl ac ZU (aF (aC 4) aQ))) (QP.v aG) (bR _)))
  (aL (eM (mJ jp oa hr rfl (jV 4 cS) rfl (eX rfl) (show List.Nodup ([4]:List Nat) by decide) (fun j hj=>by have h:j∈([4]:List Nat):=hj;simp only [Z2,Zm,ZW] at h;rcases h with rfl<;>rfl)))))
 (aL (bL (QP.e (lJ tD rfl bw YS (aF (aZ (aZ (aC 4) (QP.v aG)) (QP.v aG)) aQ))))))))
def vM(a8:(tz6))(nj:(tz6)):tz1:=
 (aV (aW 4 (aI (aH a8 (aB (aA 0) (aB (f2 cJ (f2 dIx (aA 1) (fC (.int 2))) (fC (.int 40))) (aB (aA 2) aE))))))
 (aV (fIf (aU (fB (f2 dEq (aA 2) (fC (.int 1)))))
  (aV (aW 5 (aI (f2 dIx (cV (fKs [.int 1,.int 12,.int 144,.int 1728,.int 20736,.int 248832,.int 2985984,.int 35831808])) (f2 dX (f2 dIx (aA 1) (fC (.int 2))) (fC (.int 8))))))
 (aW 4 (aI (f2 gI (aH nj (aB (aA 0) (aB (f2 cJ (fC (.int 40)) (f2 gI (f2 dIx (aA 1) (fC (.int 2))) (fC (.int 8)))) aE))) (aA 5)))))
  bN)
 (aV (dE 1 bI (fC (.int 2)) (f2 cJ (f2 dIx (aA 1) (fC (.int 2))) (fC (.int 1))))
 (aV (cN (dA 1 (fM 1 bI (fC (.int 1))) (aB (f2 dX (aA 4) (aA 3)) aE) dD))
 (bS (aI (f2 dX (aA 4) (aA 3))))))))
abbrev vN:Stmt:=top 45
abbrev rO:List Str:=["_law_script","_law_state","_law_salt","_law_many"]
theorem qV:FnScope ["_law_script","_law_state","_law_salt","_law_many","_law_number","_law_share"] rO (aT vN):=cG
theorem xg9(jq:Dn K mg "_law_next" vN rO f fd)
  (bu:Dn K mg "_law_mixed" kK iM gi eo) (b8:FnOk P w K mg base CX0 n gi eo iM (SpP 3 K U a8))
  (ez:Dn K mg "_law_cell_at" lV uM qm o9) (je:FnOk P w K mg base CX0 n qm o9 uM (SpP 2 K U nj)):
  FnOk P w K mg base CX0 (n+1) f fd rO (SpE 4 K U (bC [false,true,false,false]) (gE 4 2 (bC [false,true,false,false]) (vM a8 nj))):=
 jN jq.F qV (fun i hi=>fF hi) fun cdv A outer s H E hr=>
 (aJ (bB 4 qV.nd rfl (.inl rfl) rfl rfl (QP.e (cM bu b8 hr rfl rfl (aF (aC 0) (aF (QP.v (bG eW (aZ (aC 1) (QP.v aG)) (QP.v aG))) (aF (aC 2) aQ))) (aN (aN (aN bF))))))
 (aJ (cB (QT.e (cE (gS (Room.units hr)) (aC 2) (QP.v aG) (bR _)))
  (aJ (bB 5 qV.nd rfl (.inl rfl) rfl rfl (QP.e (sH (dZ (sI (.int (.int (.int (.int (.int (.int (.int (.int .nil)))))))))) (QP.v (bG gM (aZ (aC 1) (QP.v aG)) (QP.v aG))))))
 (aL (bB 4 qV.nd rfl (.inl rfl) rfl rfl (QP.e (bG nG (QP.v (cM ez je hr rfl rfl (aF (aC 0) (aF (QP.v (bG eW (QP.v aG) (QP.v (bG nG (aZ (aC 1) (QP.v aG)) (QP.v aG))))) aQ)) (aN (aN bF)))) (aC 5))))))
  bU)
 (aJ (uB (j:=1) rfl (bG eW (aZ (aC 1) (QP.v aG)) (QP.v aG)) (bM 1) (QP.v aG))
 (aJ (eM (lL (j:=1) rfl (kF (bM 1) (QP.v aG)) (aP (bG gM (aC 4) (aC 3)) bA)))
 (aL (bL (QP.e (bG gM (aC 4) (aC 3)))))))))
def zb6:tz1:=
 (dE 0 bI (fC (.int 0)) (f2 cJ (f2 cJ (f2 dIx (aA 0) (fC (.int 0))) (fC (.str "\n"))) (f2 iL (fC (.str " ")) (aA 1))))
abbrev rP:Stmt:=top 46
abbrev lZ:List Str:=["_law_state","_law_blanks"]
theorem zx3:FnScope ["_law_state","_law_blanks"] lZ (aT rP):=cG
theorem xh0(gv:Dn K mg "_law_line" rP lZ f fd)
     :
  FnOk P w K mg base CX0 (n+1) f fd lZ (SpE 2 K U (bC [true,false]) (gE 2 0 (bC [true,false]) (zb6))):=
 jN gv.F zx3 (fun i hi=>fF hi) fun cdv A outer s H E hr=>
 (aL (uB (j:=0) rfl (bG eW (QP.v (bG eW (aZ (aC 0) (QP.v aG)) (QP.v cD))) (QP.v (bG uX (QP.v cD) (aC 1)))) (bM 0) (QP.v aG)))
def wD:tz1:=
 (bS (aI (f2 lB (f2 lB (aH cW (aB (f2 dIx (aA 0) (fC (.int 0))) aE)) (fC (.int 1))) (fMt zo5 (f2 dIx (aA 0) (fC (.int 0))) (aB (fC (.str "\n")) aE)))))
abbrev qJ:Stmt:=top 47
abbrev nC:List Str:=["_law_state"]
theorem zg1:FnScope ["_law_state"] nC (aT qJ):=cG
theorem ym8(gw:Dn K mg "_law_column" qJ nC f fd)
  (ac:mg "len"=none):
  FnOk P w K mg base CX0 (n+1) f fd nC (SpP 1 K U (gP 1 0 (wD))):=
 cO gw.F zg1 fun cdv A outer s H E B hr=>
 (aL (bL (QP.e (bG qC (QP.v (bG qC (QP.v (bY gN rfl ac ZU (aF (aZ (aC 0) (QP.v aG)) aQ))) (QP.v aG))) (QP.v (zc8 PySem.F.slot_str_rfind PySem.F.type_str_rfind xz6 (aZ (aC 0) (QP.v aG)) (aF (QP.v cD) aQ)))))))
def vO(ma:(tz6))(jr:(tz7)):tz1:=
 (aV (fIf (aU (fB (f2 dGt (aH ma (aB (aA 0) aE)) (aA 2))))
  (aV (fIf (aU (fT (aA 1)))
  (bS (aI (fC (.bl false))))
  bN)
 (cN (fIO [.io 0,.im (fC (.int 0))] jr)))
  bN)
 (aV (dE 0 bI (fC (.int 0)) (f2 cJ (f2 dIx (aA 0) (fC (.int 0))) (f2 iL (fC (.str " ")) (f2 lB (aA 2) (aH ma (aB (aA 0) aE))))))
 (bS (aI (fC (.bl true))))))
abbrev vP:Stmt:=top 48
abbrev rQ:List Str:=["_law_state","_law_flat","_law_column_here"]
theorem zx4:FnScope ["_law_state","_law_flat","_law_column_here"] rQ (aT vP):=cG
theorem xh1(lb:Dn K mg "_law_stop" vP rQ f fd)
  (gw:Dn K mg "_law_column" qJ nC sd qo) (me:FnOk P w K mg base CX0 n sd qo nC (SpP 1 K U ma))
  (gv:Dn K mg "_law_line" rP lZ og m9) (lc:FnOk P w K mg base CX0 n og m9 lZ (SpE 2 K U (bC [true,false]) jr)):
  FnOk P w K mg base CX0 (n+1) f fd rQ (SpE 3 K U (bC [true,false,false]) (gE 3 0 (bC [true,false,false]) (vO ma jr))):=
 jN lb.F zx4 (fun i hi=>fF hi) fun cdv A outer s H E hr=>
 (aJ (cB (QT.e (cE zq9 (QP.v (cM gw me hr rfl rfl (aF (aC 0) aQ) (aN bF))) (aC 2) (bR _)))
  (aJ (cB (QT.e (eQ (aC 1)))
  (aL (bL (QP.e jA)))
  bU)
 (aL (eM (mJ gv lc hr rfl (jV 0 (bE (QP.v aG) cS)) rfl (eX rfl) (show List.Nodup ([0]:List Nat) by decide) (fun j hj=>by have h:j∈([0]:List Nat):=hj;simp only [Z2,Zm,ZW] at h;rcases h with rfl<;>rfl)))))
  bU)
 (aJ (uB (j:=0) rfl (bG eW (aZ (aC 0) (QP.v aG)) (QP.v (bG uX (QP.v cD) (QP.v (bG qC (aC 2) (QP.v (cM gw me hr rfl rfl (aF (aC 0) aQ) (aN bF)))))))) (bM 0) (QP.v aG))
 (aL (bL (QP.e jA)))))
def nJ(rk:(tz7))(jr:(tz7)):tz1:=
 (aV (fIf (aU (fB (f2 dEq (f2 dIx (aA 0) (fC (.int 0))) (fC (.str "stop")))))
  (bS (fIO [.io 3,.im (aA 1),.im (f2 dIx (aA 0) (fC (.int 1)))] rk))
  bN)
 (aV (fIf (aU (rW (fB (f2 dEq (f2 dIx (aA 0) (fC (.int 0))) (fC (.str "word")))) (eK (fB (f2 dEq (f2 dIx (aA 0) (fC (.int 0))) (fC (.str "gap")))) (fT (aA 1)))))
  (dE 3 bI (fC (.int 0)) (f2 cJ (f2 dIx (aA 3) (fC (.int 0))) (f2 dIx (aA 0) (fC (.int 1)))))
  (fIf (aU (fT (aA 1)))
  (bS (aI (fC (.bl false))))
  (cN (fIO [.io 3,.im (aA 2)] jr))))
 (bS (aI (fC (.bl true))))))
abbrev nK:Stmt:=top 49
abbrev kR:List Str:=["_law_piece","_law_flat","_law_hang","_law_state"]
theorem yZ:FnScope ["_law_piece","_law_flat","_law_hang","_law_state"] kR (aT nK):=cG
theorem ya1(f9:Dn K mg "_law_leaf_set" nK kR f fd)
  (lb:Dn K mg "_law_stop" vP rQ uo t4) (rl:FnOk P w K mg base CX0 n uo t4 rQ (SpE 3 K U (bC [true,false,false]) rk))
  (gv:Dn K mg "_law_line" rP lZ og m9) (lc:FnOk P w K mg base CX0 n og m9 lZ (SpE 2 K U (bC [true,false]) jr)):
  FnOk P w K mg base CX0 (n+1) f fd kR (SpE 4 K U (bC [false,false,false,true]) (gE 4 0 (bC [false,false,false,true]) (nJ rk jr))):=
 jN f9.F yZ (fun i hi=>fF hi) fun cdv A outer s H E hr=>
 (aJ (cB (QT.e (cE (gS (Room.units hr)) (aZ (aC 0) (QP.v aG)) (QP.v cD) (bR _)))
  (aL (bL (mJ lb rl hr rfl (jV 3 (bE (aC 1) (bE (aZ (aC 0) (QP.v aG)) cS))) rfl (eX rfl) (show List.Nodup ([3]:List Nat) by decide) (fun j hj=>by have h:j∈([3]:List Nat):=hj;simp only [Z2,Zm,ZW] at h;rcases h with rfl<;>rfl))))
  bU)
 (aJ (cB (QT.e (rT (zk1 (cE (gS (Room.units hr)) (aZ (aC 0) (QP.v aG)) (QP.v cD) (bR _)) (zk0 (rT (oC (cE (gS (Room.units hr)) (aZ (aC 0) (QP.v aG)) (QP.v cD) (bR _)) (nS (eQ (aC 1)))))))))
  (aL (uB (j:=3) rfl (bG eW (aZ (aC 3) (QP.v aG)) (aZ (aC 0) (QP.v aG))) (bM 3) (QP.v aG)))
  (aL (cB (QT.e (eQ (aC 1)))
  (aL (bL (QP.e jA)))
  (aL (eM (mJ gv lc hr rfl (jV 3 (bE (aC 2) cS)) rfl (eX rfl) (show List.Nodup ([3]:List Nat) by decide) (fun j hj=>by have h:j∈([3]:List Nat):=hj;simp only [Z2,Zm,ZW] at h;rcases h with rfl<;>rfl)))))))
 (aL (bL (QP.e jA)))))
def yM(oh:(tz7))(g8:(tz7))(mo:(tz7)):tz1:=
 (aV (fV 6 (cP (aA 1))
  (aV (aW 7 (aI (fC (.bl true))))
 (aV (fIf (aU (fB (f2 dEq (f2 dIx (aA 6) (fC (.int 0))) (fC (.str "group")))))
  (aV (aW 8 (aI (aY (aA 2))))
 (aV (fIf (aU (eK (fA (fT (aA 2))) (fB (f2 dGt (aA 5) (fC (.int 0))))))
  (aW 8 (fE2 dEq (fIO [.im (aA 0),.io 4,.im (aA 5),.im (fC (.int 2))] oh) (fC (.int 0))))
  (fIf (aU (fA (fT (aA 2))))
  (cN (dA 4 (fM 4 bI (fC (.int 1))) (aB (fC (.int 1)) aE) dD))
  bN))
 (aW 7 (fIO [.im (aA 0),.im (f2 dIx (aA 6) (fC (.int 1))),.im (aA 8),.im (aA 3),.io 4,.im (aA 5)] g8))))
  (fIf (aU (fB (f2 dEq (f2 dIx (aA 6) (fC (.int 0))) (fC (.str "hang")))))
  (aW 7 (fIO [.im (aA 0),.im (f2 dIx (aA 6) (fC (.int 2))),.im (aA 2),.im (f2 cJ (aA 3) (f2 dIx (aA 6) (fC (.int 1)))),.io 4,.im (aA 5)] g8))
  (fIf (aU (fB (f2 dEq (f2 dIx (aA 6) (fC (.int 0))) (fC (.str "either")))))
  (aV (aW 9 (fIO [.im (aA 0),.io 4,.im (f2 cJ (aA 5) (f2 iL (fC (.int 9)) (aH nH (aB (f2 dEq (aA 5) (fC (.int 0))) aE)))),.im (aH cW (aB (f2 dIx (aA 6) (fC (.int 1))) aE))] oh))
 (aW 7 (fIO [.im (aA 0),.im (f2 dIx (f2 dIx (aA 6) (fC (.int 1))) (aA 9)),.im (aA 2),.im (aA 3),.io 4,.im (aA 5)] g8)))
  (aW 7 (fIO [.im (aA 6),.im (aA 2),.im (aA 3),.io 4] mo)))))
 (fIf (aU (fA (fT (aA 7))))
  (bS (aI (fC (.bl false))))
  bN))))
 (bS (aI (fC (.bl true)))))
abbrev yN:Stmt:=top 50
abbrev pU:List Str:=["_law_script","_law_row_here","_law_flat","_law_hang","_law_state","_law_salt"]
theorem iT:FnScope ["_law_script","_law_row_here","_law_flat","_law_hang","_law_state","_law_salt","_law_piece","_law_good","_law_inner","_law_at"] pU (aT yN):=cG
theorem xp9(g9:Dn K mg "_law_set" yN pU f fd)
  (jq:Dn K mg "_law_next" vN rO uq t5) (oj:FnOk P w K mg base CX0 n uq t5 rO (SpE 4 K U (bC [false,true,false,false]) oh))
  (jx:FnOk P w K mg base CX0 n f fd pU (SpE 6 K U (bC [false,false,false,false,true,false]) g8))
  (f9:Dn K mg "_law_leaf_set" nK kR pb ox) (mq:FnOk P w K mg base CX0 n pb ox kR (SpE 4 K U (bC [false,false,false,true]) mo))
  (ac:mg "len"=none)
  (qg:mg "int"=none):
  FnOk P w K mg base CX0 (n+1) f fd pU (SpE 6 K U (bC [false,false,false,false,true,false]) (gE 6 4 (bC [false,false,false,false,true,false]) (yM oh g8 mo))):=
 jN g9.F iT (fun i hi=>fF hi) fun cdv A outer s H E hr=>
 (aJ (zc9 6 1 ZL rfl iT.nd rfl (.inl rfl) rfl rfl rfl
  (aJ (bB 7 iT.nd rfl (.inl rfl) rfl rfl (QP.e jA))
 (aJ (cB (QT.e (cE (gS (Room.units hr)) (aZ (aC 6) (QP.v aG)) (QP.v cD) (bR _)))
  (aJ (bB 8 iT.nd rfl (.inl rfl) rfl rfl (QP.e (QV.p (aC 2))))
 (aJ (cB (QT.e (rT (oC (jU (eQ (aC 2))) (nS (cE zq9 (aC 5) (QP.v aG) (bR _))))))
  (aL (bB 8 iT.nd rfl (.inl rfl) rfl rfl (wh7 (gS (Room.units hr)) (mJ jq oj hr rfl (bE (aC 0) (jV 4 (bE (aC 5) (bE (QP.v aG) cS)))) rfl (eX rfl) (show List.Nodup ([4]:List Nat) by decide) (fun j hj=>by have h:j∈([4]:List Nat):=hj;simp only [Z2,Zm,ZW] at h;rcases h with rfl<;>rfl)) (QP.v aG) (bR _))))
  (aL (cB (QT.e (jU (eQ (aC 2))))
  (aL (eM (lL (j:=4) rfl (kF (bM 4) (QP.v aG)) (aP aG bA))))
  bU)))
 (aL (bB 7 iT.nd rfl (.inl rfl) rfl rfl (mJ g9 jx hr rfl (bE (aC 0) (bE (aZ (aC 6) (QP.v aG)) (bE (aC 8) (bE (aC 3) (jV 4 (bE (aC 5) cS)))))) rfl (eX rfl) (show List.Nodup ([4]:List Nat) by decide) (fun j hj=>by have h:j∈([4]:List Nat):=hj;simp only [Z2,Zm,ZW] at h;rcases h with rfl<;>rfl))))))
  (aL (cB (QT.e (cE (gS (Room.units hr)) (aZ (aC 6) (QP.v aG)) (QP.v cD) (bR _)))
  (aL (bB 7 iT.nd rfl (.inl rfl) rfl rfl (mJ g9 jx hr rfl (bE (aC 0) (bE (aZ (aC 6) (QP.v aG)) (bE (aC 2) (bE (QP.v (bG eW (aC 3) (aZ (aC 6) (QP.v aG)))) (jV 4 (bE (aC 5) cS)))))) rfl (eX rfl) (show List.Nodup ([4]:List Nat) by decide) (fun j hj=>by have h:j∈([4]:List Nat):=hj;simp only [Z2,Zm,ZW] at h;rcases h with rfl<;>rfl))))
  (aL (cB (QT.e (cE (gS (Room.units hr)) (aZ (aC 6) (QP.v aG)) (QP.v cD) (bR _)))
  (aJ (bB 9 iT.nd rfl (.inl rfl) rfl rfl (mJ jq oj hr rfl (bE (aC 0) (jV 4 (bE (QP.v (bG eW (aC 5) (QP.v (bG uX (QP.v aG) (QP.v (lJ wo4 rfl qg boot_int (aF (QP.v (qQ (gS (Room.units hr)) (aC 5) (QP.v aG) (bR _))) aQ))))))) (bE (QP.v (bY gN rfl ac ZU (aF (aZ (aC 6) (QP.v aG)) aQ))) cS)))) rfl (eX rfl) (show List.Nodup ([4]:List Nat) by decide) (fun j hj=>by have h:j∈([4]:List Nat):=hj;simp only [Z2,Zm,ZW] at h;rcases h with rfl<;>rfl)))
 (aL (bB 7 iT.nd rfl (.inl rfl) rfl rfl (mJ g9 jx hr rfl (bE (aC 0) (bE (aZ (aZ (aC 6) (QP.v aG)) (aC 9)) (bE (aC 2) (bE (aC 3) (jV 4 (bE (aC 5) cS)))))) rfl (eX rfl) (show List.Nodup ([4]:List Nat) by decide) (fun j hj=>by have h:j∈([4]:List Nat):=hj;simp only [Z2,Zm,ZW] at h;rcases h with rfl<;>rfl)))))
  (aL (bB 7 iT.nd rfl (.inl rfl) rfl rfl (mJ f9 mq hr rfl (bE (aC 6) (bE (aC 2) (bE (aC 3) (jV 4 cS)))) rfl (eX rfl) (show List.Nodup ([4]:List Nat) by decide) (fun j hj=>by have h:j∈([4]:List Nat):=hj;simp only [Z2,Zm,ZW] at h;rcases h with rfl<;>rfl)))))))))
 (aL (cB (QT.e (jU (eQ (aC 7))))
  (aL (bL (QP.e jA)))
  bU)))))
 (aL (bL (QP.e jA))))
def zo9(g8:(tz7)):tz1:=
 (aV (aW 3 (aI (cV (aB (fC (.str "")) (aB (cV aE) (aB (fC (.int 0)) aE))))))
 (aV (fIf (fTE (fIO [.im (aA 0),.im (aA 1),.im (fC (.bl false)),.im (fC (.int 0)),.io 3,.im (aA 2)] g8))
  (bS (aI (cK (aB (aY (f2 dIx (aA 3) (fC (.int 0)))) (aB (aH gY (aB (f2 dIx (aA 3) (fC (.int 1))) aE)) aE)))))
  bN)
 (aV (aW 3 (aI (cV (aB (fC (.str "")) (aB (cV aE) (aB (fC (.int 0)) aE))))))
 (aV (cN (fIO [.im (aA 0),.im (aA 1),.im (fC (.bl false)),.im (fC (.int 0)),.io 3,.im (fC (.int 0))] g8))
 (bS (aI (cK (aB (aY (f2 dIx (aA 3) (fC (.int 0)))) (aB (aH gY (aB (f2 dIx (aA 3) (fC (.int 1))) aE)) aE)))))))))
abbrev sR:Stmt:=top 51
abbrev pC:List Str:=["_law_script","_law_row_here","_law_salt"]
theorem sK:FnScope ["_law_script","_law_row_here","_law_salt","_law_state"] pC (aT sR):=cG
theorem yw4(jy:Dn K mg "_law_drawn" sR pC f fd)
  (g9:Dn K mg "_law_set" yN pU vd ur) (jx:FnOk P w K mg base CX0 n vd ur pU (SpE 6 K U (bC [false,false,false,false,true,false]) g8))
  (bw:mg "tuple"=none):
  FnOk P w K mg base CX0 (n+1) f fd pC (SpP 3 K U (gP 3 1 (zo9 g8))):=
 cO jy.F sK fun cdv A outer s H E B hr=>
 (aJ (bB 3 sK.nd rfl (.inl rfl) rfl rfl (QP.e (dZ (aP cD (aP (dZ bA) (aP aG bA))))))
 (aJ (cB (xz7 (mJ g9 jx hr rfl (bE (aC 0) (bE (aC 1) (bE (QP.v jA) (bE (QP.v aG) (jV 3 (bE (aC 2) cS)))))) rfl (eX rfl) (show List.Nodup ([3]:List Nat) by decide) (fun j hj=>by have h:j∈([3]:List Nat):=hj;simp only [Z2,Zm,ZW] at h;rcases h with rfl<;>rfl)))
  (aL (bL (QP.e (dJ (aP (QV.p (aZ (aC 3) (QP.v aG))) (aP (lJ tD rfl bw YS (aF (aZ (aC 3) (QP.v aG)) aQ)) bA))))))
  bU)
 (aJ (bB 3 sK.nd rfl (.inl rfl) rfl rfl (QP.e (dZ (aP cD (aP (dZ bA) (aP aG bA))))))
 (aJ (eM (mJ g9 jx hr rfl (bE (aC 0) (bE (aC 1) (bE (QP.v jA) (bE (QP.v aG) (jV 3 (bE (QP.v aG) cS)))))) rfl (eX rfl) (show List.Nodup ([3]:List Nat) by decide) (fun j hj=>by have h:j∈([3]:List Nat):=hj;simp only [Z2,Zm,ZW] at h;rcases h with rfl<;>rfl)))
 (aL (bL (QP.e (dJ (aP (QV.p (aZ (aC 3) (QP.v aG))) (aP (lJ tD rfl bw YS (aF (aZ (aC 3) (QP.v aG)) aQ)) bA))))))))))
def zg3:tz1:=
 (aV (fV 2 (qF (aB (aH mP (aB (aH cW (aB (aA 0) aE)) (aB (aH cW (aB (aA 1) aE)) aE))) aE))
  (fIf (aU (fB (f2 dNe (f2 dIx (aA 0) (aA 2)) (f2 dIx (aA 1) (aA 2)))))
  (bS (aI (f2 dGt (f2 dIx (aA 0) (aA 2)) (f2 dIx (aA 1) (aA 2)))))
  bN))
 (bS (aI (fC (.bl false)))))
abbrev qK:Stmt:=top 53
abbrev nD:List Str:=["_law_one","_law_other"]
theorem vW:FnScope ["_law_one","_law_other","_law_k"] nD (aT qK):=cG
theorem ym9(gx:Dn K mg "_law_behind" qK nD f fd)
  (i9:mg "range"=none)
  (iu:mg "min"=none)
  (ac:mg "len"=none):
  FnOk P w K mg base CX0 (n+1) f fd nD (SpP 2 K U (gP 2 1 (zg3))):=
 cO gx.F vW fun cdv A outer s H E B hr=>
 (aJ (qS 2 ZL rfl vW.nd rfl (.inl rfl) rfl rfl (zv7 rfl i9 (aF (QP.v (bY (ye4 rfl) rfl iu boot_min (aF (QP.v (bY gN rfl ac ZU (aF (aC 0) aQ))) (aF (QP.v (bY gN rfl ac ZU (aF (aC 1) aQ))) aQ)))) aQ))
  (aL (cB (QT.e (cE (xn6 (Room.units hr)) (aZ (aC 0) (aC 2)) (aZ (aC 1) (aC 2)) (bR _)))
  (aL (bL (QP.e (qQ zq9 (aZ (aC 0) (aC 2)) (aZ (aC 1) (aC 2)) (bR _)))))
  bU)))
 (aL (bL (QP.e jA))))
def zp0(a8:(tz6)):tz1:=
 (aV (aW 2 (aI (aH a8 (aB (aA 0) (aB (fC (.int 1)) (aB (fC (.int 50)) aE))))))
 (aV (aW 3 (aI (aH ze5 (aB (iD [none] (cP (fMt mZ (aA 1) (aB (fC (.str "\n")) aE))) iG (aH cW (aB (aA 0) aE))) aE))))
 (aV (aW 4 (aI (f2 dIx (cV (aB (aY (aA 3)) (aB (f2 cJ (aA 3) (f2 dX (f2 gI (aA 2) (fC (.int 4))) (fC (.int 4)))) (aB (f2 cJ (fC (.int 8)) (f2 dX (f2 gI (aA 2) (fC (.int 4))) (fC (.int 20)))) (aB (f2 cJ (fC (.int 1)) (f2 dX (f2 gI (aA 2) (fC (.int 4))) (fC (.int 40)))) aE))))) (f2 dX (aA 2) (fC (.int 4))))))
 (bS (aI (aH mP (aB (fC (.int 40)) (aB (aH qE (aB (fC (.int 1)) (aB (aA 4) aE))) aE))))))))
abbrev pD:Stmt:=top 54
abbrev pE:List Str:=["_law_script","_law_text"]
theorem oF:FnScope ["_law_script","_law_text","_law_number","_law_longest","_law_width_here"] pE (aT pD):=cG
theorem yw5(jz:Dn K mg "_law_width" pD pE f fd)
  (bu:Dn K mg "_law_mixed" kK iM gi eo) (b8:FnOk P w K mg base CX0 n gi eo iM (SpP 3 K U a8))
  (j8:mg "max"=none)
  (iu:mg "min"=none)
  (ac:mg "len"=none):
  FnOk P w K mg base CX0 (n+1) f fd pE (SpP 2 K U (gP 2 3 (zp0 a8))):=
 cO jz.F oF fun cdv A outer s H E B hr=>
 (aJ (bB 2 oF.nd rfl (by first|exact Or.inl rfl|exact Or.inr rfl) rfl rfl (QP.e (cM bu b8 hr rfl rfl (aF (aC 0) (aF (QP.v aG) (aF (QP.v aG) aQ))) (aN (aN (aN bF))))))
 (aJ (bB 3 oF.nd rfl (by first|exact Or.inl rfl|exact Or.inr rfl) rfl rfl (QP.e (bY (xg1 rfl) rfl j8 boot_max (aF (QP.v (tG (sc:=aT pD) (NX:=["_law_script","_law_text","_law_number","_law_longest","_law_width_here"]) (N:=["_law_line_here"]) (pick:=[none]) ⟨rfl,by decide+kernel,by decide+kernel,by decide+kernel,by decide+kernel,by decide,rfl⟩ rfl rfl rfl (wL (QP.v (zc8 X0 X1 zr0 (aC 1) (aF (QP.v cD) aQ)))) (fun _ _ _ _=>(iA (i:=0) (show(["_law_line_here"]:List Str).Nodup by decide) rfl (by first|exact Or.inl rfl|exact Or.inr rfl))) (fun _ _ _ _=>tF) (fun _ _ _ _=>(bY gN rfl ac ZU (aF (aC 0) aQ))))) aQ))))
 (aJ (bB 4 oF.nd rfl (by first|exact Or.inl rfl|exact Or.inr rfl) rfl rfl (QP.e (sH (dZ (aP (QV.p (aC 3)) (aP (bG eW (aC 3) (QP.v (bG gM (QP.v (bG nG (aC 2) (QP.v aG))) (QP.v aG)))) (aP (bG eW (QP.v aG) (QP.v (bG gM (QP.v (bG nG (aC 2) (QP.v aG))) (QP.v aG)))) (aP (bG eW (QP.v aG) (QP.v (bG gM (QP.v (bG nG (aC 2) (QP.v aG))) (QP.v aG)))) bA))))) (QP.v (bG gM (aC 2) (QP.v aG))))))
 (aL (bL (QP.e (bY (ye4 rfl) rfl iu boot_min (aF (QP.v aG) (aF (QP.v (bY (xd9 rfl) rfl j8 boot_max (aF (QP.v aG) (aF (aC 4) aQ)))) aQ)))))))))
def vQ(pd:(tz6)):tz1:=
 (aV (fIf (aU (fA (fT (aH mU (aB (aA 0) (aB (fC (.ty "tuple")) aE))))))
  (bS (aI (fC (.bl false))))
  bN)
 (aV (fV 1 (cP (aA 0))
  (fIf (aU (fA (fT (aH pd (aB (aA 1) aE)))))
  (bS (aI (fC (.bl false))))
  bN))
 (bS (aI (fC (.bl true))))))
abbrev lH:Stmt:=top 55
abbrev jJ:List Str:=["_law_found"]
theorem oG:FnScope ["_law_found","_law_one"] jJ (aT lH):=cG
theorem zl8(dq:Dn K mg "_law_is_choices" lH jJ f fd)
  (jw:Dn K mg "_law_whole" sQ pB t6 sf) (pe:FnOk P w K mg base CX0 n t6 sf pB (SpP 1 K U pd))
  (ak:mg "isinstance"=none)
  (bw:mg "tuple"=none):
  FnOk P w K mg base CX0 (n+1) f fd jJ (SpP 1 K U (gP 1 1 (vQ pd))):=
 cO dq.F oG fun cdv A outer s H E B hr=>
 (aJ (cB (QT.e (jU (eQ (QP.v (bY zk4 rfl ak X3 (aF (aC 0) (aF (QP.v (zj9 rfl bw YS)) aQ)))))))
  (aL (bL (QP.e jA)))
  bU)
 (aJ (zc9 1 0 ZL rfl oG.nd rfl (.inl rfl) rfl rfl rfl
  (aL (cB (QT.e (jU (eQ (QP.v (cM jw pe hr rfl rfl (aF (aC 1) aQ) (aN bF))))))
  (aL (bL (QP.e jA)))
  bU)))
 (aL (bL (QP.e jA)))))
def zb7(mw:(List D->Bool)):tz1:=
 (aV (aW 2 (aI (fC .non)))
 (xu3 mw (aB (aA 0) (aB (aA 1) aE))))
abbrev pF:Stmt:=top 56
abbrev mB:List Str:=["_law_row_here","_law_width_here"]
theorem oH:FnScope ["_law_row_here","_law_width_here","_law_bad","e"] mB (aT pF):=cG
theorem yg5(ic:Dn K mg "_law_refused" pF mB f fd)
  (bg:Dn K mg "pressed" kA fX lq kl) (mx:FnOk P w K mg base (CXn P w base ae) n lq kl fX (za9 2 K U ae mw))
  (nk:OwnCls "LineError" jf bmV "ValueError.__new__" mg base)
  (gq:OwnCls "NoRoom" ae bmV "ValueError.__new__" mg base)
  (ij:PySem.W.mroIn K ae (.ref jf)=some true)
  (ly:KExc K ae)
  (ol:mg "NoChoice"=some (.ref mf))
  (ph:mg "NoPiece"=some (.ref na))
  (dg:PySem.W.kitAny K (.ref ae) [.ref mf,.ref na]=some false)
  (jt:PySem.W.kitOne K (.ref ae) (.ref ae)=some true)
  (gy:PySem.W.kitOne K (.ref ae) (.type "ValueError")=some true)
  (ak:mg "isinstance"=none)
  (my:mg "ValueError"=none):
  FnOk P w K mg base CX0 (n+1) f fd mB (SpP 2 K U (gP 2 2 (zb7 mw))):=
 cO ic.F oH fun cdv A outer s H E B hr=>
 (aJ (bB 2 oH.nd rfl (.inl rfl) rfl rfl (QP.e oA))
 (xp1 bg mx gq nk ij rfl rfl hr rfl rfl rfl (aF (aC 0) (aF (aC 1) aQ)) (aN (aN bF)) rfl rfl oH.nd rfl rfl (by decide) rfl rfl (i:=3) (j:=2) (fun ea oe hc=>(xg2 (yp6 zs2 hc ly rfl ak rfl (Or.inl rfl) (zc3 (v:= .ref ae) rfl gq.bound rfl) (fun u h=>by cases h;exact jt)) (yp6 zs2 hc ly rfl ak rfl (Or.inl rfl) (yn2 rfl my rfl (v:= .ty "ValueError") rfl) (fun u h=>by cases h;exact gy)) (xp2 zs2 hc ly rfl ak rfl (Or.inl rfl) (zc3 (v:= .ref mf) rfl ol rfl) (zc3 (v:= .ref na) rfl ph rfl) (fun us h=>by cases h with|cons h1 h2=>cases h2 with|cons h3 h4=>cases h4;cases h1;cases h3;exact dg))))))
def zp1(pj:(tz6))(no:(tz6))(mh:(tz6))(nq:(tz6))(lg:(tz6))(gs:(tz6)):tz1:=
 (aV (aW 2 (aI (aH pj (aB (aA 0) (aB (aA 1) aE)))))
 (aV (fIf (aU (fB (f2 dEq (aA 2) (cV aE))))
  (bS (aI (aH no (aB (aA 0) (aB (aA 1) aE)))))
  bN)
 (aV (aW 3 (aI (aY (f2 dIx (aA 2) (fC (.int 0))))))
 (aV (fV 4 (cP (fSl (aA 2) (jP (fC (.int 1))) gB))
  (fIf (aU (fB (f2 dNe (cK (aB (aY (f2 dIx (aA 4) (fC (.int 1)))) (aB (aY (f2 dIx (aA 4) (fC (.int 2)))) aE))) (cK (aB (aY (f2 dIx (aA 3) (fC (.int 1)))) (aB (aY (f2 dIx (aA 3) (fC (.int 2)))) aE))))))
  (fIf (aU (fT (aH mh (aB (cK (aB (aY (f2 dIx (aA 3) (fC (.int 1)))) (aB (aY (f2 dIx (aA 3) (fC (.int 2)))) aE))) (aB (cK (aB (aY (f2 dIx (aA 4) (fC (.int 1)))) (aB (aY (f2 dIx (aA 4) (fC (.int 2)))) aE))) aE)))))
  (aW 3 (aI (aY (aA 4))))
  bN)
  (fIf (aU (fT (aH mh (aB (f2 dIx (aA 3) (fC (.int 3))) (aB (f2 dIx (aA 4) (fC (.int 3))) aE)))))
  (aW 3 (aI (aY (aA 4))))
  bN)))
 (aV (aW 5 (aI (aH nq (aB (aA 0) (aB (aA 1) aE)))))
 (aV (fIf (aU (rW (fA (fT (aH mU (aB (aA 5) (aB (fC (.ty "tuple")) aE))))) (rW (fB (f2 dNe (aH cW (aB (aA 5) aE)) (fC (.int 2)))) (fA (fT (aH mU (aB (f2 dIx (aA 5) (fC (.int 0))) (aB (fC (.ty "str")) aE))))))))
  (bS (aI (fC (.bl false))))
  bN)
 (bS (aI (oN (aH lg (aB (f2 dIx (aA 5) (fC (.int 1))) aE)) (oN (f2 dEq (f2 dIx (aA 5) (fC (.int 1))) (f2 dIx (aA 3) (fC (.int 3)))) (f2 dEq (f2 dIx (aA 5) (fC (.int 0))) (aH gs (aB (aA 0) (aB (f2 dIx (aA 3) (fC (.int 3))) aE))))))))))))))
abbrev sS:Stmt:=top 57
abbrev pG:List Str:=["_law_row_here","_law_width_here"]
theorem jG:FnScope ["_law_row_here","_law_width_here","_law_found","_law_best","_law_road","_law_told"] pG (aT sS):=cG
theorem yw6(j4:Dn K mg "_law_right" sS pG f fd)
  (jv:Dn K mg "roads" oZ pA t7 sh) (pq:FnOk P w K mg base CX0 n t7 sh pA (SpP 2 K U pj))
  (ic:Dn K mg "_law_refused" pF mB qq pr) (nr:FnOk P w K mg base CX0 n qq pr mB (SpP 2 K U no))
  (gx:Dn K mg "_law_behind" qK nD si qt) (mi:FnOk P w K mg base CX0 n si qt nD (SpP 2 K U mh))
  (bg:Dn K mg "pressed" kA fX lq kl) (nu:FnOk P w K mg base CX0 n lq kl fX (SpP 2 K U nq))
  (dq:Dn K mg "_law_is_choices" lH jJ nz ng) (lh:FnOk P w K mg base CX0 n nz ng jJ (SpP 1 K U lg))
  (di:Dn K mg "set_by" nB jL l9 lm) (i8:FnOk P w K mg base CX0 n l9 lm jL (SpP 2 K U gs))
  (ak:mg "isinstance"=none)
  (bw:mg "tuple"=none)
  (ac:mg "len"=none)
  (vh:mg "str"=none):
  FnOk P w K mg base CX0 (n+1) f fd pG (SpP 2 K U (gP 2 4 (zp1 pj no mh nq lg gs))):=
 cO j4.F jG fun cdv A outer s H E B hr=>
 (aJ (bB 2 jG.nd rfl (.inl rfl) rfl rfl (QP.e (cM jv pq hr rfl rfl (aF (aC 0) (aF (aC 1) aQ)) (aN (aN bF)))))
 (aJ (cB (QT.e (cE (gS (Room.units hr)) (aC 2) (QP.v (dZ bA)) (bR _)))
  (aL (bL (QP.e (cM ic nr hr rfl rfl (aF (aC 0) (aF (aC 1) aQ)) (aN (aN bF))))))
  bU)
 (aJ (bB 3 jG.nd rfl (.inl rfl) rfl rfl (QP.e (QV.p (aZ (aC 2) (QP.v aG)))))
 (aJ (qS 4 ZL rfl jG.nd rfl (.inl rfl) rfl rfl (xe1 (ye3 (aC 2) (yo9 (QP.v aG)) yo8))
  (aL (cB (QT.e (cE (xn6 (Room.units hr)) (QP.v (dJ (aP (QV.p (aZ (aC 4) (QP.v aG))) (aP (QV.p (aZ (aC 4) (QP.v aG))) bA)))) (QP.v (dJ (aP (QV.p (aZ (aC 3) (QP.v aG))) (aP (QV.p (aZ (aC 3) (QP.v aG))) bA)))) (bR _)))
  (aL (cB (QT.e (eQ (QP.v (cM gx mi hr rfl rfl (aF (QP.v (dJ (aP (QV.p (aZ (aC 3) (QP.v aG))) (aP (QV.p (aZ (aC 3) (QP.v aG))) bA)))) (aF (QP.v (dJ (aP (QV.p (aZ (aC 4) (QP.v aG))) (aP (QV.p (aZ (aC 4) (QP.v aG))) bA)))) aQ)) (aN (aN bF))))))
  (aL (bB 3 jG.nd rfl (.inl rfl) rfl rfl (QP.e (QV.p (aC 4)))))
  bU))
  (aL (cB (QT.e (eQ (QP.v (cM gx mi hr rfl rfl (aF (aZ (aC 3) (QP.v aG)) (aF (aZ (aC 4) (QP.v aG)) aQ)) (aN (aN bF))))))
  (aL (bB 3 jG.nd rfl (.inl rfl) rfl rfl (QP.e (QV.p (aC 4)))))
  bU)))))
 (aJ (bB 5 jG.nd rfl (.inl rfl) rfl rfl (QP.e (cM bg nu hr rfl rfl (aF (aC 0) (aF (aC 1) aQ)) (aN (aN bF)))))
 (aJ (cB (QT.e (rT (zk1 (jU (eQ (QP.v (bY zk4 rfl ak X3 (aF (aC 5) (aF (QP.v (zj9 rfl bw YS)) aQ)))))) (zk1 (cE (xn6 (Room.units hr)) (QP.v (bY gN rfl ac ZU (aF (aC 5) aQ))) (QP.v aG) (bR _)) (zk0 (jU (eQ (QP.v (bY zk4 rfl ak X3 (aF (aZ (aC 5) (QP.v aG)) (aF (QP.v (zj9 rfl vh boot_str)) aQ)))))))))))
  (aL (bL (QP.e jA)))
  bU)
 (aL (bL (QP.e (zk3 (cM dq lh hr rfl rfl (aF (aZ (aC 5) (QP.v aG)) aQ) (aN bF)) (zk3 (qQ (gS (Room.units hr)) (aZ (aC 5) (QP.v aG)) (aZ (aC 3) (QP.v aG)) (bR _)) (zk2 (qQ (gS (Room.units hr)) (aZ (aC 5) (QP.v aG)) (QP.v (cM di i8 hr rfl rfl (aF (aC 0) (aF (aZ (aC 3) (QP.v aG)) aQ)) (aN (aN bF)))) (bR _))))))))))))))
def xl4(sv:(tz6))(a8:(tz6))(pw:(tz6))(pz:(tz6))(p6:(tz6)):tz1:=
 (aV (aW 1 (aI (aH sv (aB (aA 0) (aB (fC (.int 8)) (aB (f2 dX (aH a8 (aB (aA 0) (aB (fC (.int 0)) (aB (fC (.int 51)) aE)))) (fC (.int 25))) (aB (fC (.int 3)) aE)))))))
 (aV (aW 2 (aI (f2 dIx (aH pw (aB (aA 0) (aB (aA 1) (aB (fC (.int 1)) aE)))) (fC (.int 0)))))
 (aV (aW 3 (aI (aH ze5 (aB (iD [none] (cP (fMt mZ (aA 2) (aB (fC (.str "\n")) aE))) iG (aH cW (aB (aA 0) aE))) aE))))
 (aV (fV 4 (cP (cV (aB (aH pz (aB (aA 0) (aB (aA 2) aE))) (aB (aY (aA 3)) (aB (f2 lB (aA 3) (fC (.int 1))) aE)))))
  (fIf (aU (fA (fT (aH p6 (aB (aA 1) (aB (aH mP (aB (fC (.int 40)) (aB (aH qE (aB (fC (.int 1)) (aB (aA 4) aE))) aE))) aE))))))
  (bS (aI (fC (.bl false))))
  bN))
 (bS (aI (fC (.bl true))))))))
abbrev zp2:Stmt:=top 58
abbrev yk4:List Str:=["_law_script"]
theorem wO:FnScope ["_law_script","_law_row_here","_law_text","_law_longest","_law_width_here"] yk4 (aT zp2):=cG
theorem wi1(vi:Dn K mg "law" zp2 yk4 f fd)
  (mj:Dn K mg "_law_row" yL uQ ve ut) (sx:FnOk P w K mg base CX0 n ve ut uQ (SpP 4 K U sv))
  (bu:Dn K mg "_law_mixed" kK iM gi eo) (b8:FnOk P w K mg base CX0 n gi eo iM (SpP 3 K U a8))
  (jy:Dn K mg "_law_drawn" sR pC t9 sj) (p7:FnOk P w K mg base CX0 n t9 sj pC (SpP 3 K U pw))
  (jz:Dn K mg "_law_width" pD pE ua sk) (p8:FnOk P w K mg base CX0 n ua sk pE (SpP 2 K U pz))
  (j4:Dn K mg "_law_right" sS pG ub so) (p9:FnOk P w K mg base CX0 n ub so pG (SpP 2 K U p6))
  (j8:mg "max"=none)
  (ac:mg "len"=none)
  (iu:mg "min"=none):
  FnOk P w K mg base CX0 (n+1) f fd yk4 (SpP 1 K U (gP 1 4 (xl4 sv a8 pw pz p6))):=
 cO vi.F wO fun cdv A outer s H E B hr=>
 (aJ (bB 1 wO.nd rfl (by first|exact Or.inl rfl|exact Or.inr rfl) rfl rfl (QP.e (cM mj sx hr rfl rfl (aF (aC 0) (aF (QP.v aG) (aF (QP.v (bG gM (QP.v (cM bu b8 hr rfl rfl (aF (aC 0) (aF (QP.v aG) (aF (QP.v aG) aQ))) (aN (aN (aN bF))))) (QP.v aG))) (aF (QP.v aG) aQ)))) (aN (aN (aN (aN bF)))))))
 (aJ (bB 2 wO.nd rfl (by first|exact Or.inl rfl|exact Or.inr rfl) rfl rfl (QP.e (sH (cM jy p7 hr rfl rfl (aF (aC 0) (aF (aC 1) (aF (QP.v aG) aQ))) (aN (aN (aN bF)))) (QP.v aG))))
 (aJ (bB 3 wO.nd rfl (by first|exact Or.inl rfl|exact Or.inr rfl) rfl rfl (QP.e (bY (xg1 rfl) rfl j8 boot_max (aF (QP.v (tG (sc:=aT zp2) (NX:=["_law_script","_law_row_here","_law_text","_law_longest","_law_width_here"]) (N:=["_law_line_here"]) (pick:=[none]) ⟨rfl,by decide+kernel,by decide+kernel,by decide+kernel,by decide+kernel,by decide,rfl⟩ rfl rfl rfl (wL (QP.v (zc8 X0 X1 zr0 (aC 2) (aF (QP.v cD) aQ)))) (fun _ _ _ _=>(iA (i:=0) (show(["_law_line_here"]:List Str).Nodup by decide) rfl (by first|exact Or.inl rfl|exact Or.inr rfl))) (fun _ _ _ _=>tF) (fun _ _ _ _=>(bY gN rfl ac ZU (aF (aC 0) aQ))))) aQ))))
 (aJ (qS 4 ZL rfl wO.nd rfl (by first|exact Or.inl rfl|exact Or.inr rfl) rfl rfl (xe1 (dZ (aP (cM jz p8 hr rfl rfl (aF (aC 0) (aF (aC 2) aQ)) (aN (aN bF))) (aP (QV.p (aC 3)) (aP (bG qC (aC 3) (QP.v aG)) bA)))))
  (aL (cB (QT.e (jU (eQ (QP.v (cM j4 p9 hr rfl rfl (aF (aC 1) (aF (QP.v (bY (ye4 rfl) rfl iu boot_min (aF (QP.v aG) (aF (QP.v (bY (xd9 rfl) rfl j8 boot_max (aF (QP.v aG) (aF (aC 4) aQ)))) aQ)))) aQ)) (aN (aN bF)))))))
  (aL (bL (QP.e jA)))
  bU)))
 (aL (bL (QP.e jA)))))))
def zF:tz1:=
 (aV (iE 0 bI "Place" "broken" (aY (aA 1)))
 (iE 0 bI "Place" "margin" (aY (aA 2))))
abbrev st_Place_init:Stmt:=iQ (top 7) 0
abbrev ps_Place_init:List Str:=["self","broken","margin"]
theorem zA:FnScope ["self","broken","margin"] ps_Place_init (aT st_Place_init):=cG
theorem ya2(g7:Kn K mg U "Place" "Place.__init__" st_Place_init ps_Place_init f fd)
  (a9:Cls K (U "Place"))
  (bq:cF K (U "Place") "broken")
  (dj:cF K (U "Place") "margin"):
  FnOk P w K mg base CX0 (n+1) f fd ps_Place_init (SpE 3 K U (bC [true,false,false]) (gE 3 0 (bC [true,false,false]) (zF))):=
 jN g7.F zA (fun i hi=>fF hi) fun cdv A outer s H E hr=>
 (aJ (gT (C:="Place") a9 bq rfl (QV.p (aC 1)) (bM 0))
 (aL (gT (C:="Place") a9 dj rfl (QV.p (aC 2)) (bM 0))))
def sA:tz1:=
 (aV (iE 0 bI "Front" "steps" (aY (aA 1)))
 (iE 0 bI "Front" "best" sO))
abbrev st_Front_init:Stmt:=iQ (top 17) 0
abbrev ps_Front_init:List Str:=["self","steps"]
theorem zB:FnScope ["self","steps"] ps_Front_init (aT st_Front_init):=cG
theorem ya3(ci:Kn K mg U "Front" "Front.__init__" st_Front_init ps_Front_init f fd)
  (aa:Cls K (U "Front"))
  (cj:cF K (U "Front") "steps")
  (ah:cF K (U "Front") "best"):
  FnOk P w K mg base CX0 (n+1) f fd ps_Front_init (SpE 2 K U (bC [true,false]) (gE 2 0 (bC [true,false]) (sA))):=
 jN ci.F zB (fun i hi=>fF hi) fun cdv A outer s H E hr=>
 (aJ (gT (C:="Front") aa cj rfl (QV.p (aC 1)) (bM 0))
 (aL (gT (C:="Front") aa ah rfl xp3 (bM 0))))
def mC:tz1:=
 (fIf (aU (rW (fB (f2 kX (aA 1) (cL "Front" "best" (aA 0)))) (fB (f2 yj9 (aA 2) (f2 gZ (cL "Front" "best" (aA 0)) (aA 1))))))
  (sP 0 (yb6 0 bI "Front" "best") (aA 1) (aY (aA 2)))
  bN)
abbrev st_Front_add:Stmt:=iQ (top 17) 1
abbrev ps_Front_add:List Str:=["self","state","way"]
theorem zY:FnScope ["self","state","way"] ps_Front_add (aT st_Front_add):=cG
theorem yg6(au:Mn K U "Front" "add" "Front.add" st_Front_add ps_Front_add f fd)
  (aa:Cls K (U "Front"))
  (ah:cF K (U "Front") "best"):
  FnOk P w K mg base CX0 (n+1) f fd ps_Front_add (SpE 3 K U (bC [true,false,false]) (gE 3 0 (bC [true,false,false]) (mC))):=
 jN au.F zY (fun i hi=>fF hi) fun cdv A outer s H E hr=>
 (aL (cB (QT.e (rT (zk1 (xf9 (uU hr) (aC 1) (cU (C:="Front") aa ah (aC 0))) (zk0 (cE (wp0 (Room.units hr)) (aC 2) (tH (uU hr) (cU (C:="Front") aa ah (aC 0)) (aC 1)) (bR _))))))
  (aL (wa3 (j:=0) (uU hr) rfl (QV.p (aC 2)) (zv9 (C:="Front") aa ah (bM 0)) (aC 1)))
  bU))
def kM(ar:(tz7)):tz1:=
 (fV 2 (xB (aY (cL "Front" "best" (aA 1))))
  (cN (dA 0 bI (cC [.im (aA 2),.im (f2 gZ (cL "Front" "best" (aA 1)) (aA 2))]) (eC "Front" "add" ar))))
abbrev st_Front_add_all:Stmt:=iQ (top 17) 2
abbrev ps_Front_add_all:List Str:=["self","other"]
theorem nQ:FnScope ["self","other","state"] ps_Front_add_all (aT st_Front_add_all):=cG
theorem zh5(c9:Mn K U "Front" "add_all" "Front.add_all" st_Front_add_all ps_Front_add_all f fd)
  (au:Mn K U "Front" "add" "Front.add" st_Front_add ps_Front_add dk c6) (bf:FnOk P w K mg base CX0 n dk c6 ps_Front_add (SpE 3 K U (bC [true,false,false]) ar))
  (aa:Cls K (U "Front"))
  (ah:cF K (U "Front") "best"):
  FnOk P w K mg base CX0 (n+1) f fd ps_Front_add_all (SpE 2 K U (bC [true,false]) (gE 2 1 (bC [true,false]) (kM ar))):=
 jN c9.F nQ (fun i hi=>fF hi) fun cdv A outer s H E hr=>
 (aL (qS 2 ZL rfl nQ.nd rfl (.inl rfl) rfl rfl (zs3 (QV.p (cU (C:="Front") aa ah (aC 1))))
  (aL (eM (kW au bf hr rfl (bM 0) (bE (aC 2) (bE (tH (uU hr) (cU (C:="Front") aa ah (aC 1)) (aC 2)) cS)) rfl rfl (dH 2))))))
def lD:tz1:=
 (iE 0 bI "WithinWidth" "width" (aY (aA 1)))
abbrev st_WithinWidth_init:Stmt:=iQ (top 28) 0
abbrev ps_WithinWidth_init:List Str:=["self","width"]
theorem pJ:FnScope ["self","width"] ps_WithinWidth_init (aT st_WithinWidth_init):=cG
theorem zG(d9:Kn K mg U "WithinWidth" "WithinWidth.__init__" st_WithinWidth_init ps_WithinWidth_init f fd)
  (a7:Cls K (U "WithinWidth"))
  (fc:cF K (U "WithinWidth") "width"):
  FnOk P w K mg base CX0 (n+1) f fd ps_WithinWidth_init (SpE 2 K U (bC [true,false]) (gE 2 0 (bC [true,false]) (lD))):=
 jN d9.F pJ (fun i hi=>fF hi) fun cdv A outer s H E hr=>
 (aL (gT (C:="WithinWidth") a7 fc rfl (QV.p (aC 1)) (bM 0)))
def kC(fg:(tz6))(bo:(tz6))(dc:(tz6))(gz:(tz6)):tz1:=
 (aV (aW 5 (aI (aH fg (aB (aA 3) (aB (aA 4) (aB (aA 1) aE))))))
 (aV (fIf (aU (fB (f2 dIs (aA 5) (fC .non))))
  (bS (aI (fC .non)))
  bN)
 (aV (aW 6 (aI (aH bo (aB (aA 1) (aB (aA 5) aE)))))
 (aV (fIf (aU (fB (f2 dGt (aA 6) (cL "WithinWidth" "width" (aA 0)))))
  (bS (aI (fC .non)))
  bN)
 (aV (fIf (aU (fT (aH dc (aB (aA 5) aE))))
  (bS (aI (cK (aB (aY (aA 6)) (aB (cK (aB (f2 cJ (f2 dIx (aA 2) (fC (.int 0))) (fC (.int 1))) (aB (f2 cJ (f2 dIx (aA 2) (fC (.int 1))) (aH gz (aB (rC "WithinWidth" "rag_of" (aA 0)) (aB (aA 1) aE)))) aE))) aE)))))
  bN)
 (bS (aI (cK (aB (aY (aA 6)) (aB (aY (aA 2)) aE))))))))))
abbrev st_WithinWidth_state_behind:Stmt:=iQ (top 28) 1
abbrev ps_WithinWidth_state_behind:List Str:=["self","length","cost","piece","place"]
theorem fI:FnScope ["self","length","cost","piece","place","wrote","column"] ps_WithinWidth_state_behind (aT st_WithinWidth_state_behind):=cG
theorem qW(ao:Mn K U "WithinWidth" "state_behind" "WithinWidth.state_behind" st_WithinWidth_state_behind ps_WithinWidth_state_behind f fd)
  (cu:Dn K mg "writing" lY iX lr km) (ie:FnOk P w K mg base CX0 n lr km iX (SpP 3 K U fg))
  (av:Dn K mg "column_behind" hV eV fz et) (cf:FnOk P w K mg base CX0 n fz et eV (SpP 2 K U bo))
  (bz:Dn K mg "ends_line" jZ gJ ji i5) (d8:FnOk P w K mg base CX0 n ji i5 gJ (SpP 1 K U dc))
  (bn:Mn K U "WithinWidth" "rag_of" "WithinWidth.rag_of" st_WithinWidth_rag_of ps_WithinWidth_rag_of kn j6) (g4:FnOk P w K mg base CX0 n kn j6 ps_WithinWidth_rag_of (SpP 2 K U gz))
  (a7:Cls K (U "WithinWidth"))
  (fc:cF K (U "WithinWidth") "width"):
  FnOk P w K mg base CX0 (n+1) f fd ps_WithinWidth_state_behind (SpP 5 K U (gP 5 2 (kC fg bo dc gz))):=
 cO ao.F fI fun cdv A outer s H E B hr=>
 (aJ (bB 5 fI.nd rfl (.inl rfl) rfl rfl (QP.e (cM cu ie hr rfl rfl (aF (aC 3) (aF (aC 4) (aF (aC 1) aQ))) (aN (aN (aN bF))))))
 (aJ (cB (QT.e (cE wh1 (aC 5) (QP.v oA) (bR _)))
  (aL (bL (QP.e oA)))
  bU)
 (aJ (bB 6 fI.nd rfl (.inl rfl) rfl rfl (QP.e (cM av cf hr rfl rfl (aF (aC 1) (aF (aC 5) aQ)) (aN (aN bF)))))
 (aJ (cB (QT.e (cE zq9 (aC 6) (cU (C:="WithinWidth") a7 fc (aC 0)) (bR _)))
  (aL (bL (QP.e oA)))
  bU)
 (aJ (cB (QT.e (eQ (QP.v (cM bz d8 hr rfl rfl (aF (aC 5) aQ) (aN bF)))))
  (aL (bL (QP.e (dJ (aP (QV.p (aC 6)) (aP (dJ (aP (bG eW (aZ (aC 2) (QP.v aG)) (QP.v aG)) (aP (bG eW (aZ (aC 2) (QP.v aG)) (QP.v (yg1 bn g4 hr (aC 0) rfl (aF (aC 1) aQ) (aN bF)))) bA))) bA))))))
  bU)
 (aL (bL (QP.e (dJ (aP (QV.p (aC 6)) (aP (QV.p (aC 2)) bA)))))))))))
def nY:tz1:=
 (bS (aI (f2 iL (f2 lB (cL "WithinWidth" "width" (aA 0)) (aA 1)) (f2 lB (cL "WithinWidth" "width" (aA 0)) (aA 1)))))
abbrev st_WithinWidth_rag_of:Stmt:=iQ (top 28) 2
abbrev ps_WithinWidth_rag_of:List Str:=["self","length"]
theorem nU:FnScope ["self","length"] ps_WithinWidth_rag_of (aT st_WithinWidth_rag_of):=cG
theorem wP(bn:Mn K U "WithinWidth" "rag_of" "WithinWidth.rag_of" st_WithinWidth_rag_of ps_WithinWidth_rag_of f fd)
  (a7:Cls K (U "WithinWidth"))
  (fc:cF K (U "WithinWidth") "width"):
  FnOk P w K mg base CX0 (n+1) f fd ps_WithinWidth_rag_of (SpP 2 K U (gP 2 0 (nY))):=
 cO bn.F nU fun cdv A outer s H E B hr=>
 (aL (bL (QP.e (bG uX (QP.v (bG qC (cU (C:="WithinWidth") a7 fc (aC 0)) (aC 1))) (QP.v (bG qC (cU (C:="WithinWidth") a7 fc (aC 0)) (aC 1)))))))
def pV:tz1:=
 (aV (iE 0 bI "Setter" "choices" (aY (aA 1)))
 (aV (iE 0 bI "Setter" "used" (fC (.int 0)))
 (aV (iE 0 bI "Setter" "column" (fC (.int 0)))
 (iE 0 bI "Setter" "parts" (cV aE)))))
abbrev st_Setter_init:Stmt:=iQ (top 32) 0
abbrev ps_Setter_init:List Str:=["self","choices"]
theorem wQ:FnScope ["self","choices"] ps_Setter_init (aT st_Setter_init):=cG
theorem zs5(k8:Kn K mg U "Setter" "Setter.__init__" st_Setter_init ps_Setter_init f fd)
  (af:Cls K (U "Setter"))
  (cw:cF K (U "Setter") "choices")
  (eh:cF K (U "Setter") "used")
  (gj:cF K (U "Setter") "column")
  (g5:cF K (U "Setter") "parts"):
  FnOk P w K mg base CX0 (n+1) f fd ps_Setter_init (SpE 2 K U (bC [true,false]) (gE 2 0 (bC [true,false]) (pV))):=
 jN k8.F wQ (fun i hi=>fF hi) fun cdv A outer s H E hr=>
 (aJ (gT (C:="Setter") af cw rfl (QV.p (aC 1)) (bM 0))
 (aJ (gT (C:="Setter") af eh rfl aG (bM 0))
 (aJ (gT (C:="Setter") af gj rfl aG (bM 0))
 (aL (gT (C:="Setter") af g5 rfl (dZ bA) (bM 0))))))
def jM:tz1:=
 (aV (fIf (aU (fB (f2 dGe (cL "Setter" "used" (aA 0)) (aH cW (aB (cL "Setter" "choices" (aA 0)) aE)))))
  wY
  bN)
 (aV (aW 2 (aI (aY (f2 dIx (cL "Setter" "choices" (aA 0)) (cL "Setter" "used" (aA 0))))))
 (aV (fIf (aU (rW (fB (f2 dLt (aA 2) (fC (.int 0)))) (fB (f2 dGe (aA 2) (aA 1)))))
  wY
  bN)
 (aV (iE 0 bI "Setter" "used" (f2 cJ (cL "Setter" "used" (aA 0)) (fC (.int 1))))
 (sM 2)))))
abbrev gQ:Stmt:=iQ (top 32) 1
abbrev fK:List Str:=["self","count"]
theorem jK:FnScope ["self","count","number"] fK (aT gQ):=cG
theorem vX(bd:Mn K U "Setter" "choice_below" "Setter.choice_below" gQ fK f fd)
  (af:Cls K (U "Setter"))
  (eh:cF K (U "Setter") "used")
  (cw:cF K (U "Setter") "choices")
  (ac:mg "len"=none):
  FnOk P w K mg base CX0 (n+1) f fd fK (SpE 2 K U (bC [true,false]) (gE 2 1 (bC [true,false]) (jM))):=
 jN bd.F jK (fun i hi=>fF hi) fun cdv A outer s H E hr=>
 (aJ (cB (QT.e (cE wh0 (cU (C:="Setter") af eh (aC 0)) (QP.v (bY gN rfl ac ZU (aF (cU (C:="Setter") af cw (aC 0)) aQ))) (bR _)))
  (aL tZ)
  bU)
 (aJ (bB 2 jK.nd rfl (.inl rfl) rfl rfl (QP.e (QV.p (aZ (cU (C:="Setter") af cw (aC 0)) (cU (C:="Setter") af eh (aC 0))))))
 (aJ (cB (QT.e (rT (zk1 (cE (zK (Room.units0 hr)) (aC 2) (QP.v aG) (bR _)) (zk0 (cE wh0 (aC 2) (aC 1) (bR _))))))
  (aL tZ)
  bU)
 (aJ (gT (C:="Setter") af eh rfl (bG eW (cU (C:="Setter") af eh (aC 0)) (QP.v aG)) (bM 0))
 (aL (pL 2 rfl))))))
def jC(fg:(tz6))(bo:(tz6)):tz1:=
 (aV (aW 3 (aI (aH fg (aB (aA 1) (aB (aA 2) (aB (cL "Setter" "column" (aA 0)) aE))))))
 (aV (fIf (aU (fB (f2 dIs (aA 3) (fC .non))))
  wY
  bN)
 (aV (cN (dA 0 (yb6 0 bI "Setter" "parts") (aB (aY (aA 3)) aE) dD))
 (iE 0 bI "Setter" "column" (aH bo (aB (cL "Setter" "column" (aA 0)) (aB (aA 3) aE)))))))
abbrev jD:Stmt:=iQ (top 32) 2
abbrev gG:List Str:=["self","piece","place"]
theorem kY:FnScope ["self","piece","place","wrote"] gG (aT jD):=cG
theorem zH(b9:Mn K U "Setter" "set_plain" "Setter.set_plain" jD gG f fd)
  (cu:Dn K mg "writing" lY iX lr km) (ie:FnOk P w K mg base CX0 n lr km iX (SpP 3 K U fg))
  (av:Dn K mg "column_behind" hV eV fz et) (cf:FnOk P w K mg base CX0 n fz et eV (SpP 2 K U bo))
  (af:Cls K (U "Setter"))
  (gj:cF K (U "Setter") "column")
  (g5:cF K (U "Setter") "parts"):
  FnOk P w K mg base CX0 (n+1) f fd gG (SpE 3 K U (bC [true,false,false]) (gE 3 1 (bC [true,false,false]) (jC fg bo))):=
 jN b9.F kY (fun i hi=>fF hi) fun cdv A outer s H E hr=>
 (aJ (bB 3 kY.nd rfl (.inl rfl) rfl rfl (QP.e (cM cu ie hr rfl rfl (aF (aC 1) (aF (aC 2) (aF (cU (C:="Setter") af gj (aC 0)) aQ))) (aN (aN (aN bF))))))
 (aJ (cB (QT.e (cE wh1 (aC 3) (QP.v oA) (bR _)))
  (aL tZ)
  bU)
 (aJ (eM (lL (j:=0) rfl (zv9 (C:="Setter") af g5 (bM 0)) (aP (QV.p (aC 3)) bA)))
 (aL (gT (C:="Setter") af gj rfl (cM av cf hr rfl rfl (aF (cU (C:="Setter") af gj (aC 0)) (aF (aC 3) aQ)) (aN (aN bF))) (bM 0))))))
def iN(jk:(tz6))(b5:(tz6))(gc:(tz7))(b6:(tz7)):tz1:=
 (aV (aW 3 (aI (aH jk (aB (aA 1) (aB (aA 2) aE)))))
 (aV (aW 4 (aI (fC (.int 0))))
 (aV (fIf (aU (fT (aH b5 (aB (aA 1) (aB (aA 2) aE)))))
  (aW 4 (dA 0 bI (cC [.im (aH cW (aB (aA 3) aE))]) (eC "Setter" "choice_below" gc)))
  bN)
 (aV (aW 5 (aI (aY (f2 dIx (aA 3) (aA 4)))))
 (cN (dA 0 bI (cC [.im (f2 dIx (aA 5) (fC (.int 0))),.im (f2 dIx (aA 5) (fC (.int 1)))]) (eC "Setter" "set_row" b6)))))))
abbrev iO:Stmt:=iQ (top 32) 3
abbrev fY:List Str:=["self","piece","place"]
theorem eY:FnScope ["self","piece","place","found","number","way"] fY (aT iO):=cG
theorem xN(bx:Mn K U "Setter" "set_holder" "Setter.set_holder" iO fY f fd)
  (gk:Dn K mg "ways" nX lX n8 mz) (kz:FnOk P w K mg base CX0 n n8 mz lX (SpP 2 K U jk))
  (ax:Dn K mg "takes_choice" iJ fG gl fj) (cp:FnOk P w K mg base CX0 n gl fj fG (SpP 2 K U b5))
  (bd:Mn K U "Setter" "choice_below" "Setter.choice_below" gQ fK j7 jg) (ge:FnOk P w K mg base CX0 n j7 jg fK (SpE 2 K U (bC [true,false]) gc))
  (ay:Mn K U "Setter" "set_row" "Setter.set_row" st_Setter_set_row ps_Setter_set_row gn fk) (d7:FnOk P w K mg base CX0 n gn fk ps_Setter_set_row (SpE 3 K U (bC [true,false,false]) b6))
  (ac:mg "len"=none):
  FnOk P w K mg base CX0 (n+1) f fd fY (SpE 3 K U (bC [true,false,false]) (gE 3 3 (bC [true,false,false]) (iN jk b5 gc b6))):=
 jN bx.F eY (fun i hi=>fF hi) fun cdv A outer s H E hr=>
 (aJ (bB 3 eY.nd rfl (.inl rfl) rfl rfl (QP.e (cM gk kz hr rfl rfl (aF (aC 1) (aF (aC 2) aQ)) (aN (aN bF)))))
 (aJ (bB 4 eY.nd rfl (.inl rfl) rfl rfl (QP.e aG))
 (aJ (cB (QT.e (eQ (QP.v (cM ax cp hr rfl rfl (aF (aC 1) (aF (aC 2) aQ)) (aN (aN bF))))))
  (aL (bB 4 eY.nd rfl (.inl rfl) rfl rfl (kW bd ge hr rfl (bM 0) (bE (QP.v (bY gN rfl ac ZU (aF (aC 3) aQ))) cS) rfl rfl (dH 1))))
  bU)
 (aJ (bB 5 eY.nd rfl (.inl rfl) rfl rfl (QP.e (QV.p (aZ (aC 3) (aC 4)))))
 (aL (eM (kW ay d7 hr rfl (bM 0) (bE (aZ (aC 5) (QP.v aG)) (bE (aZ (aC 5) (QP.v aG)) cS)) rfl rfl (dH 2))))))))
def jS(cq:(tz6))(ik:(tz7))(iz:(tz7)):tz1:=
 (fV 3 (cP (aA 1))
  (fIf (aU (fT (aH cq (aB (aA 3) aE))))
  (cN (dA 0 bI (cC [.im (aA 3),.im (aA 2)]) (eC "Setter" "set_holder" ik)))
  (cN (dA 0 bI (cC [.im (aA 3),.im (aA 2)]) (eC "Setter" "set_plain" iz)))))
abbrev st_Setter_set_row:Stmt:=iQ (top 32) 4
abbrev ps_Setter_set_row:List Str:=["self","row","place"]
theorem mS:FnScope ["self","row","place","piece"] ps_Setter_set_row (aT st_Setter_set_row):=cG
theorem zf6(ay:Mn K U "Setter" "set_row" "Setter.set_row" st_Setter_set_row ps_Setter_set_row f fd)
  (bi:Dn K mg "holds_rows" jH fW i7 iq) (dm:FnOk P w K mg base CX0 n i7 iq fW (SpP 1 K U cq))
  (bx:Mn K U "Setter" "set_holder" "Setter.set_holder" iO fY ku ko) (oy:FnOk P w K mg base CX0 n ku ko fY (SpE 3 K U (bC [true,false,false]) ik))
  (b9:Mn K U "Setter" "set_plain" "Setter.set_plain" jD gG lz ky) (i3:FnOk P w K mg base CX0 n lz ky gG (SpE 3 K U (bC [true,false,false]) iz)):
  FnOk P w K mg base CX0 (n+1) f fd ps_Setter_set_row (SpE 3 K U (bC [true,false,false]) (gE 3 1 (bC [true,false,false]) (jS cq ik iz))):=
 jN ay.F mS (fun i hi=>fF hi) fun cdv A outer s H E hr=>
 (aL (zc9 3 1 ZL rfl mS.nd rfl (.inl rfl) rfl rfl rfl
  (aL (cB (QT.e (eQ (QP.v (cM bi dm hr rfl rfl (aF (aC 3) aQ) (aN bF)))))
  (aL (eM (kW bx oy hr rfl (bM 0) (bE (aC 3) (bE (aC 2) cS)) rfl rfl (dH 2))))
  (aL (eM (kW b9 i3 hr rfl (bM 0) (bE (aC 3) (bE (aC 2) cS)) rfl rfl (dH 2))))))))
def kN:tz1:=
 (aV (fIf (aU (fB (f2 dLt (cL "Setter" "used" (aA 0)) (aH cW (aB (cL "Setter" "choices" (aA 0)) aE)))))
  wY
  bN)
 (bS (aI (fMt zo3 (fC (.str "")) (aB (cL "Setter" "parts" (aA 0)) aE)))))
abbrev st_Setter_whole_text:Stmt:=iQ (top 32) 5
abbrev ps_Setter_whole_text:List Str:=["self"]
theorem oI:FnScope ["self"] ps_Setter_whole_text (aT st_Setter_whole_text):=cG
theorem xO(bv:Mn K U "Setter" "whole_text" "Setter.whole_text" st_Setter_whole_text ps_Setter_whole_text f fd)
  (af:Cls K (U "Setter"))
  (eh:cF K (U "Setter") "used")
  (g5:cF K (U "Setter") "parts")
  (cw:cF K (U "Setter") "choices")
  (ac:mg "len"=none):
  FnOk P w K mg base CX0 (n+1) f fd ps_Setter_whole_text (SpP 1 K U (gP 1 0 (kN))):=
 cO bv.F oI fun cdv A outer s H E B hr=>
 (aJ (cB (QT.e (cE (zK (Room.units0 hr)) (cU (C:="Setter") af eh (aC 0)) (QP.v (bY gN rfl ac ZU (aF (cU (C:="Setter") af cw (aC 0)) aQ))) (bR _)))
  (aL tZ)
  bU)
 (aL (bL (QP.e (zc8 PySem.F.slot_str_join PySem.F.type_str_join wh5 (QP.v cD) (aF (cU (C:="Setter") af g5 (aC 0)) aQ))))))
end L3
namespace My
open PySem PySem.Spec PyProof.Rows L2 L3
def bP:Leaf->D
 | .word x=> .tup [.str "word",.str x]
 | .gap x=> .tup [.str "gap",.str x]
 | .stop c=> .tup [.str "stop",.int c]
 | .fin=> .tup [.str "end"]
mutual
def pcD:Pc->D
 | .leaf l=>bP l
 | .group r=> .tup [.str "group",.tup (pcsD r)]
 | .hang n r=> .tup [.str "hang",.int n,.tup (pcsD r)]
 | .either rs=> .tup [.str "either",.tup (rowsD rs)]
def pcsD:List Pc->List D
 |[]=>[]
 |p::r=>pcD p::pcsD r
def rowsD:List (List Pc)->List D
 |[]=>[]
 |r::rs=> .tup (pcsD r)::rowsD rs
end
theorem zh6(l:Leaf):(bP l).imm=true:=by cases l<;>rfl
mutual
theorem wR:∀p:Pc,(pcD p).imm=true
 | .leaf l=>zh6 l
 | .group r=>by show(D.imm (.str "group")&&(D.imm (.tup (pcsD r))&&D.imms []))=true;rw [show D.imm (.tup (pcsD r))=D.imms (pcsD r) from rfl,pcs_imm r];rfl
 | .hang n r=>by show(D.imm (.str "hang")&&(D.imm (.int n)&&(D.imm (.tup (pcsD r))&&D.imms [])))=true;rw [show D.imm (.tup (pcsD r))=D.imms (pcsD r) from rfl,pcs_imm r];rfl
 | .either rs=>by show(D.imm (.str "either")&&(D.imm (.tup (rowsD rs))&&D.imms []))=true;rw [show D.imm (.tup (rowsD rs))=D.imms (rowsD rs) from rfl,rows_imm rs];rfl
theorem pcs_imm:∀r:List Pc,D.imms (pcsD r)=true
 |[]=>rfl
 |p::r=>by show(D.imm (pcD p)&&D.imms (pcsD r))=true;rw [wR p,pcs_imm r];rfl
theorem rows_imm:∀rs:List (List Pc),D.imms (rowsD rs)=true
 |[]=>rfl
 |r::rs=>by show(D.imm (.tup (pcsD r))&&D.imms (rowsD rs))=true;rw [show D.imm (.tup (pcsD r))=D.imms (pcsD r) from rfl,pcs_imm r,rows_imm rs];rfl
end
theorem zh7:∀a b:List Pc,pcsD (a++b)=pcsD a++pcsD b
 |[],b=>rfl
 |p::a,b=>by show pcD p::pcsD (a++b)=pcD p::(pcsD a++pcsD b);rw [zh7 a b]
theorem zZ:∀a b:List (List Pc),rowsD (a++b)=rowsD a++rowsD b
 |[],b=>rfl
 |p::a,b=>by show D.tup (pcsD p)::rowsD (a++b)=D.tup (pcsD p)::(rowsD a++rowsD b);rw [zZ a b]
theorem zh8:∀a:List Pc,(pcsD a).length=a.length
 |[]=>rfl
 |p::a=>by show(pcsD a).length+1=a.length+1;rw [zh8 a]
theorem kB:∀a:List (List Pc),(rowsD a).length=a.length
 |[]=>rfl
 |p::a=>by show(rowsD a).length+1=a.length+1;rw [kB a]
theorem yq1{α β:Type}(f:α->β)(hf:∀a b,f a=f b->a=b):∀{l m:List α},l.map f=m.map f->l=m
 |[],[],_=>rfl
 |[],_::_,h=>by simp at h
 |_::_,[],h=>by simp at h
 |a::l,b::m,h=>by
  simp only [Z9,List.cons.injEq] at h
  rw [hf a b h.1,yq1 f hf h.2]
theorem gA(a b:String):(Str.ofString a=Str.ofString b)=(a=b):=by
 refine propext ⟨fun h=> ?_,fun h=>by rw [h]⟩
 rw [Str.ofString_eq_toList,Str.ofString_eq_toList] at h
 have h1:(a.toList.map Char.toNat).toArray=(b.toList.map Char.toNat).toArray:=(Str.mk.inj h)
 have h2:a.toList.map Char.toNat=b.toList.map Char.toNat:=by simpa using ZK Array.toList h1
 have h3:a.toList=b.toList:=yq1 _ (fun x y e=>by
  have:Char.ofNat x.toNat=Char.ofNat y.toNat:=by rw [e]
  simpa using this) h2
 exact String.toList_inj.mp h3
theorem kZ{α:Type}(a:α)(l:List α):atI (a::l) 0=some a:=by simp [atI,ixN]
theorem iF{α:Type}(a b:α)(l:List α):atI (a::b::l) 1=some b:=by
 have h:ixN (a::b::l).length 1=some 1:=by unfold ixN;rw [if_pos (by decide),if_pos (by simp only [Z6];omega)];rfl
 simp only [atI,h];rfl
theorem yg7{α:Type}(a b c:α)(l:List α):atI (a::b::c::l) 2=some c:=by
 have h:ixN (a::b::c::l).length 2=some 2:=by unfold ixN;rw [if_pos (by decide),if_pos (by simp only [Z6];omega)];rfl
 simp only [atI,h];rfl
local macro_rules|`(tactic|simp! [$a,*] $[$l]?)=>`(tactic|simp [aH,aE,aA,aB,aI,D.imms,D.imm,zt9,fT,aU,aY,cN,cC,jY,dA,bI,fL,f2,fC,bS,aV,fIf,bN,dB,cJ,kZ,fB,iF,dIx,aW,gA,cW,rW,gP,dD,dLt,dGe,zi9,lB,bC,gE,cQ,sM,cV,yg7,cK,iE,cL,zo4,yj7,xA,fD,dIs,zo2,yb6,dGt,gY,eqB,eK,fA,fM,fMt,dEq,dLe,fIO,iV,dNe,$a,*] $[$l]?)
theorem sz{n:Nat}(h:n<=1000):n<=sizeLine:=ya9 h
theorem sz1{n:Nat}(h:n<=1000):n<sizeLine:=nR h
theorem yn0{rs:List (List Pc)}{r:List Pc}(h:r∈rs):(toksR r).length<=(toksMore rs).length:=by
 induction rs with
 |nil=>simp at h
 |cons q rs ih=>
  show _<=(Tk.orr::(toksR q++toksMore rs)).length
  rw [Z6,Z5]
  rcases Z2.mp h with e|e
  ·subst e;omega
  ·have:=ih e;omega
theorem vY{rs:List (List Pc)}{r:List Pc}(h:r∈rs):(toksR r).length<=(toksRows rs).length:=by
 cases rs with
 |nil=>simp at h
 |cons q rs=>
  show _<=(toksR q++toksMore rs).length
  rw [Z5]
  rcases Z2.mp h with e|e
  ·subst e;omega
  ·have:=yn0 e;omega
theorem eS(n:Nat):ixN (n+1) (-1)=some n:=by
 unfold ixN
 rw [if_neg (by decide),if_pos (by omega)]
 congr 1
 omega
theorem eT{α:Type}(l:List α)(a b:α):(l++[a]).set l.length b=l++[b]:=by
 induction l with
 |nil=>rfl
 |cons x l ih=>show x::(l++[a]).set l.length b=_;rw [ih];rfl
theorem mT(n:Nat):ixN (n+1) 0=some 0:=by unfold ixN;rw [if_pos (by decide),if_pos (by omega)];rfl
theorem yw7:ixN 3 1=some 1:=by decide
theorem xv4:ixN 3 2=some 2:=by decide
theorem dC(i j:Int):dX (.int i) (.int j)=if 0<j then some (.int (i % j)) else none:=by simp [dX,dII]
theorem dS(i j:Int):gI (.int i) (.int j)=if 0<j/\j<1073741824 then some (.int (i/j)) else none:=by simp [gI,dII]
theorem bX(x y:Str):(x++y).cps.toList=x.cps.toList++y.cps.toList:=by
 show(x.cps++y.cps).toList=_
 simp
theorem dF(x y:Str):(x++y).length=x.length+y.length:=by
 show(x.cps++y.cps).size=x.cps.size+y.cps.size
 simp
def sg:Str:=("abcdefghijklmnopqrstuvwxyzABCDEFGHIJKLMNOPQRSTUVWXYZ0123456789":Str)++("!\"#$&'()*+,-./:;<=>?\x40[\\]^_`{|}~":Str)
theorem xh2:sg.cps.toList.length=93:=by decide+kernel
theorem wb0:sg.cps.toList.all ze7=true:=by decide+kernel
theorem wb1:sg.length<=sizeLine:=by
 have e:sg.length=sg.cps.toList.length:=by simp [Str.length]
 rw [e,xh2];exact sz (by decide)
theorem tJ{α:Type}(xs:List α)(i:Int)(h0:0<=i)(h1:i<xs.length):∃v∈xs,atI xs i=some v:=by
 have hn:i.toNat<xs.length:=by omega
 obtain⟨v,hv⟩:∃v,xs[i.toNat]? =some v:=⟨_,Zn hn⟩
 refine⟨v,ZM hv,?_⟩
 have e:i=((i.toNat:Nat):Int):=by omega
 rw [e]
 exact zq5 hv
theorem wp3(i:Int)(h0:0<=i)(h1:i<93):∃c,atI sg.cps.toList i=some c/\ze7 c=true:=by
 obtain⟨c,hc,e⟩:=tJ sg.cps.toList i h0 (by rw [xh2];omega)
 exact⟨c,e,List.all_eq_true.mp wb0 c hc⟩
theorem wi2(n:Nat):gD 0 n=((List.range n).map fun(k:Nat)=>(k:Int)).map .int:=by
 unfold gD
 rw [Yu]
 refine List.map_congr_left fun k _=> ?_
 show D.int (0+(k:Int))=D.int (k:Int)
 rw [Int.zero_add]
theorem wb2(m:Int):∃s:Int,atI [D.int 1,.int 2,.int 3,.int 4,.int 5,.int 6,.int 7,.int 8,.int 10,.int 11,.int 9,.int 12] (m % 12)=some (.int s)/\1<=s/\s<=12:=by
 have h0:=ZE m (show(12:Int)≠0 by decide)
 have h1:=Zz m (show(0:Int)<12 by decide)
 obtain⟨d,hd,e⟩:=tJ [D.int 1,.int 2,.int 3,.int 4,.int 5,.int 6,.int 7,.int 8,.int 10,.int 11,.int 9,.int 12] (m % 12) h0 (by simpa using h1)
 simp only [Z2,Zm,ZW] at hd
 rcases hd with rfl|rfl|rfl|rfl|rfl|rfl|rfl|rfl|rfl|rfl|rfl|rfl<;>exact⟨_,e,by decide,by decide⟩
theorem wi3(k:Int):∃x:Str,atI [D.str (Str.ofString " "),.str (Str.ofString " "),.str (Str.ofString " "),.str (Str.ofString "")] (k % 4)=some (.str x)/\(x=""\/x=" "):=by
 have h0:=ZE k (show(4:Int)≠0 by decide)
 have h1:=Zz k (show(0:Int)<4 by decide)
 obtain⟨d,hd,e⟩:=tJ [D.str (Str.ofString " "),.str (Str.ofString " "),.str (Str.ofString " "),.str (Str.ofString "")] (k % 4) h0 (by simpa using h1)
 simp only [Z2,Zm,ZW] at hd
 rcases hd with rfl|rfl|rfl|rfl
 ·exact⟨_,e,.inr rfl⟩
 ·exact⟨_,e,.inr rfl⟩
 ·exact⟨_,e,.inr rfl⟩
 ·exact⟨_,e,.inl rfl⟩
theorem wb3(a b k:Int)(ha:0<=a/\a<=40)(hb:0<=b/\b<=40):∃c:Int,atI [D.int a,.int b] (k % 2)=some (.int c)/\0<=c/\c<=40:=by
 have h0:=ZE k (show(2:Int)≠0 by decide)
 have h1:=Zz k (show(0:Int)<2 by decide)
 obtain⟨d,hd,e⟩:=tJ [D.int a,.int b] (k % 2) h0 (by simpa using h1)
 simp only [Z2,Zm,ZW] at hd
 rcases hd with rfl|rfl
 ·exact⟨_,e,ha⟩
 ·exact⟨_,e,hb⟩
theorem ws4{α:Type}(a b c d:α):atI [a,b,c,d] 3=some d:=rfl
theorem wb4{i j:Int}(h1: -1000000<=i)(h2:i<=1000000)(h3: -1000000<=j)(h4:j<=1000000):vE [.int i,.int j]=some (gD i (j-i).toNat):=by
 rw [vE]
 exact if_pos ⟨by omega,by omega,by omega,by omega⟩
theorem wb5{j:Int}(h3: -1000000<=j)(h4:j<=1000000):vD [.int j]=some (gD 0 j.toNat):=by
 rw [vD]
 exact if_pos ⟨by omega,by omega⟩
theorem wi4(a:Int)(n:Nat):gD a n=((List.range n).map fun(k:Nat)=>a+(k:Int)).map .int:=by
 unfold gD
 rw [Yu];rfl
theorem aO{f g:tz1}{p p':PSt}(h:f p=some (.nx,p')):aV f g p=g p':=by unfold aV;rw [h];rfl
theorem cY{f g:tz1}{p p':PSt}{R:Fl}(h:f p=some (.nx,p'))(e:∃q,g p'=some (R,q)):∃q,aV f g p=some (R,q):=e.elim fun q e=>⟨q,(aO h).trans e⟩
theorem eA{f g:tz1}{p p':PSt}{d:D}(h:f p=some (.ret d,p')):aV f g p=some (.ret d,p'):=by unfold aV;rw [h];rfl
theorem yb0{c:PSt->Option (Bool×PSt)}{f g:tz1}{p p':PSt}(h:c p=some (true,p')):fIf c f g p=f p':=by unfold fIf;rw [h];rfl
theorem fU{c:PSt->Option (Bool×PSt)}{f g:tz1}{p p':PSt}(h:c p=some (false,p')):fIf c f g p=g p':=by unfold fIf;rw [h];rfl
theorem bH{i:Nat}{f:tz2}{p:PSt}{d:D}(h:f p=some d):aW i (aI f) p=some (.nx,p.set i (some d)):=by unfold aW aI;rw [h];rfl
theorem cH{f:tz2}{p:PSt}{d:D}(h:f p=some d):bS (aI f) p=some (.ret d,p):=by unfold bS aI;rw [h];rfl
theorem gF{np n:Nat}{f:tz1}{ds:List D}{d:D}{p:PSt}(hl:ds.length=np)(h:f (ds.map some++List.replicate n none)=some (.ret d,p)):gP np n f ds=some d:=by
 unfold gP;rw [if_pos hl,h];rfl
theorem aR{g:D->D->Option D}{fa fb:tz2}{p:PSt}{x y d:D}(h1:fa p=some x)(h2:fb p=some y)(h3:g x y=some d):f2 g fa fb p=some d:=by unfold f2;rw [h1,h2];exact h3
theorem aS{h:tz6}{g:tz3}{p:PSt}{ds:List D}{d:D}(h1:g p=some ds)(h2:h ds=some d):aH h g p=some d:=by unfold aH;rw [h1];exact h2
theorem xh3{o o':Bool}{ys zs:List D}(h1:D.imms ys=true)(h2:D.imms zs=true)(h:ys.length+zs.length<=1000):cJ (.lst o ys) (.lst o' zs)=some (.lst true (ys++zs)):=by
 rw [cJ]
 exact if_pos (by rw [h1,h2];simpa using sz h)
theorem aD{f:tz2}{g:tz3}{p:PSt}{d:D}{ds:List D}(h1:f p=some d)(h2:g p=some ds):aB f g p=some (d::ds):=by unfold aB;rw [h1,h2];rfl
def eI(ws:List Str):List D:=ws.map .str
theorem xh4(a b:List Str):eI (a++b)=eI a++eI b:=by simp [eI]
theorem xh5(a:List Str):(eI a).length=a.length:=by simp [eI]
theorem fO{g:tz3}{p:PSt}{ds:List D}(h:g p=some ds)(hl:ds.length<=1000):cV g p=some (.lst true ds):=by unfold cV;rw [h];exact if_pos hl
theorem yw8(k:Nat)(n:Nat):gD (k:Int) (n+1)= .int k::gD ((k+1:Nat):Int) n:=by
 unfold gD
 rw [List.range_succ_eq_map,Z9,Yu]
 congr 1
 ·simp
  intro j _
  omega
theorem eZ{g:tz3}{p:PSt}{ds:List D}(h:g p=some ds)(hi:D.imms ds=true)(hl:ds.length<=1000):cK g p=some (.tup ds):=by
 unfold cK
 rw [h]
 exact if_pos (by rw [hi];simpa using hl)
theorem nV{i:Nat}{p:PSt}{d:D}(h:p[i]? =some (some d)):aA i p=some d:=by unfold aA;rw [h];rfl
theorem dR{f:tz4}{p:PSt}{b:Bool}(h:f p=some b):aU f p=some (b,p):=by unfold aU;rw [h];rfl
theorem eP{f:tz2}{p:PSt}{b:Bool}(h:f p=some (.bl b)):fB f p=some b:=by unfold fB;rw [h];rfl
theorem mL{f:tz2}{p:PSt}{b:Bool}(h:f p=some (.bl b)):fT f p=some b:=by unfold fT;rw [h];rfl
theorem mX{f g:tz4}{p:PSt}(h:f p=some false):eK f g p=some false:=by unfold eK;rw [h];rfl
theorem lP{f g:tz4}{p:PSt}{b:Bool}(h:f p=some true)(h2:g p=some b):eK f g p=some b:=by unfold eK;rw [h];exact h2
theorem wp4{f g:tz4}{p:PSt}(h:f p=some true):rW f g p=some true:=by unfold rW;rw [h];rfl
theorem zd2{f g:tz4}{p:PSt}{b:Bool}(h:f p=some false)(h2:g p=some b):rW f g p=some b:=by unfold rW;rw [h];exact h2
theorem iC{f:tz4}{p:PSt}{b:Bool}(h:f p=some b):fA f p=some (!b):=by unfold fA;rw [h];rfl
theorem bD{c:tz4}{F:tz1}{p:PSt}(h:c p=some false):fIf (aU c) F bN p=some (.nx,p):=(fU (dR h)).trans rfl
theorem bO{c:tz4}{F G:tz1}{p:PSt}(h:c p=some true):fIf (aU c) F G p=F p:=yb0 (dR h)
def kdT(i:Nat)(w:String):tz4:=fB (f2 dEq (f2 dIx (aA i) (fC (.int 0))) (fC (.str w)))
theorem fP{i:Nat}{p:PSt}{k w:String}{ds:List D}{b:Bool}(hp:p[i]? =some (some (.tup (.str k::ds))))(h:decide (k=w)=b):kdT i w p=some b:=by
 refine eP (aR (aR (nV hp) rfl (kZ _ _)) rfl ?_)
 show some (D.bl (decide ((k:Str)=(w:Str))))=_
 rw [<-h]
 congr 2
 exact YB.mpr (by rw [gA])
theorem lQ{f:tz8}{p p':PSt}{d:D}(h:f p=some (d,p')):cN f p=some (.nx,p'):=by unfold cN;rw [h];rfl
theorem qX{as:List L2.Arg}{g:tz7}{p:PSt}{ds ds':List D}{d:D}(h1:cC as p=some ds)(h2:g ds=some (d,ds'))(h3:ds'.length=as.length):fIO as g p=some (d,iV p as ds'):=by unfold fIO;rw [h1,Z3,h2,Z3,if_pos h3]
theorem bW{f:tz2}{p:PSt}{d:D}(h:f p=some d)(hi:d.imm=true):aY f p=some d:=by unfold aY;rw [h];exact if_pos hi
theorem gH{p:PSt}:cC [] p=some []:=rfl
theorem dO{f:tz2}{as:List L2.Arg}{p:PSt}{d:D}{ds:List D}(h:f p=some d)(hi:d.imm=true)(h2:cC as p=some ds):cC (.im f::as) p=some (d::ds):=by
 show(aY f p).bind _=_
 rw [bW h hi,Z3,h2];rfl
theorem nW{j:Nat}{as:List L2.Arg}{p:PSt}{d:D}{ds:List D}(h:p[j]? =some (some d))(h2:cC as p=some ds):cC (.io j::as) p=some (d::ds):=by
 show((p[j]?).join).bind _=_
 rw [h,YC,Z3,h2];rfl
theorem xh6(c:Nat):∀(a b u v:List Nat),c∉a->c∉b->a++c::u=b++c::v->a=b/\u=v
 |[],[],u,v,_,_,e=>⟨rfl,(Xf e).2⟩
 |[],y::b,u,v,_,hb,e=>absurd (Xf e).1 (fun z=>hb (z▸Z0))
 |x::a,[],u,v,ha,_,e=>absurd (Xf e).1 (fun z=>ha (z▸Z0))
 |x::a,y::b,u,v,ha,hb,e=>by
  obtain⟨e1,e2⟩:=Xf e
  obtain⟨e3,e4⟩:=xh6 c a b u v (fun z=>ha (Z1 _ z)) (fun z=>hb (Z1 _ z)) e2
  exact⟨by rw [e1,e3],e4⟩
theorem tK{x y:Str}(h:x.cps.toList=y.cps.toList):x=y:=by
 cases x;cases y
 congr
 exact Xt.mp h
section
variable{c:Nat}
theorem lR(x y:Str)(r:List Str):(Str.join ⟨#[c]⟩ (x::y::r)).cps.toList=x.cps.toList++c::(Str.join ⟨#[c]⟩ (y::r)).cps.toList:=by
 show((x++⟨#[c]⟩)++Str.join ⟨#[c]⟩ (y::r)).cps.toList=_
 rw [bX,bX]
 show(x.cps.toList++[c])++_=_
 simp
theorem yg8:∀xs ys:List Str,xs≠[]->ys≠[]->(∀p∈xs,c∉p.cps.toList)->(∀p∈ys,c∉p.cps.toList)->Str.join ⟨#[c]⟩ xs=Str.join ⟨#[c]⟩ ys->xs=ys
 |[],_,h,_,_,_,_=>absurd rfl h
 |_,[],_,h,_,_,_=>absurd rfl h
 |[x],[y],_,_,_,_,e=>by rw [show x=y from e]
 |[x],y::y'::r,_,_,hx,_,e=>by
  have e':=ZK (fun z=>z.cps.toList) (show x=Str.join ⟨#[c]⟩ (y::y'::r) from e)
  rw [lR] at e'
  exact absurd (by rw [e'];simp) (hx x Z0)
 |x::x'::r,[y],_,_,_,hy,e=>by
  have e':=ZK (fun z=>z.cps.toList) (show Str.join ⟨#[c]⟩ (x::x'::r)=y from e)
  rw [lR] at e'
  exact absurd (by rw [<-e'];simp) (hy y Z0)
 |x::x'::r,y::y'::s,_,_,hx,hy,e=>by
  have e':=ZK (fun z=>z.cps.toList) e
  rw [lR,lR] at e'
  obtain⟨e1,e2⟩:=xh6 c _ _ _ _ (hx x Z0) (hy y Z0) e'
  have ih:=yg8 (x'::r) (y'::s) (by simp) (by simp) (fun p hp=>hx p (Z1 _ hp)) (fun p hp=>hy p (Z1 _ hp)) (tK e2)
  rw [tK e1,ih]
end
structure Gm where
 kd:Nat
 n:Int
 full:List (List Pc)
 parts:List Pc
def kdS:Nat->String
 |0=>"top"
 |1=>"group"
 |2=>"hang"
 |_=>"either"
def gmD(f:Gm):D:= .lst true [.str (kdS f.kd),.int f.n,.lst true (rowsD f.full),.lst true (pcsD f.parts)]
def cA:List Gm->List D
 |[]=>[]
 |f::fs=>cA fs++[gmD f]
theorem pO:∀fs,(cA fs).length=fs.length
 |[]=>rfl
 |f::fs=>by rw [cA,Z5,pO fs];rfl
def vR:List Pc:=[.leaf (.word "or")]
def qL(f:Gm):List (List Pc):=if f.full=[] then [f.parts,vR] else f.full++[f.parts]
def gR(f:Gm):Pc:=match f.kd with
 |1=> .group f.parts
 |2=> .hang f.n f.parts
 |_=> .either (qL f)
def lE(g:Gm)(p:Pc):Gm:={g with parts:=g.parts++[p]}
mutual
def okP:Pc->Prop
 | .leaf l=>hJ l
 | .group r=>okR r
 | .hang n r=>(0<=n/\n<=12)/\okR r
 | .either rs=>(2<=rs.length/\rs.length<=4)/\okRs rs
def okR:List Pc->Prop
 |[]=>True
 |p::r=>okP p/\okR r
def okRs:List (List Pc)->Prop
 |[]=>True
 |r::rs=>okR r/\okRs rs
end
theorem zs6:∀a b:List Pc,okR (a++b)↔okR a/\okR b
 |[],b=>by simp [okR]
 |p::a,b=>by rw [ZP,okR,okR,zs6 a b,and_assoc]
theorem zh9:∀a b:List (List Pc),okRs (a++b)↔okRs a/\okRs b
 |[],b=>by simp [okRs]
 |p::a,b=>by rw [ZP,okRs,okRs,zh9 a b,and_assoc]
theorem yq2(p:Pc):okR [p]↔okP p:=by simp [okR]
theorem yg9(r:List Pc):okRs [r]↔okR r:=by simp [okRs]
theorem uG:∀a b:List (List Pc),toksMore (a++b)=toksMore a++toksMore b
 |[],b=>rfl
 |r::a,b=>by
  show Tk.orr::(toksR r++toksMore (a++b))=(Tk.orr::(toksR r++toksMore a))++toksMore b
  rw [uG a b];simp
def wF(f:Gm):Nat:=(toksMore f.full).length+(toksR f.parts).length+4
def wG:List Gm->Nat
 |[]=>0
 |f::fs=>wF f+wG fs
def wn1(f:Gm):Prop:=okRs f.full/\okR f.parts/\f.full.length<=3/\(f.kd≠3->f.full=[])/\0<=f.n/\f.n<=12
def yk5:List Gm->Prop
 |[]=>False
 |[f]=>f.kd=0
 |f::g::fs=>(1<=f.kd/\f.kd<=3)/\yk5 (g::fs)
def xw5(m:Nat):List Gm->Prop
 |[]=>True
 |f::fs=>depR f.parts+fs.length<=m/\depRs f.full+fs.length<=m/\xw5 m fs
structure GInv(nest k:Nat)(fs:List Gm):Prop where
 len:fs.length<=nest+1
 wt:wG fs<=4*k+4
 each:∀f∈fs,wn1 f
 kinds:yk5 fs
 deep:xw5 nest fs
theorem yw9{f:Gm}(h:f.kd≠3->f.full=[])(hk:1<=f.kd/\f.kd<=3):(cR (gR f)).length<=wF f:=by
 have e:f.kd=1\/f.kd=2\/f.kd=3:=by omega
 unfold wF gR
 rcases e with e|e|e
 ·rw [e];show(Tk.opn::(toksR f.parts++[.cls])).length<=_;rw [Z6,Z5];simp;omega
 ·rw [e];show(Tk.hng f.n::(toksR f.parts++[.bck])).length<=_;rw [Z6,Z5];simp;omega
 ·rw [e]
  show(Tk.eit::(toksRows (qL f)++[.don])).length<=_
  rw [Z6,Z5]
  unfold qL
  cases hf:f.full with
  |nil=>
   rw [if_pos rfl]
   show(toksR f.parts++(Tk.orr::(toksR vR++[]))).length+1+1<=_
   simp [vR,toksR,cR,toksMore]
  |cons r rs=>
   rw [if_neg (by simp)]
   show(toksR r++toksMore (rs++[f.parts])).length+1+1<=(Tk.orr::(toksR r++toksMore rs)).length+_+4
   rw [uG]
   simp [toksMore];omega
theorem xq0{f:Gm}(h:wn1 f)(hk:1<=f.kd/\f.kd<=3):okP (gR f):=by
 obtain⟨h1,h2,h3,h4,h5,h6⟩:=h
 have e:f.kd=1\/f.kd=2\/f.kd=3:=by omega
 unfold gR
 rcases e with e|e|e
 ·rw [e];exact h2
 ·rw [e];exact⟨⟨h5,h6⟩,h2⟩
 ·rw [e]
  show(2<=(qL f).length/\(qL f).length<=4)/\okRs (qL f)
  unfold qL
  by_cases c:f.full=[]
  ·rw [if_pos c]
   refine⟨⟨by simp,by simp⟩,h2,?_,trivial⟩
   exact⟨⟨by decide+kernel,by decide+kernel,by decide+kernel⟩,trivial⟩
  ·rw [if_neg c]
   have hp:1<=f.full.length:=by cases hf:f.full with|nil=>exact absurd hf c|cons a l=>simp
   refine⟨⟨by rw [Z5];simp;omega,by rw [Z5];simp;omega⟩,?_⟩
   rw [zh9,yg9];exact⟨h1,h2⟩
theorem xh7{f:Gm}{m k:Nat}(h1:depR f.parts+(k+1)<=m)(h2:depRs f.full+(k+1)<=m):eD (gR f)+k<=m:=by
 unfold gR
 split
 ·show depR f.parts+1+k<=m;omega
 ·show depR f.parts+1+k<=m;omega
 ·show depRs (qL f)+1+k<=m
  unfold qL
  split
  ·show max (depR f.parts) (max (depR vR) 0)+1+k<=m
   have:depR vR=0:=rfl
   omega
  ·rw [xL];omega
theorem GInv.leaf{nest k:Nat}{f:Gm}{fs:List Gm}{l:Leaf}(h:GInv nest k (f::fs))(hl:hJ l):GInv nest (k+1) (lE f (.leaf l)::fs):=by
 obtain⟨h1,h2,h3,h4,h5⟩:=h
 have hf:=h3 f Z0
 refine⟨h1,?_,?_,?_,?_⟩
 ·have h2':wF f+wG fs<=4*k+4:=h2
  show(toksMore f.full).length+(toksR (f.parts++[.leaf l])).length+4+wG fs<=_
  rw [uD,Z5]
  unfold wF at h2'
  show _+(_+1)+4+_<=_
  omega
 ·intro x hx
  rcases Z2.mp hx with rfl|hx
  ·obtain⟨a1,a2,a3,a4,a5⟩:=hf
   exact⟨a1,(zs6 _ _).mpr ⟨a2,(yq2 _).mpr hl⟩,a3,a4,a5⟩
  ·exact h3 x (Z1 _ hx)
 ·cases fs with
  |nil=>exact h4
  |cons g fs=>exact⟨h4.1,h4.2⟩
 ·refine⟨?_,h5.2.1,h5.2.2⟩
  show depR (f.parts++[.leaf l])+fs.length<=nest
  rw [zR]
  have:=h5.1
  show max _ 0+_<=_
  omega
theorem GInv.opener{nest k:Nat}{fs:List Gm}{kd:Nat}{n:Int}(h:GInv nest k fs)(hk:1<=kd/\kd<=3)(hn:0<=n/\n<=12)(hl:fs.length<=nest):GInv nest (k+1) (⟨kd,n,[],[]⟩::fs):=by
 obtain⟨h1,h2,h3,h4,h5⟩:=h
 refine⟨by simp;omega,?_,?_,?_,?_⟩
 ·show 0+0+4+wG fs<=_;omega
 ·intro x hx
  rcases Z2.mp hx with rfl|hx
  ·exact⟨trivial,trivial,ZT _,fun _=>rfl,hn⟩
  ·exact h3 x hx
 ·cases fs with
  |nil=>exact h4.elim
  |cons g fs=>exact⟨hk,h4⟩
 ·exact⟨by show 0+_<=_;omega,by show 0+_<=_;omega,h5⟩
theorem GInv.orr{nest k:Nat}{f:Gm}{fs:List Gm}(h:GInv nest k (f::fs))(hf3:f.full.length<3)(hk:f.kd=3):GInv nest (k+1) ({f with full:=f.full++[f.parts],parts:=[]}::fs):=by
 obtain⟨h1,h2,h3,h4,h5⟩:=h
 have hf:=h3 f Z0
 refine⟨h1,?_,?_,?_,?_⟩
 ·have h2':wF f+wG fs<=4*k+4:=h2
  show(toksMore (f.full++[f.parts])).length+0+4+wG fs<=_
  rw [uG,Z5]
  unfold wF at h2'
  simp [toksMore];omega
 ·intro x hx
  rcases Z2.mp hx with rfl|hx
  ·obtain⟨a1,a2,a3,a4,a5⟩:=hf
   exact⟨(zh9 _ _).mpr ⟨a1,(yg9 _).mpr a2⟩,trivial,by show(f.full++[f.parts]).length<=3;rw [Z5];simp;omega,fun z=>absurd hk z,a5⟩
  ·exact h3 x (Z1 _ hx)
 ·cases fs with
  |nil=>exact h4
  |cons g fs=>exact⟨h4.1,h4.2⟩
 ·refine⟨?_,?_,h5.2.2⟩
  ·show 0+_<=_
   have:=h5.1;omega
  ·show depRs (f.full++[f.parts])+fs.length<=nest
   rw [xL]
   have a1:=h5.1;have a2:=h5.2.1
   omega
theorem GInv.shut{nest k:Nat}{f g:Gm}{fs:List Gm}(h:GInv nest k (f::g::fs)):GInv nest k (lE g (gR f)::fs):=by
 obtain⟨h1,h2,h3,h4,h5⟩:=h
 have hf:=h3 f Z0
 have hg:=h3 g (Z1 _ Z0)
 have hk:=h4.1
 refine⟨by simp at h1|-;omega,?_,?_,?_,?_⟩
 ·have h2':wF f+(wF g+wG fs)<=4*k+4:=h2
  have t:=yw9 hf.2.2.2.1 hk
  show(toksMore g.full).length+(toksR (g.parts++[gR f])).length+4+wG fs<=_
  rw [uD,Z5,xg3]
  unfold wF at h2' t
  omega
 ·intro x hx
  rcases Z2.mp hx with rfl|hx
  ·obtain⟨a1,a2,a3,a4,a5⟩:=hg
   exact⟨a1,(zs6 _ _).mpr ⟨a2,(yq2 _).mpr (xq0 hf hk)⟩,a3,a4,a5⟩
  ·exact h3 x (Z1 _ (Z1 _ hx))
 ·cases fs with
  |nil=>exact h4.2
  |cons g' fs=>exact⟨h4.2.1,h4.2.2⟩
 ·obtain⟨d1,d2,d3,d4,d5⟩:=h5
  refine⟨?_,d4,d5⟩
  show depR (g.parts++[gR f])+fs.length<=nest
  rw [zR]
  have:=xh7 (f:=f) (m:=nest) (k:=fs.length) d1 d2
  omega
theorem GInv.more{nest k k':Nat}{fs:List Gm}(h:GInv nest k fs)(hk:k<=k'):GInv nest k' fs:=⟨h.len,by have:=h.wt;omega,h.each,h.kinds,h.deep⟩
theorem xh8:∀{fs:List Gm} {f:Gm},f∈fs->wF f<=wG fs
 |[],_,h=>by simp at h
 |g::fs,f,h=>by
  show wF f<=wF g+wG fs
  rcases Z2.mp h with rfl|h
  ·omega
  ·have:=xh8 h;omega
theorem yx0(p:Pc):1<=(cR p).length:=by cases p<;>simp [cR]
theorem zl9:∀r:List Pc,r.length<=(toksR r).length
 |[]=>Zc _
 |p::r=>by
  show r.length+1<=(cR p++toksR r).length
  rw [Z5]
  have:=zl9 r;have:=yx0 p;omega
theorem GInv.parts{nest k:Nat}{fs:List Gm}{f:Gm}(h:GInv nest k fs)(hf:f∈fs):f.parts.length<=4*k+4:=by
 have h1:=xh8 hf;have h2:=h.wt;have h3:=zl9 f.parts
 unfold wF at h1;omega
theorem zm0:("\n":Str)=⟨#[10]⟩:=by decide+kernel
theorem xv5:(" ":Str)=⟨#[32]⟩:=by decide+kernel
theorem xq1:("":Str)=⟨#[]⟩:=by decide+kernel
theorem pP{x y:Str}(h:x.cps.toList=y.cps.toList):x=y:=by
 cases x;cases y
 simp only at h
 rw [Xt.mp h]
theorem lS(x:Str):x.length=x.cps.toList.length:=by simp [Str.length]
theorem zx5:∀(n:Nat) (a b:Array Nat),((List.replicate n a).foldl (·++·) b).toList=b.toList++(List.replicate n a.toList).flatten
 |0,a,b=>by simp
 |n+1,a,b=>by
  rw [Wh,List.foldl_cons,zx5 n a (b++a),Wh,List.flatten_cons]
  simp
theorem uH(n:Int):(Txt.mul " " n).cps.toList=List.replicate n.toNat 32:=by
 rw [xv5]
 unfold Txt.mul
 by_cases h:n<1
 ·rw [if_pos h,show n.toNat=0 by omega];rfl
 ·rw [if_neg h]
  by_cases h1:n=1
  ·subst h1;rfl
  ·rw [if_neg]
   ·show((List.replicate n.toNat #[32]).foldl (·++·) #[]).toList=_
    rw [zx5]
    simp
   ·simp [h1,Str.length]
theorem jW(n:Int):(Txt.mul " " n).length=n.toNat:=by rw [lS,uH,X6]
theorem zm1(n:Int):(10:Nat)∉(Txt.mul " " n).cps.toList:=by rw [uH];simp
def col(t:Str):Nat:=(t.cps.toList.reverse.takeWhile (· !=10)).length
theorem xh9{l:List Nat}(h:(10:Nat)∉l):∀a∈l,(a !=10)=true:=fun a ha=>by
 simp only [bne_iff_ne,ne_eq]
 intro e;subst e;exact h ha
theorem zs7{t w:Str}(h:(10:Nat)∉w.cps.toList):col (t++w)=col t+w.length:=by
 unfold col
 rw [bX,Xc,XC (xh9 (by simpa using h)),Z5,Xd,lS]
 omega
theorem zm2{t w:Str}(h:(10:Nat)∉w.cps.toList):col (t++((⟨#[10]⟩:Str)++w))=w.length:=by
 unfold col
 rw [bX,bX,Xc,Xc,Zt,XC (xh9 (by simpa using h)),Z5,Xd,lS]
 simp
theorem wi5(t:Str):col t<=t.length:=by
 unfold col
 rw [lS,<-Xd (as:=t.cps.toList)]
 exact(List.takeWhile_sublist _).length_le
theorem yb1{t:Str}{i:Nat}:StrLaws.At t ⟨#[10]⟩ t.length i↔t.cps.toList[i]? =some 10:=by
 unfold StrLaws.At Builtin.Str.subAt
 show i+1<=t.length/\(t.cps.extract i (i+1)== #[10])=true↔_
 rw [Yy,<-Xt]
 have e:(t.cps.extract i (i+1)).toList=(t.cps.toList.drop i).take 1:=by simp [Array.toList_extract,List.extract]
 rw [e,lS]
 constructor
 ·intro ⟨h1,h2⟩
  rw [Zn (by omega)]
  rw [ZR (by omega)] at h2
  simpa using h2
 ·intro h
  obtain⟨hi,h2⟩:=Z4.mp h
  refine⟨by omega,?_⟩
  rw [ZR hi,h2]
  rfl
theorem xi0(t:Str):(t.length:Int)-1-Txt.rfind t ⟨#[10]⟩=(col t:Int):=by
 rcases rfind_whole t ⟨#[10]⟩ with ⟨e,h⟩|⟨i,e,h1,h2⟩
 ·have hn:(10:Nat)∉t.cps.toList:=fun hm=>by
   obtain⟨i,hi⟩:=YE hm
   exact h i (yb1.mpr hi)
  have:=zs7 (t:=⟨#[]⟩) hn
  have e0:(⟨#[]⟩:Str)++t=t:=pP (by rw [bX];rfl)
  rw [e0,show col ⟨#[]⟩=0 from rfl] at this
  rw [e,this];omega
 ·rw [yb1] at h1
  obtain⟨hi,h3⟩:=Z4.mp h1
  have hs:t.cps.toList=t.cps.toList.take i++10::t.cps.toList.drop (i+1):=by
   rw [<-h3,<-ZR hi,List.take_append_drop]
  have hn:(10:Nat)∉t.cps.toList.drop (i+1):=fun hm=>by
   obtain⟨j,hj⟩:=YE hm
   rw [List.getElem?_drop] at hj
   exact h2 (i+1+j) (by omega) (yb1.mpr hj)
  have e1:t=(⟨(t.cps.toList.take i).toArray⟩:Str)++((⟨#[10]⟩:Str)++(⟨(t.cps.toList.drop (i+1)).toArray⟩:Str)):=pP (by
   rw [bX,bX]
   exact hs)
  have e2:=zm2 (t:=⟨(t.cps.toList.take i).toArray⟩) (w:=⟨(t.cps.toList.drop (i+1)).toArray⟩) hn
  rw [<-e1] at e2
  rw [e,e2,lS,lS]
  show((t.cps.toList.length:Nat):Int)-1-(i:Int)=(((t.cps.toList.drop (i+1)).length:Nat):Int)
  rw [Xq]
  omega
def nlw(m:Int):Str:=(⟨#[10]⟩:Str)++Txt.mul " " m
def wr(b:Bool)(m:Int)(k:Nat):Leaf->Option Str
 | .word x=>some x
 | .gap x=>if b then some (nlw m) else some x
 | .stop c=>if (k:Int)<=c then some (Txt.mul " " (c-k)) else if b then some (nlw c) else none
 | .fin=>if b then some (nlw m) else none
def Wr(w:Str):Prop:=(10:Nat)∉w.cps.toList\/∃m:Int,w=nlw m
theorem wb6{x:Str}(h:yk1 x):(10:Nat)∉x.cps.toList:=fun hm=>by
 have:=List.all_eq_true.mp h.2.2 _ hm
 simp [ze7] at this
theorem wi6{x:Str}(h:x=""\/x=" "):(10:Nat)∉x.cps.toList:=by
 rcases h with rfl|rfl
 ·simp [show("":Str)=⟨#[]⟩ from by decide+kernel]
 ·simp [xv5]
theorem yb2{b:Bool}{m:Int}{k:Nat}{l:Leaf}{w:Str}(hl:hJ l)(h0:0<=m)(h1:m<=200)(h:wr b m k l=some w):Wr w/\w.length<=201:=by
 have nl:∀c:Int,0<=c->c<=200->Wr (nlw c)/\(nlw c).length<=201:=fun c c0 c1=>⟨.inr ⟨c,rfl⟩,by unfold nlw;rw [dF,jW];show 1+_<=_;omega⟩
 cases l with
 |word x=>cases h;exact⟨.inl (wb6 hl),by have:=hl.2.1;omega⟩
 | gap x=>
  cases b with
  |true=>cases h;exact nl m h0 h1
  |false=>
   have e:x=w:=by simpa [wr] using h
   subst e
   have hl':x=""\/x=" ":=hl
   refine⟨.inl (wi6 hl'),?_⟩
   rcases hl' with e|e<;>subst e
   ·show(0:Nat)<=201;decide
   ·show(1:Nat)<=201;decide
 | stop c=>
  have hc:0<=c/\c<=40:=hl
  change (if (k:Int)<=c then some (Txt.mul " " (c-k)) else if b=true then some (nlw c) else none)=some w at h
  by_cases hk:(k:Int)<=c
  ·rw [if_pos hk] at h;cases h
   exact⟨.inl (zm1 _),by rw [jW];omega⟩
  ·rw [if_neg hk] at h
   cases b with
   |true=>cases h;exact nl c hc.1 (by omega)
   |false=>cases h
 |fin=>
  cases b with
  |true=>cases h;exact nl m h0 h1
  |false=>cases h
mutual
def dM:Bool->Int->Pc->List Int->Str->Option (List Int×Str)
 |b,m,.leaf l,cs,t=>(wr b m (col t) l).map fun w=>(cs,t++w)
 | b,m,.group r,cs,t=>if b=true then(match cs with
   |[]=>none
   |c::cs=>if c=0 then setR false m r cs t else if c=1 then setR true m r cs t else none) else setR false m r cs t
 |b,m,.hang n r,cs,t=>setR b (m+n) r cs t
 | b,m,.either rs,cs,t=>match cs with
   |[]=>none
   |c::cs=>if 0<=c then setAt b m rs c.toNat cs t else none
def setR:Bool->Int->List Pc->List Int->Str->Option (List Int×Str)
 |_,_,[],cs,t=>some (cs,t)
 |b,m,p::r,cs,t=>(dM b m p cs t).bind fun s=>setR b m r s.1 s.2
def setAt:Bool->Int->List (List Pc)->Nat->List Int->Str->Option (List Int×Str)
 |_,_,[],_,_,_=>none
 |b,m,r::_,0,cs,t=>setR b m r cs t
 |b,m,_::rs,i+1,cs,t=>setAt b m rs i cs t
end
theorem vB:∀{rs:List (List Pc)} {i:Nat} {b:Bool} {m:Int} {cs:List Int} {t:Str} {r:List Pc},rs[i]? =some r->setAt b m rs i cs t=setR b m r cs t
 |[],i,_,_,_,_,_,h=>by simp at h
 |q::rs,0,_,_,_,_,_,h=>by simp at h;subst h;rw [setAt]
 |q::rs,i+1,_,_,_,_,_,h=>by rw [setAt];exact vB (by simpa using h)
theorem zm3:∀{rs:List (List Pc)} {i:Nat} {b:Bool} {m:Int} {cs:List Int} {t:Str},rs[i]? =none->setAt b m rs i cs t=none
 |[],i,_,_,_,_,h=>by rw [setAt]
 |q::rs,0,_,_,_,_,h=>by simp at h
 |q::rs,i+1,_,_,_,_,h=>by rw [setAt];exact zm3 (by simpa using h)
mutual
theorem zx6:∀{p:Pc} {b:Bool} {m:Int} {cs cs':List Int} {t t':Str} (x:List Int),dM b m p cs t=some (cs',t')->dM b m p (cs++x) t=some (cs'++x,t')
 | .leaf l,b,m,cs,cs',t,t',x,h=>by
  rw [dM] at h|-
  cases e:wr b m (col t) l with
  |none=>rw [e] at h;cases h
  |some w=>rw [e] at h;cases h;rfl
 | .group r,b,m,cs,cs',t,t',x,h=>by
  rw [dM.eq_def] at h|-
  simp only at h|-
  cases b with
  |false=>simp only [Y6,YK] at h|-;exact setR_more x h
  | true=>
   cases cs with
   |nil=>simp at h
   | cons c cs=>
    simp only [Y9,ZP] at h|-
    by_cases c0:c=0
    ·simp only [c0,Y9] at h|-;exact setR_more x h
    ·by_cases c1:c=1
     ·simp only [c1,Y9] at h|-;exact setR_more x h
     ·simp [c0,c1] at h
 | .hang n r,b,m,cs,cs',t,t',x,h=>by rw [dM] at h|-;exact setR_more x h
 | .either rs,b,m,cs,cs',t,t',x,h=>by
  rw [dM.eq_def] at h|-
  cases cs with
  |nil=>cases h
  |cons c cs=>
   simp only [ZP] at h|-
   by_cases c0:0<=c
   ·simp only [c0,Y9] at h|-;exact setAt_more x h
   ·simp [c0] at h
theorem setR_more:∀{r:List Pc} {b:Bool} {m:Int} {cs cs':List Int} {t t':Str} (x:List Int),setR b m r cs t=some (cs',t')->setR b m r (cs++x) t=some (cs'++x,t')
 |[],b,m,cs,cs',t,t',x,h=>by rw [setR] at h|-;cases h;rfl
 | p::r,b,m,cs,cs',t,t',x,h=>by
  rw [setR] at h|-
  cases e:dM b m p cs t with
  |none=>rw [e] at h;cases h
  |some s=>
   obtain⟨c1,t1⟩:=s
   rw [e] at h
   rw [zx6 x e]
   exact setR_more x h
theorem setAt_more:∀{rs:List (List Pc)} {i:Nat} {b:Bool} {m:Int} {cs cs':List Int} {t t':Str} (x:List Int),setAt b m rs i cs t=some (cs',t')->setAt b m rs i (cs++x) t=some (cs'++x,t')
 |[],i,b,m,cs,cs',t,t',x,h=>by rw [setAt] at h;cases h
 |r::rs,0,b,m,cs,cs',t,t',x,h=>by rw [setAt] at h|-;exact setR_more x h
 |r::rs,i+1,b,m,cs,cs',t,t',x,h=>by rw [setAt] at h|-;exact setAt_more x h
end
abbrev nsP:List Str:=["broken","margin"]
def aM(b:Bool)(m:Int):D:= .obj false "Place" nsP [.bl b,.int m]
abbrev iP:tz7:=gE 3 0 (bC [true,false,false]) zF
theorem yx1(b:Bool)(m:Int):iP [.obj true "Place" [] [],.bl b,.int m]=some (.non,[.obj true "Place" nsP [.bl b,.int m],.bl b,.int m]):=by
 kernel_rfl
abbrev zb8:tz6:=gP 0 0 (uN iP)
abbrev kS:tz6:=gP 1 0 vH
def nE:Pc->Bool
 | .leaf _=>false
 |_=>true
theorem zi0(p:Pc):kS [pcD p]=some (.bl (nE p)):=by
 cases p with
 |leaf l=>cases l<;>kernel_rfl
 |_=>kernel_rfl
abbrev mD:tz6:=gP 2 0 sC
def dW(b:Bool):Pc->Bool
 | .either _=>true
 | .group _=>b
 |_=>false
theorem yh0(p:Pc)(b:Bool)(m:Int)(hp:nE p=true):mD [pcD p,aM b m]=some (.bl (dW b p)):=by
 cases p with
 |leaf l=>cases hp
 |group r=>cases b<;>kernel_rfl
 |_=>kernel_rfl
def cZ(b:Bool)(m:Int):Pc->List (List Pc×Bool×Int)
 | .leaf _=>[]
 | .group r=>if b=true then [(r,false,m),(r,true,m)] else [(r,false,m)]
 | .hang n r=>[(r,b,m+n)]
 | .either rs=>rs.map fun r=>(r,b,m)
def eE(x:List Pc×Bool×Int):D:= .tup [.tup (pcsD x.1),aM x.2.1 x.2.2]
abbrev vS:tz6:=gP 2 2 (lW iP)
theorem qY(b:Bool)(m:Int):(aM b m).imm=true:=rfl
theorem zd3(x:List Pc×Bool×Int):(eE x).imm=true:=by
 show(D.imm (.tup (pcsD x.1))&&(D.imm (aM x.2.1 x.2.2)&&D.imms []))=true
 rw [show D.imm (.tup (pcsD x.1))=D.imms (pcsD x.1) from rfl,pcs_imm];rfl
theorem zx7(b:Bool)(m:Int):∀(rs:List (List Pc)) (x:Option D),gO [x,some (aM b m)] iG (cK (aB (aY (aA 0)) (aB (aY (aA 1)) aE))) (rowsD rs)=some ((rs.map fun r=>(r,b,m)).map eE)
 |[],_=>rfl
 | r::rs,x=>by
  have ih:=zx7 b m rs x
  have hi:=qY b m
  have hp:=pcs_imm r
  show gO _ _ _ (.tup (pcsD r)::rowsD rs)=_
  rw [gO]
  show(iG [some (.tup (pcsD r)),some (aM b m)]).bind _=_
  rw [Z9,Z9]
  have e:cK (aB (aY (aA 0)) (aB (aY (aA 1)) aE)) [some (.tup (pcsD r)),some (aM b m)]=some (eE (r,b,m)):=by
   unfold eE
   generalize aM b m=q at hi|-
   simp! [dIn,inB,mO,D.flat,D.flats,inV,eqV,oN,fOr,mW,cP,lC,hp,hi]
  show((cK (aB (aY (aA 0)) (aB (aY (aA 1)) aE)) [some (.tup (pcsD r)),some (aM b m)]).bind _)=_
  rw [e,Z3,ih];rfl
def ze9:Pc->Nat
 | .either rs=>rs.length
 |_=>0
theorem kd2{p:PSt}{k w:String}{b:Bool}(hp:p[2]? =some (some (.str k)))(h:decide (k=w)=b):fB (f2 dEq (aA 2) (fC (.str w))) p=some b:=by
 refine eP (aR (nV hp) rfl ?_)
 show some (D.bl (decide ((k:Str)=(w:Str))))=_
 rw [<-h]
 congr 2
 exact YB.mpr (by rw [gA])
theorem zi1{p:PSt}{f g:tz2}{b:Bool}{m:Int}(h1:f p=some (.bl b))(h2:g p=some (.int m)):mW (fD "Place" (cC [.im f,.im g]) iP) p=some (aM b m):=by
 have q:=yx1 b m
 have e:fD "Place" (cC [.im f,.im g]) iP p=some (.obj true "Place" nsP [.bl b,.int m]):=by
  unfold fD
  rw [dO h1 rfl (dO h2 rfl gH),Z3,q];rfl
 unfold mW
 rw [e];rfl
theorem yh1:zb8 []=some (aM true 0):=gF (p:=[]) rfl (cH (zi1 rfl rfl))
theorem zs8{p:PSt}{f g:tz2}{r:List Pc}{b:Bool}{m:Int}(h1:f p=some (.tup (pcsD r)))(h2:g p=some (aM b m)):cK (aB f (aB g aE)) p=some (eE (r,b,m)):=by
 unfold cK
 rw [aD h1 (aD h2 rfl)]
 refine(if_pos ?_).trans rfl
 have:=zd3 (r,b,m)
 rw [show D.imms [.tup (pcsD r),aM b m]=true from this];rfl
theorem yq3(p:Pc)(b:Bool)(m:Int)(hp:nE p=true)(hl:ze9 p<=1000):vS [pcD p,aM b m]=some (.lst true ((cZ b m p).map eE)):=by
 show gP 2 2 (lW iP) _=_
 cases p with
 |leaf l=>cases hp
 | group r=>
  have s1:aW 2 (aI (aY (f2 dIx (aA 0) (fC (.int 0))))) [some (pcD (.group r)),some (aM b m),none,none]=some (.nx,[some (pcD (.group r)),some (aM b m),some (.str "group"),none]):=bH (bW (aR rfl rfl (kZ _ _)) rfl)
  have s4:aW 3 (aI (cK (aB (aY (f2 dIx (aA 0) (fC (.int 1)))) (aB (mW (fD "Place" (cC [.im (fC (.bl false)),.im (cL "Place" "margin" (aA 1))]) iP)) aE)))) [some (pcD (.group r)),some (aM b m),some (.str "group"),none]=some (.nx,[some (pcD (.group r)),some (aM b m),some (.str "group"),some (eE (r,false,m))]):=bH (zs8 (bW (aR rfl rfl (iF _ _ _)) (pcs_imm r)) (zi1 rfl (by kernel_rfl)))
  have w3:aY (aA 3) [some (pcD (.group r)),some (aM b m),some (.str "group"),some (eE (r,false,m))]=some (eE (r,false,m)):=bW rfl (zd3 _)
  have br:fT (cL "Place" "broken" (aA 1)) [some (pcD (.group r)),some (aM b m),some (.str "group"),some (eE (r,false,m))]=some b:=mL (by kernel_rfl)
  suffices h:∃q,lW iP [some (pcD (.group r)),some (aM b m),none,none]=some (.ret (.lst true ((cZ b m (.group r)).map eE)),q) from by
   obtain⟨q,hq⟩:=h;exact gF rfl hq
  unfold lW
  rw [aO s1,aO (bD (kd2 rfl (by decide))),aO (bD (kd2 rfl (by decide))),aO s4]
  cases b with
  |true=>exact⟨_,eA ((bO br).trans (cH (fO (aD w3 (aD (zs8 (bW (aR rfl rfl (iF _ _ _)) (pcs_imm r)) (bW rfl rfl)) rfl)) (Za rfl))))⟩
  |false=>exact⟨_,(aO (bD br)).trans (cH (fO (aD w3 rfl) (Za rfl)))⟩
 |hang n r=>
  have s1:aW 2 (aI (aY (f2 dIx (aA 0) (fC (.int 0))))) [some (pcD (.hang n r)),some (aM b m),none,none]=some (.nx,[some (pcD (.hang n r)),some (aM b m),some (.str "hang"),none]):=bH (bW (aR rfl rfl (kZ _ _)) rfl)
  refine gF (p:=[some (pcD (.hang n r)),some (aM b m),some (.str "hang"),none]) rfl ?_
  unfold lW
  exact(aO s1).trans (eA ((bO (kd2 rfl (by decide))).trans (cH (fO (aD (zs8 (bW (aR rfl rfl (yg7 _ _ _ _)) (pcs_imm r)) (zi1 (by kernel_rfl) (aR (x:= .int m) (by kernel_rfl) (aR rfl rfl (iF _ _ _)) rfl))) rfl) (Za rfl)))))
 | either rs=>
  generalize iP=G
  have hz:(rowsD rs).length<=sizeLine:=by rw [kB];exact sz hl
  have e:=zx7 b m rs none
  have e2:iD [none,some 1] (cP (f2 dIx (aA 0) (fC (.int 1)))) iG (cK (aB (aY (aA 0)) (aB (aY (aA 1)) aE))) [some (pcD (.either rs)),some (aM b m),some (.str "either"),none]=some (.lst true ((cZ b m (.either rs)).map eE)):=by
   unfold iD
   have e3:cP (f2 dIx (aA 0) (fC (.int 1))) [some (pcD (.either rs)),some (aM b m),some (.str "either"),none]=some (rowsD rs):=by simp! [dIn,inB,mO,D.flat,D.flats,inV,eqV,oN,fOr,mW,cP,lC,pcD]
   rw [e3,Z3,if_pos hz]
   have e4:gO (rY [none,some 1] [some (pcD (.either rs)),some (aM b m),some (.str "either"),none]) iG (cK (aB (aY (aA 0)) (aB (aY (aA 1)) aE))) (rowsD rs)=some ((rs.map fun r=>(r,b,m)).map eE):=e
   rw [e4];rfl
  have s1:aW 2 (aI (aY (f2 dIx (aA 0) (fC (.int 0))))) [some (pcD (.either rs)),some (aM b m),none,none]=some (.nx,[some (pcD (.either rs)),some (aM b m),some (.str "either"),none]):=by simp! [dIn,inB,mO,D.flat,D.flats,inV,eqV,oN,fOr,mW,cP,lC,pcD]
  have s2:∀F:tz1,fIf (aU (fB (f2 dEq (aA 2) (fC (.str "hang"))))) F bN [some (pcD (.either rs)),some (aM b m),some (.str "either"),none]=some (.nx,[some (pcD (.either rs)),some (aM b m),some (.str "either"),none]):=fun F=>by simp! [dIn,inB,mO,D.flat,D.flats,inV,eqV,oN,fOr,mW,cP,lC]
  have s3:∀F:tz1,fIf (aU (fB (f2 dEq (aA 2) (fC (.str "either"))))) F bN [some (pcD (.either rs)),some (aM b m),some (.str "either"),none]=F [some (pcD (.either rs)),some (aM b m),some (.str "either"),none]:=fun F=>by simp! [dIn,inB,mO,D.flat,D.flats,inV,eqV,oN,fOr,mW,cP,lC]
  refine gF rfl ?_ (p:=[some (pcD (.either rs)),some (aM b m),some (.str "either"),none])
  unfold lW
  exact(aO s1).trans ((aO (s2 _)).trans (eA ((s3 _).trans (cH e2))))
abbrev gNl:tz6:=gP 1 0 zC
theorem yb3(m:Int)(h0: -1000<=m)(h1:m<=1000):iL (.str " ") (.int m)=some (.str (Txt.mul " " m)):=by
 rw [iL,if_pos]
 simp only [ZA,ZX]
 exact⟨⟨by decide+kernel,by omega⟩,by omega⟩
theorem xv6(m:Int)(h0:0<=m)(h1:m<=200):gNl [.int m]=some (.str (nlw m)):=by
 have q:=yb3 m (by omega) (by omega)
 have hl:1+(Txt.mul " " m).length<=sizeLine:=by rw [jW];exact sz (by omega)
 have e:((⟨#[10]⟩:Str)++Txt.mul " " m)=nlw m:=rfl
 have e1:cJ (.str "\n") (.str (Txt.mul " " m))=some (.str (nlw m)):=by
  rw [zm0,cJ,if_pos (by exact hl)];rfl
 exact gF rfl (cH (aR rfl (aR rfl rfl q) e1))
abbrev pW:tz6:=gP 3 1 (oV gNl)
def wrD:Option Str->D
 |some w=> .str w
 |none=> .non
theorem kd3{p:PSt}{k w:String}{b:Bool}(hp:p[3]? =some (some (.str k)))(h:decide (k=w)=b):fB (f2 dEq (aA 3) (fC (.str w))) p=some b:=by
 refine eP (aR (nV hp) rfl ?_)
 show some (D.bl (decide ((k:Str)=(w:Str))))=_
 rw [<-h]
 congr 2
 exact YB.mpr (by rw [gA])
theorem zm4(l:Leaf)(b:Bool)(m:Int)(k:Nat)(hl:hJ l)(h0:0<=m)(h1:m<=200)(hk:k<=1000000):pW [bP l,aM b m,.int k]=some (wrD (wr b m k l)):=by
 suffices h:∃q,oV gNl [some (bP l),some (aM b m),some (.int k),none]=some (.ret (wrD (wr b m k l)),q) from by
  obtain⟨q,hq⟩:=h;exact gF rfl hq
 have br:∀d x,fT (cL "Place" "broken" (aA 1)) [some d,some (aM b m),some (.int k),x]=some b:=fun d x=>mL (by kernel_rfl)
 have mg:∀d x,aH gNl (aB (cL "Place" "margin" (aA 1)) aE) [some d,some (aM b m),some (.int k),x]=some (.str (nlw m)):=fun d x=>aS (ds:=[.int m]) (aD (by kernel_rfl) rfl) (xv6 m h0 h1)
 have s1:∀(w:String) (ds:List D),aW 3 (aI (aY (f2 dIx (aA 0) (fC (.int 0))))) [some (.tup (.str w::ds)),some (aM b m),some (.int k),none]=some (.nx,[some (.tup (.str w::ds)),some (aM b m),some (.int k),some (.str w)]):=fun w ds=>bH (bW (aR rfl rfl (kZ _ _)) rfl)
 unfold oV
 cases l with
 |word x=>exact⟨_,(aO (s1 "word" [.str x])).trans (eA ((bO (kd3 rfl (by decide))).trans (cH (bW (aR rfl rfl (iF _ _ _)) rfl))))⟩
 |gap x=>
  show ∃q,aV _ _ [some (.tup [.str "gap",.str x]),some (aM b m),some (.int k),none]=_
  rw [aO (s1 "gap" [.str x]),aO (bD (kd3 rfl (by decide)))]
  cases b with
  |false=>exact⟨_,eA ((bO (lP (kd3 rfl (by decide)) (iC (br _ _)))).trans (cH (bW (aR rfl rfl (iF _ _ _)) rfl)))⟩
  |true=>exact⟨_,(aO (bD (lP (kd3 rfl (by decide)) (iC (br _ _))))).trans ((aO (bD (mX (kd3 rfl (by decide))))).trans ((aO (bD (iC (br _ _)))).trans ((aO (bD (kd3 rfl (by decide)))).trans (cH (mg _ _)))))⟩
 |fin=>
  show ∃q,aV _ _ [some (.tup [.str "end"]),some (aM b m),some (.int k),none]=_
  rw [aO (s1 "end" []),aO (bD (kd3 rfl (by decide))),aO (bD (mX (kd3 rfl (by decide)))),aO (bD (mX (kd3 rfl (by decide))))]
  cases b with
  |false=>exact⟨_,eA ((bO (iC (br _ _))).trans (cH rfl))⟩
  |true=>exact⟨_,(aO (bD (iC (br _ _)))).trans ((aO (bD (kd3 rfl (by decide)))).trans (cH (mg _ _)))⟩
 | stop c=>
  have hc:0<=c/\c<=40:=hl
  show ∃q,aV _ _ [some (.tup [.str "stop",.int c]),some (aM b m),some (.int k),none]=_
  have le:fB (f2 dLe (aA 2) (f2 dIx (aA 0) (fC (.int 1)))) [some (.tup [.str "stop",.int c]),some (aM b m),some (.int k),some (.str "stop")]=some (decide ((k:Int)<=c)):=eP (aR rfl (aR rfl rfl (iF _ _ _)) rfl)
  rw [aO (s1 "stop" [.int c]),aO (bD (kd3 rfl (by decide))),aO (bD (mX (kd3 rfl (by decide))))]
  by_cases hkc:(k:Int)<=c
  ·rw [Zo hkc] at le
   rw [show wr b m k (.stop c)=some (Txt.mul " " (c-k)) from if_pos hkc]
   exact⟨_,eA ((bO (lP (kd3 rfl (by decide)) le)).trans (cH (aR rfl (aR (aR rfl rfl (iF _ _ _)) rfl rfl) (yb3 (c-k) (by omega) (by omega)))))⟩
  ·rw [Zh hkc] at le
   rw [aO (bD (lP (kd3 rfl (by decide)) le))]
   cases b with
   |false=>
    rw [show wr false m k (.stop c)=none from(if_neg hkc).trans rfl]
    exact⟨_,eA ((bO (iC (br _ _))).trans (cH rfl))⟩
   |true=>
    rw [show wr true m k (.stop c)=some (nlw c) from(if_neg hkc).trans rfl]
    exact⟨_,(aO (bD (iC (br _ _)))).trans (eA ((bO (kd3 rfl (by decide))).trans (cH (aS (aD (aR rfl rfl (iF _ _ _)) rfl) (xv6 c hc.1 (by omega))))))⟩
theorem xi1{w:Str}:Txt.startswith w ⟨#[10]⟩=decide (w.cps.toList[0]? =some 10):=by
 rw [Yl,ZX,<-yb1 (t:=w) (i:=0)]
 unfold Txt.startswith StrLaws.At
 simp only [ZA,ZX]
abbrev sT:tz6:=gP 1 0 pT
theorem zs9(w:Str):sT [.str w]=some (.bl (decide (w.cps.toList[0]? =some 10))):=by
 rw [<-xi1,<-zm0]
 simp! [pT,qG,ze2]
abbrev pX:tz6:=gP 2 0 (eG sT)
theorem xi2{t w:Str}(hw:Wr w)(hz:w.length<=1000):pX [.int (col t),.str w]=some (.int (col (t++w))):=by
 have q:=zs9 w
 have hz':w.length<=sizeLine:=sz hz
 show gP 2 0 (eG sT) _=_
 rcases hw with h|⟨m,rfl⟩
 ·have e:decide (w.cps.toList[0]? =some 10)=false:=Zh fun h'=>h (ZM h')
  rw [e] at q
  rw [zs7 h]
  generalize sT=G at q|-
  simp! [eG,q,hz']
 ·have e:decide ((nlw m).cps.toList[0]? =some 10)=true:=Zo (by unfold nlw;rw [bX];rfl)
  rw [e] at q
  have e2:col (t++nlw m)=(nlw m).length-1:=by
   unfold nlw
   rw [zm2 (zm1 m),dF];show _=1+_-1;omega
  have e3:1<=(nlw m).length:=by unfold nlw;rw [dF];show 1<=1+_;omega
  rw [e2]
  generalize sT=G at q|-
  generalize nlw m=w at hz' q e3|-
  simp! [eG,q,hz']
  omega
def cat:List Str->Str
 |[]=>⟨#[]⟩
 |x::xs=>x++cat xs
theorem zt0(t:Str):t++(⟨#[]⟩:Str)=t:=pP (by rw [bX];simp! [Yo])
theorem yq4(t:Str):(⟨#[]⟩:Str)++t=t:=pP (by rw [bX];simp! [Yo])
theorem yq5(a b c:Str):(a++b)++c=a++(b++c):=pP (by simp only [bX,Zt])
theorem xP:∀(ps:List Str) (w:Str),cat (ps++[w])=cat ps++w
 |[],w=>by show w++(⟨#[]⟩:Str)=(⟨#[]⟩:Str)++w;rw [zt0,yq4]
 |x::ps,w=>by show x++cat (ps++[w])=(x++cat ps)++w;rw [xP ps w,yq5]
abbrev nsS:List Str:=["choices","used","column","parts"]
def aX(C:List Int):List D:=C.map .int
theorem za0(a b:List Int):aX (a++b)=aX a++aX b:=by simp! [aX]
theorem qZ(a:List Int):(aX a).length=a.length:=by simp! [aX]
theorem za1:∀C:List Int,D.ints (aX C)=some C
 |[]=>rfl
 |c::C=>by show D.ints (.int c::aX C)=_;rw [D.ints,za1 C];rfl
def stD(C:List Int)(u:Nat)(ps:List Str):D:= .obj true "Setter" nsS [.tup (aX C),.int u,.int (col (cat ps)),.lst true (eI ps)]
theorem gV:∀C,D.imms (aX C)=true
 |[]=>rfl
 |c::C=>by show(D.imm (.int c)&&D.imms (aX C))=true;rw [gV C];rfl
abbrev kT:tz7:=gE 3 1 (bC [true,false,false]) (jC pW pX)
theorem xq2{C:List Int}{u:Nat}{ps:List Str}{l:Leaf}{b:Bool}{m:Int}{w:Str}(hl:hJ l)(h0:0<=m)(h1:m<=200)(hw:wr b m (col (cat ps)) l=some w)(hp:ps.length<=900)(hc:(cat ps).length<=1000000):
  kT [stD C u ps,bP l,aM b m]=some (.non,[stD C u (ps++[w]),bP l,aM b m]):=by
 obtain⟨hW,hz⟩:=yb2 hl h0 h1 hw
 have q1:=zm4 l b m (col (cat ps)) hl h0 h1 (Zv (wi5 _) hc)
 rw [hw] at q1
 have q2:=xi2 (t:=cat ps) hW (by omega)
 have hi:(eI ps).length<sizeLine:=by rw [xh5];exact sz1 (by omega)
 have es:eI (ps++[w])=eI ps++[.str w]:=by rw [xh4];rfl
 show gE 3 1 _ (jC pW pX) _=_
 unfold stD
 rw [xP,es]
 generalize bP l=dl at q1|-
 generalize aM b m=dp at q1|-
 generalize pW=G1 at q1|-
 generalize pX=G2 at q2|-
 simp only [wrD] at q1
 simp! [jC,q1,q2,hi]
abbrev pH:tz7:=gE 2 1 (bC [true,false]) jM
theorem kU{α:Type}{xs:List α}{n:Nat}{v:α}(h:xs[n]? =some v):atI xs (n:Int)=some v:=zq5 h
theorem xq3{C:List Int}{u n:Nat}{c:Int}{ps:List Str}(hc:C[u]? =some c)(h0:0<=c)(h1:c<n):pH [stD C u ps,.int n]=some (.int c,[stD C (u+1) ps,.int n]):=by
 obtain⟨hu,_⟩:=Z4.mp hc
 have hl:(aX C).length=C.length:=Z8 _
 have e:atI (aX C) (u:Int)=some (.int c):=kU (by unfold aX;rw [Zd,hc];rfl)
 have g1:¬((C.length:Int)<=(u:Int)):=by omega
 have g2:¬(c<0):=by omega
 have g3:¬((n:Int)<=c):=by omega
 unfold stD
 simp! [jM,hl,e,g1,g2,g3]
abbrev yO(GR:tz7):tz7:=gE 3 3 (bC [true,false,false]) (iN vS mD pH GR)
theorem zd4{GR:tz7}{p:Pc}{b:Bool}{m:Int}{C:List Int}{u u1 i:Nat}{ps:List Str}{x:List Pc×Bool×Int}{N:D}(hp:nE p=true)(hn:ze9 p<=1000)(hi:(cZ b m p)[i]? =some x)
  (hc:(dW b p=true/\C[u]? =some (i:Int)/\u1=u+1)\/(dW b p=false/\i=0/\u1=u)) (hR:GR [stD C u1 ps,.tup (pcsD x.1),aM x.2.1 x.2.2]=some (.non,[N,.tup (pcsD x.1),aM x.2.1 x.2.2])):
  yO GR [stD C u ps,pcD p,aM b m]=some (.non,[N,pcD p,aM b m]):=by
 have q1:=yq3 p b m hp hn
 have q2:=yh0 p b m hp
 have hil:i<((cZ b m p).map eE).length:=by rw [Z8];exact(Z4.mp hi).1
 have e1:atI ((cZ b m p).map eE) (i:Int)=some (eE x):=kU (by rw [Zd,hi];rfl)
 have hw:=zd3 x
 have p1:=pcs_imm x.1
 have p2:=qY x.2.1 x.2.2
 generalize hW:(cZ b m p).map eE=W at q1 hil e1
 have st1:∀v ps',stD C v ps'= .obj true "Setter" nsS [.tup (aX C),.int v,.int (col (cat ps')),.lst true (eI ps')]:=fun _ _=>rfl
 have hm:∀v,eC "Setter" "set_row" GR [.tup (pcsD x.1),aM x.2.1 x.2.2] (stD C v ps)=(GR [stD C v ps,.tup (pcsD x.1),aM x.2.1 x.2.2]).bind fun r=>match r.2 with
   |d'::ds=>if ds.length=2 then some (r.1,d') else none
   |[]=>none:=fun v=>by
  rw [st1]
  show(if (("Setter":Str)="Setter"/\cQ nsS "set_row"=none) then _ else none)=_
  exact if_pos ⟨rfl,by simp! [Yo]⟩
 have hm1:eC "Setter" "set_row" GR [.tup (pcsD x.1),aM x.2.1 x.2.2] (stD C u1 ps)=some (.non,N):=by rw [hm,hR];rfl
 have body:∀f4:Int,aV (aW 5 (aI (aY (f2 dIx (aA 3) (aA 4))))) (cN (dA 0 bI (cC [.im (f2 dIx (aA 5) (fC (.int 0))),.im (f2 dIx (aA 5) (fC (.int 1)))]) (eC "Setter" "set_row" GR))) [some (stD C u1 ps),some (pcD p),some (aM b m),some (.lst true W),some (.int (i:Int)),none]=some (.nx,[some N,some (pcD p),some (aM b m),some (.lst true W),some (.int (i:Int)),some (eE x)]):=fun _=>by
  have s1:aW 5 (aI (aY (f2 dIx (aA 3) (aA 4)))) [some (stD C u1 ps),some (pcD p),some (aM b m),some (.lst true W),some (.int (i:Int)),none]=some (.nx,[some (stD C u1 ps),some (pcD p),some (aM b m),some (.lst true W),some (.int (i:Int)),some (eE x)]):=by
   refine bH ?_
   simp! [e1,hw]
  refine(aO s1).trans ?_
  unfold eE at*
  generalize aM x.2.1 x.2.2=PX at*
  generalize stD C u1 ps=ST at*
  simp! [p1,p2,hm1]
 show gE 3 3 _ (iN vS mD pH GR) _=_
 have s1:aW 3 (aI (aH vS (aB (aA 1) (aB (aA 2) aE)))) [some (stD C u ps),some (pcD p),some (aM b m),none,none,none]=some (.nx,[some (stD C u ps),some (pcD p),some (aM b m),some (.lst true W),none,none]):=bH (aS (aD rfl (aD rfl rfl)) q1)
 have s2:aW 4 (aI (fC (.int 0))) [some (stD C u ps),some (pcD p),some (aM b m),some (.lst true W),none,none]=some (.nx,[some (stD C u ps),some (pcD p),some (aM b m),some (.lst true W),some (.int 0),none]):=rfl
 have t1:∀B,dW b p=B->aU (fT (aH mD (aB (aA 1) (aB (aA 2) aE)))) [some (stD C u ps),some (pcD p),some (aM b m),some (.lst true W),some (.int 0),none]=some (B,[some (stD C u ps),some (pcD p),some (aM b m),some (.lst true W),some (.int 0),none]):=fun B hB=>by
  have e:aH mD (aB (aA 1) (aB (aA 2) aE)) [some (stD C u ps),some (pcD p),some (aM b m),some (.lst true W),some (.int 0),none]=some (.bl B):=aS (aD rfl (aD rfl rfl)) (hB▸q2)
  unfold aU fT
  rw [e];rfl
 have s3:fIf (aU (fT (aH mD (aB (aA 1) (aB (aA 2) aE))))) (aW 4 (dA 0 bI (cC [.im (aH cW (aB (aA 3) aE))]) (eC "Setter" "choice_below" pH))) bN [some (stD C u ps),some (pcD p),some (aM b m),some (.lst true W),some (.int 0),none]=some (.nx,[some (stD C u1 ps),some (pcD p),some (aM b m),some (.lst true W),some (.int (i:Int)),none]):=by
  rcases hc with ⟨hT,hC,rfl⟩|⟨hT,rfl,rfl⟩
  ·refine(yb0 (t1 _ hT)).trans ?_
   have qb:=xq3 (ps:=ps) hC (by omega) (show(i:Int)<(W.length:Nat) by omega)
   have hb:eC "Setter" "choice_below" pH [.int (W.length:Nat)] (stD C u ps)=some (.int (i:Int),stD C (u+1) ps):=by
    have e:eC "Setter" "choice_below" pH [.int (W.length:Nat)] (stD C u ps)=(pH [stD C u ps,.int (W.length:Nat)]).bind fun r=>match r.2 with
      |d'::ds=>if ds.length=1 then some (r.1,d') else none
      |[]=>none:=by
     rw [st1]
     show(if (("Setter":Str)="Setter"/\cQ nsS "choice_below"=none) then _ else none)=_
     exact if_pos ⟨rfl,by simp! [Yo]⟩
    rw [e,qb];rfl
   generalize pH=G at hb|-
   generalize stD C u ps=S0 at hb|-
   generalize stD C (u+1) ps=S1 at hb|-
   generalize pcD p=d1
   generalize aM b m=d2
   simp! [hb]
  ·exact(fU (t1 _ hT)).trans rfl
 have z:=(aO s1).trans ((aO s2).trans ((aO s3).trans (body 0)))
 unfold gE
 refine(if_pos rfl).trans ?_
 have z':iN vS mD pH GR ([stD C u ps,pcD p,aM b m].map some++List.replicate 3 none)=some (.nx,[some N,some (pcD p),some (aM b m),some (.lst true W),some (.int (i:Int)),some (eE x)]):=z
 rw [z']
 rfl
def yP(GH GPl:tz7):tz1:=
   (fIf (aU (fT (aH kS (aB (aA 3) aE))))
   (cN (dA 0 bI (cC [.im (aA 3),.im (aA 2)]) (eC "Setter" "set_holder" GH)))
   (cN (dA 0 bI (cC [.im (aA 3),.im (aA 2)]) (eC "Setter" "set_plain" GPl))))
theorem zt1{g:tz7}{m:Str}{C:List Int}{u:Nat}{ps:List Str}{d1 d2 N v:D}(hm:cQ nsS m=none)(h:g [stD C u ps,d1,d2]=some (v,[N,d1,d2])):eC "Setter" m g [d1,d2] (stD C u ps)=some (v,N):=by
 show(if (("Setter":Str)="Setter"/\cQ nsS m=none) then(g [stD C u ps,d1,d2]).bind _ else none)=_
 rw [if_pos ⟨rfl,hm⟩,h];rfl
theorem zd5{GH:tz7}{C:List Int}{u:Nat}{ps:List Str}{p:Pc}{b:Bool}{m:Int}{R:Option D}{N:D}(hp:nE p=true)(h:GH [stD C u ps,pcD p,aM b m]=some (.non,[N,pcD p,aM b m])):
  yP GH kT [some (stD C u ps),R,some (aM b m),some (pcD p)]=some (.nx,[some N,R,some (aM b m),some (pcD p)]):=by
 have q:=zi0 p
 rw [hp] at q
 have hm:=zt1 (m:="set_holder") (by simp! [Yo]) h
 have i1:=wR p
 have i2:=qY b m
 unfold yP
 generalize kS=G1 at q|-
 generalize kT=G2
 generalize stD C u ps=S at hm|-
 generalize pcD p=d1 at*
 generalize aM b m=d2 at*
 refine(yb0 (p':=[some S,R,some d2,some d1]) (by simp! [q])).trans ?_
 simp! [i1,i2,hm]
theorem xq4{GH:tz7}{C:List Int}{u:Nat}{ps:List Str}{l:Leaf}{b:Bool}{m:Int}{R:Option D}{N:D}(h:kT [stD C u ps,bP l,aM b m]=some (.non,[N,bP l,aM b m])):
  yP GH kT [some (stD C u ps),R,some (aM b m),some (bP l)]=some (.nx,[some N,R,some (aM b m),some (bP l)]):=by
 have q:kS [bP l]=some (.bl false):=zi0 (.leaf l)
 have hm:=zt1 (m:="set_plain") (by simp! [Yo]) h
 have i1:=zh6 l
 have i2:=qY b m
 unfold yP
 generalize kS=G1 at q|-
 generalize kT=G2 at hm|-
 generalize stD C u ps=S at hm|-
 generalize bP l=d1 at*
 generalize aM b m=d2 at*
 refine(fU (p':=[some S,R,some d2,some d1]) (by simp! [q])).trans ?_
 simp! [i1,i2,hm]
def sU:Nat->tz7
 |0=>fun _=>none
 |n+1=>gE 3 1 (bC [true,false,false]) (jS kS (yO (sU n)) kT)
def yQ(a l w:Nat):Prop:=a+w<=900/\l+201*w<=1000000
def lI(a a' l l' w:Nat):Prop:=a'<=a+w/\l'<=l+201*w
theorem zd6{a l w w':Nat}(h:yQ a l w)(hw:w'<=w):yQ a l w':=by unfold yQ at*;omega
theorem xQ{a a' l l' w w':Nat}(h:lI a a' l l' w)(hw:w<=w'):lI a a' l l' w':=by unfold lI at*;omega
theorem xi3{a a' l l' v w:Nat}(h:yQ a l (v+w))(g:lI a a' l l' v):yQ a' l' w:=by unfold yQ lI at*;omega
theorem yn1{a a1 a2 l l1 l2 v w:Nat}(g:lI a a1 l l1 v)(h:lI a1 a2 l1 l2 w):lI a a2 l l2 (v+w):=by unfold lI at*;omega
theorem xi4{m:Int}{x:Nat}(h:m+12*((x+1:Nat):Int)<=200):m+12*(x:Int)<=200:=by omega
theorem zt2{m:Int}{x y:Nat}(h:m+12*(y:Int)<=200)(hx:x<=y):m+12*(x:Int)<=200:=by omega
theorem wi7{m k:Int}{x:Nat}(h:m+12*((x+1:Nat):Int)<=200)(hk:k<=12):m+k+12*(x:Int)<=200:=by omega
theorem xq5{ps:List Str}{w:Str}(hw:w.length<=201):lI ps.length (ps++[w]).length (cat ps).length (cat (ps++[w])).length 1:=by
 rw [xP,dF,Z5]
 unfold lI
 show _+1<=_/\_
 omega
def yz3(GR:tz7)(r:List Pc):Prop:=∀(b:Bool) (m:Int) (C:List Int) (u:Nat) (ps:List Str) (cs':List Int) (t':Str),0<=m->m+12*depR r<=200->setR b m r (C.drop u) (cat ps)=some (cs',t')->u<=C.length->
 yQ ps.length (cat ps).length (toksR r).length->
 ∃u' ps',GR [stD C u ps,.tup (pcsD r),aM b m]=some (.non,[stD C u' ps',.tup (pcsD r),aM b m])/\C.drop u'=cs'/\cat ps'=t'/\u'<=C.length/\lI ps.length ps'.length (cat ps).length (cat ps').length (toksR r).length
theorem zx8{C:List Int}{u:Nat}{c:Int}{cs:List Int}(h:C.drop u=c::cs):C[u]? =some c/\C.drop (u+1)=cs/\u+1<=C.length:=by
 have hu:u<C.length:=by
  rcases Nat.lt_or_ge u C.length with h1|h1
  ·exact h1
  ·rw [List.drop_eq_nil_of_le h1] at h;cases h
 rw [ZR hu] at h
 cases h
 exact⟨Zn hu,rfl,hu⟩
theorem rA:∀{rs:List (List Pc)} {i:Nat} {r:List Pc},rs[i]? =some r->depR r<=depRs rs
 |[],i,_,h=>by simp! [Yo] at h
 |q::rs,0,_,h=>by simp! [Yo] at h;subst h;rw [depRs];omega
 |q::rs,i+1,_,h=>by have:=rA (rs:=rs) (i:=i) (by simpa using h);rw [depRs];omega
theorem xR:∀{rs:List (List Pc)} {i:Nat} {r:List Pc},okRs rs->rs[i]? =some r->okR r
 |[],i,_,_,h=>by simp! [Yo] at h
 |q::rs,0,_,o,h=>by simp! [Yo] at h;subst h;rw [okRs] at o;exact o.1
 |q::rs,i+1,_,o,h=>by rw [okRs] at o;exact xR (rs:=rs) (i:=i) o.2 (by simpa using h)
def zj0(GR:tz7)(p:Pc)(b:Bool)(m:Int)(C:List Int)(u:Nat)(ps:List Str)(cs':List Int)(t':Str)(R:Option D):Prop:=∃u' ps',yP (yO GR) kT [some (stD C u ps),R,some (aM b m),some (pcD p)]=some (.nx,[some (stD C u' ps'),R,some (aM b m),some (pcD p)])/\C.drop u'=cs'/\cat ps'=t'/\u'<=C.length/\lI ps.length ps'.length (cat ps).length (cat ps').length (cR p).length
theorem xi5{GR:tz7}{p:Pc}{k:Nat}(hG:∀r,depR r<k->okR r->yz3 GR r)(hd:eD p<=k)(ho:okP p){b:Bool}{m:Int}{C:List Int}{u:Nat}{ps:List Str}{cs':List Int}{t':Str}{R:Option D}(h0:0<=m)(h1:m+12*eD p<=200)
  (h:dM b m p (C.drop u) (cat ps)=some (cs',t')) (hu:u<=C.length) (hp:yQ ps.length (cat ps).length (cR p).length):zj0 GR p b m C u ps cs' t' R:=by
 cases p with
 | leaf l=>
  rw [dM] at h
  cases e:wr b m (col (cat ps)) l with
  |none=>rw [e] at h;cases h
  |some w=>
   rw [e] at h
   cases h
   have hl:hJ l:=ho
   have h1':m<=200:=by rw [eD] at h1;omega
   obtain⟨_,hz⟩:=yb2 hl h0 h1' e
   rw [show(cR (.leaf l)).length=1 from rfl] at hp
   have q:=xq2 (C:=C) (u:=u) hl h0 h1' e (by have:=hp.1;omega) (by have:=hp.2;omega)
   delta zj0
   exact⟨u,ps++[w],xq4 q,rfl,xP ps w,hu,(show(cR (.leaf l)).length=1 from rfl)▸xq5 hz⟩
 | group r=>
  have ho':okR r:=ho
  rw [eD] at hd h1
  have hd':depR r<k:=hd
  have h1':m+12*depR r<=200:=xi4 h1
  have ht:(cR (.group r)).length=(toksR r).length+2:=by simp! [cR]
  rw [ht] at hp
  have hp':=zd6 hp (ZD _ 2)
  rw [dM.eq_def] at h
  simp only at h
  cases b with
  |false=>
   simp only [Y6,YK] at h
   obtain⟨u',ps',q,e1,e2,e3,e4⟩:=hG r hd' ho' false m C u ps cs' t' h0 h1' h hu hp'
   delta zj0
   exact⟨u',ps',zd5 rfl (zd4 (i:=0) (x:=(r,false,m)) rfl (by simp! [ze9]) rfl (.inr ⟨rfl,rfl,rfl⟩) q),e1,e2,e3,ht▸xQ e4 (ZD _ 2)⟩
  | true=>
   cases hC:C.drop u with
   |nil=>rw [hC] at h;simp! [Yo] at h
   | cons c cs=>
    obtain⟨g1,g2,g3⟩:=zx8 hC
    rw [hC] at h
    simp only [Y9] at h
    have go:∀(i:Nat) (bb:Bool),(i:Int)=c->(cZ true m (.group r))[i]? =some (r,bb,m)->setR bb m r cs (cat ps)=some (cs',t')->zj0 GR (.group r) true m C u ps cs' t' R:=fun i bb hi hw hs=>by
     rw [<-g2] at hs
     obtain⟨u',ps',q,e1,e2,e3,e4⟩:=hG r hd' ho' bb m C (u+1) ps cs' t' h0 h1' hs g3 hp'
     delta zj0
     exact⟨u',ps',zd5 rfl (zd4 (i:=i) (x:=(r,bb,m)) rfl (by simp! [ze9]) hw (.inl ⟨rfl,by rw [hi];exact g1,rfl⟩) q),e1,e2,e3,ht▸xQ e4 (ZD _ 2)⟩
    by_cases c0:c=0
    ·subst c0
     rw [if_pos rfl] at h
     exact go 0 false rfl rfl h
    ·rw [if_neg c0] at h
     by_cases c1:c=1
     ·subst c1
      rw [if_pos rfl] at h
      exact go 1 true rfl rfl h
     ·rw [if_neg c1] at h;cases h
 |hang n r=>
  have ho':(0<=n/\n<=12)/\okR r:=ho
  rw [eD] at hd h1
  have ht:(cR (.hang n r)).length=(toksR r).length+2:=by simp! [cR]
  rw [ht] at hp
  rw [dM] at h
  obtain⟨u',ps',q,e1,e2,e3,e4⟩:=hG r hd ho'.2 b (m+n) C u ps cs' t' (Int.add_nonneg h0 ho'.1.1) (wi7 h1 ho'.1.2) h hu (zd6 hp (ZD _ 2))
  delta zj0
  exact⟨u',ps',zd5 rfl (zd4 (i:=0) (x:=(r,b,m+n)) rfl (by simp! [ze9]) rfl (.inr ⟨rfl,rfl,rfl⟩) q),e1,e2,e3,ht▸xQ e4 (ZD _ 2)⟩
 | either rs=>
  have ho':(2<=rs.length/\rs.length<=4)/\okRs rs:=ho
  rw [dM.eq_def] at h
  simp only at h
  cases hC:C.drop u with
  |nil=>rw [hC] at h;cases h
  | cons c cs=>
   obtain⟨g1,g2,g3⟩:=zx8 hC
   rw [hC] at h
   simp only at h
   by_cases c0:0<=c
   ·rw [if_pos c0] at h
    cases hr:rs[c.toNat]? with
    |none=>rw [zm3 hr] at h;cases h
    |some r=>
     rw [vB hr,<-g2] at h
     have hdr:=rA hr
     have hor:=xR ho'.2 hr
     have htr:=vY (ZM hr)
     have ht:(cR (.either rs)).length=(toksRows rs).length+2:=by simp! [cR]
     rw [eD] at hd h1
     rw [ht] at hp
     obtain⟨u',ps',q,e1,e2,e3,e4⟩:=hG r (YL hdr hd) hor b m C (u+1) ps cs' t' h0 (zt2 (xi4 h1) hdr) h g3 (zd6 hp (Zv htr (ZD _ 2)))
     delta zj0
     refine⟨u',ps',zd5 rfl (zd4 (i:=c.toNat) (x:=(r,b,m)) rfl (Zv ho'.1.2 (by decide)) (by show(rs.map _)[c.toNat]? =_;rw [Zd,hr];rfl) (.inl ⟨rfl,by rw [Wi c0];exact g1,rfl⟩) q),e1,e2,e3,ht▸xQ e4 (Zv htr (ZD _ 2))⟩
   ·rw [if_neg c0] at h;cases h
theorem yh2{GR:tz7}{k:Nat}(hG:∀r,depR r<k->okR r->yz3 GR r){b:Bool}{m:Int}{C:List Int}{R:Option D}(h0:0<=m):∀(r:List Pc) (u:Nat) (ps:List Str) (cs':List Int) (t':Str) (x:Option D),depR r<=k->okR r->m+12*depR r<=200->
  setR b m r (C.drop u) (cat ps)=some (cs',t')->u<=C.length->yQ ps.length (cat ps).length (toksR r).length->
  ∃u' ps' y,cT 3 (yP (yO GR) kT) (pcsD r) [some (stD C u ps),R,some (aM b m),x]=some (.nx,[some (stD C u' ps'),R,some (aM b m),y])/\C.drop u'=cs'/\cat ps'=t'/\u'<=C.length/\lI ps.length ps'.length (cat ps).length (cat ps').length (toksR r).length
 |[],u,ps,cs',t',x,_,_,_,h,hu,_=>by
  rw [setR] at h;cases h
  exact⟨u,ps,x,rfl,rfl,rfl,hu,⟨Zc _,Zc _⟩⟩
 | p::r,u,ps,cs',t',x,hd,ho,h1,h,hu,hp=>by
  rw [okR] at ho
  rw [depR] at hd h1
  have ht:(toksR (p::r)).length=(cR p).length+(toksR r).length:=by rw [toksR,Z5]
  rw [ht] at hp|-
  rw [setR] at h
  cases e:dM b m p (C.drop u) (cat ps) with
  |none=>rw [e] at h;cases h
  |some s=>
   obtain⟨c1,t1⟩:=s
   rw [e] at h
   obtain⟨u1,ps1,q1,a1,a2,a3,a4⟩:=xi5 (R:=R) hG (Zv (X4 _ _) hd) ho.1 h0 (zt2 h1 (X4 _ _)) e hu (zd6 hp (ZD _ _))
   have h':setR b m r (C.drop u1) (cat ps1)=some (cs',t'):=by rw [a1,a2];exact h
   obtain⟨u2,ps2,y,q2,b1,b2,b3,b4⟩:=yh2 hG h0 r u1 ps1 cs' t' (some (pcD p)) (Zv (YW _ _) hd) ho.2 (zt2 h1 (YW _ _)) h' a3 (xi3 hp a4)
   refine⟨u2,ps2,y,?_,b1,b2,b3,yn1 a4 b4⟩
   show cT 3 _ (pcD p::pcsD r) _=_
   rw [cT]
   show((yP (yO GR) kT [some (stD C u ps),R,some (aM b m),some (pcD p)]).bind _)=_
   rw [q1];exact q2
theorem yq6:∀(n:Nat) (r:List Pc),depR r<n->okR r->yz3 (sU n) r
 |0,_,h,_=>absurd h (YF _)
 |n+1,r,hd,ho=>fun b m C u ps cs' t' h0 h1 h hu hp=>by
  obtain⟨u',ps',y,q,e1,e2,e3,e4⟩:=yh2 (GR:=sU n) (k:=n) (R:=some (.tup (pcsD r))) (fun s hs hk=>yq6 n s hs hk) h0 r u ps cs' t' none (Ww hd) ho h1 h hu hp
  refine⟨u',ps',?_,e1,e2,e3,e4⟩
  show gE 3 1 _ (jS kS (yO (sU n)) kT) _=_
  unfold gE
  refine(if_pos rfl).trans ?_
  have z:jS kS (yO (sU n)) kT ([stD C u ps,.tup (pcsD r),aM b m].map some++List.replicate 1 none)=some (.nx,[some (stD C u' ps'),some (.tup (pcsD r)),some (aM b m),y]):=q
  rw [z];rfl
abbrev zp3:tz6:=gP 1 0 kN
theorem yh3:∀ps:List Str,(Str.join "" ps)=cat ps
 |[]=>by decide+kernel
 |[x]=>by show x=x++(⟨#[]⟩:Str);rw [zt0]
 |x::y::r=>by
  have ih:=yh3 (y::r)
  show(x++("":Str))++Str.join "" (y::r)=x++cat (y::r)
  rw [ih,show("":Str)=⟨#[]⟩ from by decide+kernel,zt0]
theorem yq7:∀ps:List Str,(ps.map (·.length)).sum=(cat ps).length
 |[]=>rfl
 |x::ps=>by rw [Z9,List.sum_cons,yq7 ps];show _=(x++cat ps).length;rw [dF]
theorem wK:∀ps:List Str,D.strs (eI ps)=some ps
 |[]=>rfl
 |x::ps=>by show D.strs (.str x::eI ps)=_;rw [D.strs,wK ps];rfl
theorem xq6{C:List Int}{u:Nat}{ps:List Str}(hu:C.length<=u)(hp:ps.length<=1000)(hc:(cat ps).length<=1000000):zp3 [stD C u ps]=some (.str (cat ps)):=by
 have hl:(aX C).length=C.length:=Z8 _
 have g:¬((u:Int)<(C.length:Int)):=by omega
 have e:zo3 (.str "") [.lst true (eI ps)]=some (.str (cat ps)):=by
  rw [zo3,wK,Z3,if_pos]
  ·rw [show Txt.join ("":Str) ps=Str.join "" ps from StrLaws.glued_eq_join _ _,yh3]
  ·rw [yq7]
   exact⟨by decide+kernel,by omega⟩
 unfold stD
 simp! [kN,hl,g,e,ze2]
abbrev zp4:tz7:=gE 2 0 (bC [true,false]) pV
theorem wi8(C:List Int):zp4 [.obj true "Setter" [] [],.tup (aX C)]=some (.non,[stD C 0 [],.tup (aX C)]):=by
 have hi:=gV C
 have e:stD C 0 []= .obj true "Setter" nsS [.tup (aX C),.int 0,.int 0,.lst true []]:=rfl
 rw [e]
 simp! [pV,hi]
abbrev yk6(n:Nat):tz6:=gP 2 1 (wC zp4 (sU n) zb8 zp3)
theorem zx9{n:Nat}{r:List Pc}{C:List Int}{t:Str}(hd:depR r<n)(h8:depR r<=16)(ho:okR r)(hl:(toksR r).length<=800)(h:setR true 0 r C ⟨#[]⟩=some ([],t)):yk6 n [.tup (pcsD r),.tup (aX C)]=some (.str t):=by
 obtain⟨u',ps',q,e1,e2,e3,e4,e5⟩:=yq6 n r hd ho true 0 C 0 [] [] t (Yr _) (by omega) h (ZT _) ⟨by show 0+_<=_;omega,by show 0+_<=_;omega⟩
 have e5':(cat ps').length<=0+201*(toksR r).length:=e5
 have e4':ps'.length<=0+(toksR r).length:=e4
 have hu:C.length<=u':=by
  have:=ZK List.length e1
  rw [Xq] at this
  simp! [Yo] at this;omega
 have w:=xq6 (C:=C) (ps:=ps') hu (by omega) (by omega)
 rw [e2] at w
 have i:=wi8 C
 have f:=yh1
 have hm:=zt1 (m:="set_row") (by simp! [Yo]) q
 have p1:=pcs_imm r
 have p2:=gV C
 have p3:=qY true 0
 have w':zo4 "Setter" "whole_text" (aA 2) [some (.tup (pcsD r)),some (.tup (aX C)),some (stD C u' ps')]=some (stD C u' ps'):=by
  unfold stD
  simp! [Yo]
 show gP 2 1 (wC zp4 (sU n) zb8 zp3) _=_
 generalize zp4=G1 at i|-
 generalize sU n=G2 at hm|-
 generalize zb8=G3 at f|-
 generalize zp3=G4 at w|-
 generalize stD C u' ps'=S1 at*
 generalize stD C 0 []=S0 at*
 generalize aM true 0=pl at*
 have s1:aW 2 (aI (fD "Setter" (cC [.im (aA 1)]) G1)) [some (.tup (pcsD r)),some (.tup (aX C)),none]=some (.nx,[some (.tup (pcsD r)),some (.tup (aX C)),some S0]):=by
  refine bH ?_
  simp! [p2,i]
 have s2:cN (dA 2 bI (cC [.im (aA 0),.im (aH G3 aE)]) (eC "Setter" "set_row" G2)) [some (.tup (pcsD r)),some (.tup (aX C)),some S0]=some (.nx,[some (.tup (pcsD r)),some (.tup (aX C)),some S1]):=by
  simp! [p1,p3,f,hm]
 exact gF rfl ((aO s1).trans ((aO s2).trans (cH (aS (aD w' rfl) w))))
def lns(t:Str):List Str:=Txt.split t ⟨#[10]⟩
theorem za2(t:Str):lns t≠[]:=fun z=>by
 have:=split_pos t ⟨#[10]⟩
 rw [show Txt.split t ⟨#[10]⟩=[] from z] at this
 exact absurd this (by decide)
theorem xS(t:Str):∀p∈lns t,(10:Nat)∉p.cps.toList:=StrLaws.split_free _ 10
theorem pQ(t:Str):Str.join ⟨#[10]⟩ (lns t)=t:=StrLaws.join_split _ _
theorem yh4{t:Str}{ys:List Str}(hne:ys≠[])(hy:∀p∈ys,(10:Nat)∉p.cps.toList)(e:Str.join ⟨#[10]⟩ ys=t):lns t=ys:=
 yg8 _ _ (za2 t) hne (xS t) hy ((pQ t).trans e.symm)
theorem rB:∀(x:Str) (xs:List Str) (y:Str),Str.join ⟨#[10]⟩ (x::xs++[y])=Str.join ⟨#[10]⟩ (x::xs)++((⟨#[10]⟩:Str)++y)
 |x,[],y=>tK (by rw [ZP,Y8,lR,bX,bX];rfl)
 |x,x'::xs,y=>tK (by
  rw [ZP,ZP,lR,bX,lR,<-ZP,rB x' xs y,bX]
  simp [bX])
theorem xi6:∀(xs:List Str) (y w:Str),Str.join ⟨#[10]⟩ (xs++[y++w])=Str.join ⟨#[10]⟩ (xs++[y])++w
 |[],y,w=>rfl
 |x::xs,y,w=>tK (by
  rw [rB,rB]
  simp [bX])
theorem wb7{t w y:Str}{xs:List Str}(h:lns t=xs++[y])(hw:(10:Nat)∉w.cps.toList):lns (t++w)=xs++[y++w]:=by
 have hf:=xS t
 rw [h] at hf
 refine yh4 (by simp) (fun p hp=> ?_) (by rw [xi6,<-h,pQ])
 rcases Zk.mp hp with z|z
 ·exact hf p (Zj _ z)
 ·rw [Zg.mp z,bX]
  exact fun m=>(Zk.mp m).elim (hf y (by simp)) hw
theorem wi9{t w:Str}(hw:(10:Nat)∉w.cps.toList):lns (t++((⟨#[10]⟩:Str)++w))=lns t++[w]:=by
 obtain⟨x,xs,h⟩:=List.exists_cons_of_ne_nil (za2 t)
 refine yh4 (by simp) (fun p hp=> ?_) ?_
 ·rcases Zk.mp hp with z|z
  ·exact xS t p z
  ·rw [Zg.mp z];exact hw
 ·rw [h,rB,<-h,pQ]
theorem xq7{t y:Str}{xs:List Str}(h:lns t=xs++[y]):col t=y.length:=by
 have hf:=xS t
 rw [h] at hf
 have hy:=hf y (by simp)
 cases xs with
 |nil=>
  have e:y=t:=by have:=pQ t;rw [h] at this;exact this
  have:=zs7 (t:=⟨#[]⟩) hy
  rw [yq4] at this
  rw [<-e,this]
  show 0+_=_
  omega
 |cons x xs=>
  have:=pQ t
  rw [h,rB] at this
  rw [<-this,zm2 hy]
def xu4(W:Int)(ls:List Str):Int:=(ls.map fun l=>(W-(l.length:Int))*(W-(l.length:Int))).sum
def uR(W:Int)(t:Str)(k:Nat)(ln rg:Int):Prop:=∃xs y,lns t=xs++[y]/\(∀l∈xs++[y],((l:Str).length:Int)<=W)/\k=y.length/\ln=(xs.length:Int)+1/\rg=xu4 W xs
theorem uR.col{W:Int}{t:Str}{k:Nat}{ln rg:Int}(h:uR W t k ln rg):My.col t=k:=by
 obtain⟨xs,y,h1,_,h3,_⟩:=h
 rw [xq7 h1,h3]
theorem yh5{W:Int}(h:0<=W):uR W ⟨#[]⟩ 0 1 0:=⟨[],⟨#[]⟩,yh4 (by simp) (fun p hp=>by rw [Zg.mp hp];simp) rfl,fun l hl=>by
 rw [Y8] at hl
 rw [Zg.mp hl];exact h,rfl,rfl,rfl⟩
theorem xq8{W:Int}{t w:Str}{k:Nat}{ln rg:Int}(h:uR W t k ln rg)(hw:(10:Nat)∉w.cps.toList)(hk:((k+w.length:Nat):Int)<=W):uR W (t++w) (k+w.length) ln rg:=by
 obtain⟨xs,y,h1,h2,h3,h4,h5⟩:=h
 refine⟨xs,y++w,wb7 h1 hw,fun l hl=> ?_,by rw [dF,h3],h4,h5⟩
 rcases Zk.mp hl with z|z
 ·exact h2 l (Zj _ z)
 ·rw [Zg.mp z,dF,<-h3];exact hk
theorem yq8{W:Int}{t:Str}{k:Nat}{ln rg m:Int}(h:uR W t k ln rg)(h0:0<=m)(hm:m<=W):uR W (t++nlw m) m.toNat (ln+1) (rg+(W-(k:Int))*(W-(k:Int))):=by
 obtain⟨xs,y,h1,h2,h3,h4,h5⟩:=h
 refine⟨xs++[y],Txt.mul " " m,?_,fun l hl=> ?_,by rw [jW],by rw [Z5,h4];simp,?_⟩
 ·unfold nlw
  rw [wi9 (zm1 m),h1]
 ·rcases Zk.mp hl with z|z
  ·exact h2 l z
  ·rw [Zg.mp z,jW];omega
 ·unfold xu4
  rw [Yn,List.sum_append,h5,h3]
  simp [xu4]
abbrev Way:=(Int×Int)×List Int
abbrev Frt:=List (Nat×Way)
def ltW(x y:Way):Bool:=L2.zb1 [[x.1.1,x.1.2],x.2] [[y.1.1,y.1.2],y.2]
def pY:Frt->Nat->Option Way
 |[],_=>none
 |p::F,j=>if p.1=j then some p.2 else pY F j
def pZ:Frt->Nat->Way->Frt
 |[],_,_=>[]
 |p::F,j,y=>(if p.1=j then(p.1,y) else p)::pZ F j y
def mE(F:Frt)(k:Nat)(x:Way):Frt:=match pY F k with
 |none=>F++[(k,x)]
 |some y=>if ltW x y=true then pZ F k x else F
def nF(F G:Frt):Frt:=G.foldl (fun F p=>mE F p.1 p.2) F
def wn2(n:Int)(p:Nat×Way):Nat×Way:=(p.1,(p.2.1,p.2.2++[n]))
def nL(F:Frt)(n:Int):Frt:=nF [] (F.map (wn2 n))
def lfB(w:Str):Bool:=decide (w.cps.toList[0]? =some 10)
def qM(W:Int)(b:Bool)(m:Int)(l:Leaf)(k:Nat)(c:Int×Int):Option (Nat×(Int×Int)):=(wr b m k l).bind fun w=>
 if W<((if lfB w=true then w.length-1 else k+w.length:Nat):Int) then none
 else some (if lfB w=true then w.length-1 else k+w.length,if lfB w=true then(c.1+1,c.2+(W-(k:Int))*(W-(k:Int))) else c)
def yk7(W:Int)(b:Bool)(m:Int)(l:Leaf)(F G:Frt):Frt:=F.foldl (fun G p=>match qM W b m l p.1 p.2.1 with
 |none=>G
 |some s=>mE G s.1 (s.2,p.2.2)) G
def frW(GR:Bool->Int->List Pc->Frt->Frt)(tk:Bool)(F:Frt):Nat->List (List Pc×Bool×Int)->Frt->Frt
 |_,[],A=>A
 |n,x::xs,A=>frW GR tk F (n+1) xs (nF A (GR x.2.1 x.2.2 x.1 (if tk=true then nL F n else F)))
def frP(W:Int)(GR:Bool->Int->List Pc->Frt->Frt)(b:Bool)(m:Int)(F:Frt):Pc->Frt
 | .leaf l=>yk7 W b m l F []
 |p=>frW GR (dW b p) F 0 (cZ b m p) []
def frN(W:Int):Nat->Bool->Int->List Pc->Frt->Frt
 |0,_,_,_,F=>F
 |n+1,b,m,r,F=>r.foldl (fun F p=>frP W (frN W n) b m F p) F
def Hit(W:Int)(R:List Int->Str->Prop)(p:Nat×Way):Prop:=∃t,R p.2.2 t/\uR W t p.1 p.2.1.1 p.2.1.2
structure Good(W:Int)(R:List Int->Str->Prop)(F:Frt):Prop where
 nd:(F.map (·.1)).Nodup
 hit:∀p∈F,Hit W R p
theorem Good.nil{W:Int}{R:List Int->Str->Prop}:Good W R []:=⟨Zr,fun _ h=>nomatch h⟩
theorem Good.mono{W:Int}{R R':List Int->Str->Prop}{F:Frt}(h:Good W R F)(k:∀c t,R c t->R' c t):Good W R' F:=⟨h.nd,fun p hp=>by
 obtain⟨t,h1,h2⟩:=h.hit p hp
 exact⟨t,k _ _ h1,h2⟩⟩
theorem zy0:∀{F:Frt} {k:Nat},pY F k=none->k∉F.map (·.1)
 |[],_,_=>by simp
 | p::F,k,h=>by
  rw [pY] at h
  by_cases e:p.1=k
  ·rw [if_pos e] at h;cases h
  ·rw [if_neg e] at h
   simp only [Z9,Z2,not_or]
   exact⟨fun z=>e z.symm,zy0 h⟩
theorem za3:∀(F:Frt) (k:Nat) (y:Way),(pZ F k y).map (·.1)=F.map (·.1)
 |[],_,_=>rfl
 |p::F,k,y=>by
  rw [pZ,Z9,Z9,za3 F]
  by_cases e:p.1=k
  ·rw [if_pos e]
  ·rw [if_neg e]
theorem yh6:∀{F:Frt} {k:Nat} {y:Way} {p:Nat×Way},p∈pZ F k y->p=(k,y)\/p∈F
 |[],_,_,_,h=>by cases h
 | q::F,k,y,p,h=>by
  rw [pZ] at h
  rcases Z2.mp h with e|e
  ·by_cases z:q.1=k
   ·rw [if_pos z,z] at e;exact .inl e
   ·rw [if_neg z] at e;exact .inr (by rw [e];exact Z0)
  ·exact(yh6 e).imp id (Z1 _)
theorem zy1{W:Int}{R:List Int->Str->Prop}{F:Frt}{k:Nat}{x:Way}(h:Good W R F)(hx:Hit W R (k,x)):Good W R (mE F k x):=by
 unfold mE
 cases e:pY F k with
 | none=>
  simp only
  refine⟨?_,fun p hp=> ?_⟩
  ·rw [Yn,ZI]
   refine⟨h.nd,by simp,fun a ha b hb z=> ?_⟩
   simp only [Z9,Xj,Zg] at hb
   subst hb
   subst z
   exact zy0 e ha
  ·rcases Zk.mp hp with z|z
   ·exact h.hit p z
   ·rw [Zg.mp z];exact hx
 | some y=>
  simp only
  by_cases c:ltW x y=true
  ·rw [if_pos c]
   refine⟨by rw [za3];exact h.nd,fun p hp=> ?_⟩
   rcases yh6 hp with z|z
   ·rw [z];exact hx
   ·exact h.hit p z
  ·rw [if_neg c];exact h
theorem vZ{W:Int}{R:List Int->Str->Prop}:∀{G F:Frt},Good W R F->(∀p∈G,Hit W R p)->Good W R (nF F G)
 |[],F,h,_=>h
 |p::G,F,h,hG=>vZ (G:=G) (zy1 h (hG p Z0)) fun q hq=>hG q (Z1 _ hq)
def xw6(R:List Int->Str->Prop)(n:Int):List Int->Str->Prop:=fun cs t=>∃c0,R c0 t/\cs=c0++[n]
theorem zm5{W:Int}{R:List Int->Str->Prop}{F:Frt}(h:Good W R F)(n:Int):Good W (xw6 R n) (nL F n):=vZ .nil fun p hp=>by
 obtain⟨q,hq,rfl⟩:=Yk.mp hp
 obtain⟨t,h1,h2⟩:=h.hit q hq
 exact⟨t,⟨_,h1,rfl⟩,h2⟩
def Aft(R:List Int->Str->Prop)(set:List Int->Str->Option (List Int×Str)):List Int->Str->Prop:=fun cs t=>∃c0 t0 c1,R c0 t0/\cs=c0++c1/\set c1 t0=some ([],t)
theorem wj0(m:Int):lfB (nlw m)=true:=by
 unfold lfB nlw
 rw [bX]
 exact Zo rfl
theorem wp5{w:Str}(h:(10:Nat)∉w.cps.toList):lfB w=false:=by
 unfold lfB
 refine Zh fun e=>h (ZM e)
theorem wb8(m:Int):(nlw m).length-1=m.toNat:=by
 unfold nlw
 rw [dF,jW]
 show 1+m.toNat-1=_
 omega
theorem xq9{W:Int}{b:Bool}{m:Int}{l:Leaf}{k:Nat}{c:Int×Int}{s:Nat×(Int×Int)}{t:Str}(hl:hJ l)(h0:0<=m)(h1:m<=200)(hc:uR W t k c.1 c.2)(h:qM W b m l k c=some s):∃w,wr b m (col t) l=some w/\uR W (t++w) s.1 s.2.1 s.2.2:=by
 unfold qM at h
 rw [hc.col]
 cases e:wr b m k l with
 |none=>rw [e] at h;cases h
 | some w=>
  rw [e,Z3] at h
  refine⟨w,rfl,?_⟩
  rcases(yb2 hl h0 h1 e).1 with hw|⟨m',hw⟩
  ·rw [wp5 hw] at h
   simp only [Y6,YK] at h
   by_cases z:W<((k+w.length:Nat):Int)
   ·rw [if_pos z] at h;cases h
   ·rw [if_neg z] at h
    cases h
    exact xq8 hc hw (by omega)
  ·subst hw
   rw [wj0] at h
   simp only [Y9] at h
   rw [wb8] at h
   by_cases z:W<((m'.toNat:Nat):Int)
   ·rw [if_pos z] at h;cases h
   ·rw [if_neg z] at h
    cases h
    by_cases hm:0<=m'
    ·exact yq8 hc hm (by omega)
    ·have e0:nlw m'=nlw 0:=by unfold nlw;rw [tK (x:=Txt.mul " " m') (y:=Txt.mul " " 0) (by rw [uH,uH];congr 1;omega)]
     have:=yq8 hc (m:=0) (Yr _) (by omega)
     rw [e0,show m'.toNat=(0:Int).toNat by omega]
     exact this
theorem zm6{W:Int}{R:List Int->Str->Prop}{b:Bool}{m:Int}{l:Leaf}(hl:hJ l)(h0:0<=m)(h1:m<=200):∀{F G:Frt},(∀p∈F,Hit W R p)->Good W (Aft R (dM b m (.leaf l))) G->Good W (Aft R (dM b m (.leaf l))) (yk7 W b m l F G)
 |[],G,_,hG=>hG
 | p::F,G,hF,hG=>by
  have key:Good W (Aft R (dM b m (.leaf l))) (match qM W b m l p.1 p.2.1 with|none=>G|some s=>mE G s.1 (s.2,p.2.2)):=by
   cases e:qM W b m l p.1 p.2.1 with
   |none=>exact hG
   |some s=>
    obtain⟨t,r1,r2⟩:=hF p Z0
    obtain⟨w,e1,e2⟩:=xq9 hl h0 h1 r2 e
    exact zy1 (x:=(s.2,p.2.2)) hG ⟨t++w,⟨_,t,[],r1,by simp,by rw [dM,e1];rfl⟩,e2⟩
  exact zm6 (F:=F) hl h0 h1 (fun q hq=>hF q (Z1 _ hq)) key
theorem wb9{b:Bool}{m:Int}{p:Pc}{i:Nat}{x:List Pc×Bool×Int}(hx:(cZ b m p)[i]? =some x)(c:List Int)(t:Str):dM b m p ((if dW b p=true then [(i:Int)] else [])++c) t=setR x.2.1 x.2.2 x.1 c t:=by
 cases p with
 |leaf l=>simp [cZ] at hx
 | group r=>
  rw [dM.eq_def]
  cases b with
  | false=>
   have e:i=0:=by
    cases i with
    |zero=>rfl
    |succ i=>simp [cZ] at hx
   subst e
   simp [cZ] at hx
   subst hx
   simp [dW]
  |true=>
   match i,hx with
   |0,hx=>simp [cZ] at hx;subst hx;simp [dW]
   |1,hx=>simp [cZ] at hx;subst hx;simp [dW]
   |i+2,hx=>simp [cZ] at hx
 | hang n r=>
  have e:i=0:=by
   cases i with
   |zero=>rfl
   |succ i=>simp [cZ] at hx
  subst e
  simp [cZ] at hx
  subst hx
  simp [dW,dM]
 |either rs=>
  have hx':(rs.map fun r=>(r,b,m))[i]? =some x:=hx
  rw [Zd] at hx'
  obtain⟨r,hr,rfl⟩:=Zp.mp hx'
  rw [dM.eq_def]
  simp only [dW,Y9,ZP,Y8]
  rw [if_pos (by omega)]
  exact vB (by simpa using hr)
def tN(W:Int)(GR:Bool->Int->List Pc->Frt->Frt)(r:List Pc):Prop:=∀(b:Bool) (m:Int) (R:List Int->Str->Prop) (F:Frt),0<=m->m+12*depR r<=200->Good W R F->Good W (Aft R (setR b m r)) (GR b m r F)
theorem zy2{W:Int}{GR:Bool->Int->List Pc->Frt->Frt}{R:List Int->Str->Prop}{b:Bool}{m:Int}{p:Pc}{F:Frt}(hF:Good W R F):∀(xs:List (List Pc×Bool×Int)) (n:Nat) (A:Frt),(∀(i:Nat) x,xs[i]? =some x->(cZ b m p)[n+i]? =some x)->(∀x∈xs,0<=x.2.2/\x.2.2+12*depR x.1<=200/\tN W GR x.1)->
  Good W (Aft R (dM b m p)) A->Good W (Aft R (dM b m p)) (frW GR (dW b p) F n xs A)
 |[],n,A,_,_,hA=>hA
 | x::xs,n,A,hi,hx,hA=>by
  rw [frW]
  refine zy2 hF xs (n+1) _ (fun i y hy=>by have:=hi (i+1) y (by simpa using hy);rwa [show n+1+i=n+(i+1) by omega]) (fun y hy=>hx y (Z1 _ hy)) (vZ hA ?_)
  obtain⟨h0,h1,hG⟩:=hx x Z0
  have hw:=fun c t=>wb9 (hi 0 x rfl) c t
  rw [Xl] at hw
  by_cases tk:dW b p=true
  ·rw [if_pos tk]
   simp only [tk,Y9] at hw
   intro q hq
   obtain⟨t,⟨c0,t0,c1,⟨c,r1,rfl⟩,e1,e2⟩,hc⟩:=(hG x.2.1 x.2.2 _ _ h0 h1 (zm5 hF n)).hit q hq
   exact⟨t,⟨c,t0,n::c1,r1,by rw [e1];simp,by rw [<-e2,<-hw];rfl⟩,hc⟩
  ·rw [if_neg tk]
   simp only [tk,Y6,YK,Y8] at hw
   intro q hq
   obtain⟨t,⟨c0,t0,c1,r1,e1,e2⟩,hc⟩:=(hG x.2.1 x.2.2 _ _ h0 h1 hF).hit q hq
   exact⟨t,⟨c0,t0,c1,r1,e1,by rw [<-e2,<-hw]⟩,hc⟩
theorem yh7{b:Bool}{m:Int}{p:Pc}{x:List Pc×Bool×Int}{k:Nat}(ho:okP p)(h0:0<=m)(h1:m+12*eD p<=200)(hk:eD p<=k)(hx:x∈cZ b m p):0<=x.2.2/\x.2.2+12*depR x.1<=200/\depR x.1<k/\okR x.1:=by
 cases p with
 |leaf l=>simp [cZ] at hx
 | group r=>
  rw [eD] at h1 hk
  have hr:okR r:=ho
  have:x.1=r/\x.2.2=m:=by
   cases b<;>simp [cZ] at hx
   ·subst hx;exact⟨rfl,rfl⟩
   ·rcases hx with e|e<;>subst e<;>exact⟨rfl,rfl⟩
  rw [this.1,this.2]
  exact⟨h0,by omega,by omega,hr⟩
 |hang n r=>
  rw [eD] at h1 hk
  have hr:(0<=n/\n<=12)/\okR r:=ho
  simp [cZ] at hx
  subst hx
  exact⟨by show 0<=m+n;omega,by show m+n+12*(depR r:Int)<=200;omega,by show depR r<k;omega,hr.2⟩
 |either rs=>
  rw [eD] at h1 hk
  have hr:(2<=rs.length/\rs.length<=4)/\okRs rs:=ho
  obtain⟨r,hm,rfl⟩:=Yk.mp (show x∈rs.map fun r=>(r,b,m) from hx)
  obtain⟨i,hi⟩:=YE hm
  have:=rA hi
  exact⟨h0,by show m+12*(depR r:Int)<=200;omega,by show depR r<k;omega,xR hr.2 hi⟩
theorem zm7{W:Int}{GR:Bool->Int->List Pc->Frt->Frt}{k:Nat}(hG:∀r,depR r<k->okR r->tN W GR r){R:List Int->Str->Prop}{b:Bool}{m:Int}{p:Pc}{F:Frt}(hk:eD p<=k)(ho:okP p)(h0:0<=m)(h1:m+12*eD p<=200)(hF:Good W R F):Good W (Aft R (dM b m p)) (frP W GR b m F p):=by
 have hold:Good W (Aft R (dM b m p)) (frW GR (dW b p) F 0 (cZ b m p) []):=zy2 hF _ 0 [] (fun i x h=>by rwa [YZ]) (fun x hx=>by
  obtain⟨a1,a2,a3,a4⟩:=yh7 ho h0 h1 hk hx
  exact⟨a1,a2,hG x.1 a3 a4⟩) .nil
 cases p with
 |leaf l=>exact zm6 ho h0 (by rw [eD] at h1;omega) hF.hit .nil
 |group r=>exact hold
 |hang n r=>exact hold
 |either rs=>exact hold
theorem zy3{W:Int}{GR:Bool->Int->List Pc->Frt->Frt}{k:Nat}(hG:∀r,depR r<k->okR r->tN W GR r){b:Bool}{m:Int}(h0:0<=m):∀{r:List Pc} {R:List Int->Str->Prop} {F:Frt},depR r<=k->okR r->m+12*depR r<=200->Good W R F->Good W (Aft R (setR b m r)) (r.foldl (fun F p=>frP W GR b m F p) F)
 |[],R,F,_,_,_,hF=>hF.mono fun c t h=>⟨c,t,[],h,by simp,by rw [setR]⟩
 |p::r,R,F,hk,ho,h1,hF=>by
  rw [depR] at hk h1
  have hp:=zm7 hG (b:=b) (show eD p<=k by omega) ho.1 h0 (by omega) hF
  refine(zy3 hG h0 (r:=r) (by omega) ho.2 (by omega) hp).mono fun c t=> ?_
  rintro⟨c0,t0,c2,⟨d0,s0,c1,r1,rfl,e1⟩,rfl,e2⟩
  refine⟨d0,s0,c1++c2,r1,by simp,?_⟩
  rw [setR,zx6 c2 e1]
  exact e2
theorem zi2{W:Int}:∀(n:Nat) (r:List Pc),depR r<n->okR r->tN W (frN W n) r
 |0,_,h,_=>absurd h (YF _)
 |n+1,r,h,ho=>fun b m R F h0 h1 hF=>by
  rw [frN]
  exact zy3 (fun q h1 h2=>zi2 n q h1 h2) h0 (by omega) ho h1 hF
theorem xT{W:Int}{n:Nat}{r:List Pc}(hW:0<=W)(hd:depR r<n)(ho:okR r)(h1:12*(depR r:Int)<=200):Good W (fun cs t=>setR true 0 r cs ⟨#[]⟩=some ([],t)) (frN W n true 0 r [(0,((1,0),[]))]):=by
 have g0:Good W (fun cs t=>cs=[]/\t=⟨#[]⟩) [(0,((1,0),[]))]:=⟨by simp,fun p hp=>by
  rw [Zg.mp hp];exact⟨_,⟨rfl,rfl⟩,yh5 hW⟩⟩
 refine(zi2 n r hd ho true 0 _ _ (Yr _) (by omega) g0).mono fun c t=> ?_
 rintro⟨c0,t0,c1,⟨rfl,rfl⟩,rfl,e⟩
 exact e
abbrev nsF:List Str:=["steps","best"]
def bZ(W:Int):D:= .obj false "WithinWidth" ["width"] [.int W]
def wyD(x:Way):D:= .tup [.tup [.int x.1.1,.int x.1.2],.tup (aX x.2)]
def dG(F:Frt):List Key:=F.map fun p=> .inl (p.1:Int)
def dU(F:Frt):List D:=F.map fun p=>wyD p.2
def aK(o:Bool)(W:Int)(F:Frt):D:= .obj o "Front" nsF [bZ W,.dic o (dG F) (dU F)]
theorem uI(x:Way):(wyD x).imm=true:=by
 have:=gV x.2
 simp! [kX,gZ,D.key,sP,qH,sO,wyD,this]
theorem uJ:∀F:Frt,D.imms (dU F)=true
 |[]=>rfl
 |p::F=>by
  show(D.imm (wyD p.2)&&D.imms (dU F))=true
  rw [uI,uJ F];rfl
theorem za4(W:Int)(F:Frt):(aK false W F).imm=true:=by
 have:=uJ F
 simp! [kX,gZ,D.key,sP,qH,sO,aK,bZ,this]
theorem xr0(F:Frt):(dG F).length=F.length:=Z8 _
theorem sL:∀(F:Frt) (k:Nat),oS (dG F) (dU F) (.inl (k:Int))=(pY F k).map wyD
 |[],_=>rfl
 |p::F,k=>by
  show oS (.inl (p.1:Int)::dG F) (wyD p.2::dU F) _=_
  rw [oS,pY]
  by_cases e:p.1=k
  ·rw [if_pos e,if_pos (by rw [e])];rfl
  ·rw [if_neg e,if_neg (fun z=>e (by have:=W9 z;omega)),sL F k]
theorem zm8:∀(F:Frt) (k:Nat) (x:Way),yI (dG F) (dU F) (.inl (k:Int)) (wyD x)=dU (pZ F k x)
 |[],_,_=>rfl
 |p::F,k,x=>by
  show yI (.inl (p.1:Int)::dG F) (wyD p.2::dU F) _ _=_
  rw [yI,zm8 F,pZ]
  by_cases e:p.1=k
  ·rw [if_pos e,if_pos (by rw [e])];rfl
  ·rw [if_neg e,if_neg (fun z=>e (by have:=W9 z;omega))];rfl
theorem xi7(F:Frt)(k:Nat)(x:Way):dG (pZ F k x)=dG F:=by
 unfold dG
 have:=ZK (List.map fun(k:Nat)=>(Sum.inl (k:Int):Key)) (za3 F k x)
 rw [Yu,Yu] at this
 exact this
theorem wc0(x y:Way):yj9 (wyD x) (wyD y)=some (.bl (ltW x y)):=by
 unfold wyD yj9 ltW
 simp! [kX,gZ,D.key,sP,qH,sO,D.intss,D.ints,za1]
abbrev mF:tz7:=gE 2 0 (bC [true,false]) sA
theorem wj1(W:Int):mF [.obj true "Front" [] [],bZ W]=some (.non,[aK true W [],bZ W]):=by
 have e:aK true W []= .obj true "Front" nsF [bZ W,.dic true [] []]:=rfl
 have h:(bZ W).imm=true:=rfl
 rw [e]
 generalize bZ W=w at h|-
 simp! [kX,gZ,D.key,sP,qH,sO,sA,h]
theorem xU{p:PSt}{f:tz2}{W:Int}(h:f p=some (bZ W)):fD "Front" (cC [.im f]) mF p=some (aK true W []):=by
 have hi:(bZ W).imm=true:=rfl
 have i:=wj1 W
 generalize mF=G at i|-
 generalize aK true W []=X at i|-
 generalize bZ W=w at h hi i|-
 unfold fD
 rw [dO h hi gH,Z3,i]
 rfl
abbrev nM:tz7:=gE 3 0 (bC [true,false,false]) mC
theorem wj2{W:Int}{F:Frt}{k:Nat}{x:Way}(hl:F.length<=900):nM [aK true W F,.int (k:Int),wyD x]=some (.non,[aK true W (mE F k x),.int (k:Int),wyD x]):=by
 have g:=sL F k
 have hx:=uI x
 have hv:=uJ F
 have hz:(dG F).length<sizeLine:=by rw [xr0];exact sz1 (by omega)
 unfold mE
 cases e:pY F k with
 | none=>
  rw [e] at g
  have e1:aK true W (F++[(k,x)])= .obj true "Front" nsF [bZ W,.dic true (dG F++[.inl (k:Int)]) (dU F++[wyD x])]:=by
   unfold aK dG dU
   rw [Yn,Yn];rfl
  simp only
  rw [e1]
  unfold aK
  generalize dG F=ks at*
  generalize dU F=vs at*
  generalize wyD x=X at*
  generalize bZ W=w at*
  simp only [Option.map_none] at g
  simp! [kX,gZ,D.key,sP,qH,sO,mC,g,hx,hv,hz]
 | some y=>
  rw [e] at g
  have l:=wc0 x y
  have pv:=zm8 F k x
  have ks:=xi7 F k x
  simp only [Option.map_some] at g
  by_cases c:ltW x y=true
  ·rw [c] at l
   simp only [c,Y9]
   have e1:aK true W (pZ F k x)= .obj true "Front" nsF [bZ W,.dic true (dG F) (dU (pZ F k x))]:=by unfold aK;rw [ks]
   rw [e1,<-pv]
   unfold aK
   generalize dG F=ks at*
   generalize dU F=vs at*
   generalize wyD x=X at*
   generalize wyD y=Y at*
   generalize bZ W=w at*
   simp! [kX,gZ,D.key,sP,qH,sO,mC,g,hx,hv,hz,l]
  ·rw [YA] at c
   rw [c] at l
   simp only [c,Y6,YK]
   unfold aK
   generalize dG F=ks at*
   generalize dU F=vs at*
   generalize wyD x=X at*
   generalize wyD y=Y at*
   generalize bZ W=w at*
   simp! [kX,gZ,D.key,sP,qH,sO,mC,g,hx,hv,hz,l]
theorem xi8{g:tz7}{m:Str}{W:Int}{F:Frt}{ys:List D}{N v:D}(hm:cQ nsF m=none)(h:g (aK true W F::ys)=some (v,N::ys)):eC "Front" m g ys (aK true W F)=some (v,N):=by
 show(if (("Front":Str)="Front"/\cQ nsF m=none) then(g (aK true W F::ys)).bind _ else none)=_
 rw [if_pos ⟨rfl,hm⟩,h]
 show(if ys.length=ys.length then some (v,N) else none)=_
 rw [if_pos rfl]
theorem yh8:∀(F:Frt) (k:Nat) (x:Way),(pZ F k x).length=F.length
 |[],_,_=>rfl
 |p::F,k,x=>by rw [pZ,Z6,Z6,yh8 F]
theorem xV(F:Frt)(k:Nat)(x:Way):(mE F k x).length<=F.length+1:=by
 unfold mE
 cases pY F k with
 |none=>simp
 |some y=>
  simp only
  split
  ·rw [yh8];omega
  ·omega
theorem zm9:∀(G F:Frt),(nF F G).length<=F.length+G.length
 |[],F=>Zc _
 |p::G,F=>by
  have h1:=zm9 G (mE F p.1 p.2)
  have h2:=xV F p.1 p.2
  show(nF (mE F p.1 p.2) G).length<=_
  rw [Z6];omega
theorem lT:∀{F:Frt} {p:Nat×Way},(F.map (·.1)).Nodup->p∈F->pY F p.1=some p.2
 |[],_,_,h=>by cases h
 | q::F,p,nd,h=>by
  rw [Z9,Zu] at nd
  rw [pY]
  rcases Z2.mp h with e|e
  ·rw [e,if_pos rfl]
  ·rw [if_neg (fun z=>nd.1 (by rw [z];exact Wj e))]
   exact lT nd.2 e
theorem xW{p:PSt}{f:tz2}{o:Bool}{W:Int}{F:Frt}(h:f p=some (aK o W F)):cL "Front" "best" f p=some (.dic o (dG F) (dU F)):=by
 unfold cL
 rw [h,Z3]
 unfold aK
 generalize bZ W=w
 simp [yj7,cQ,gA]
theorem vC{p:PSt}{f:tz2}{o:Bool}{W:Int}{F:Frt}(h:f p=some (aK o W F)):cL "Front" "steps" f p=some (bZ W):=by
 unfold cL
 rw [h,Z3]
 unfold aK
 generalize bZ W=w
 simp [yj7,cQ,gA]
def zp5(F:Frt):List D:=F.map fun q=> .int (q.1:Int)
theorem xi9(F:Frt):(dG F).map yz0=zp5 F:=by
 unfold dG zp5
 rw [Yu];rfl
theorem yq9(F:Frt):(D.dic false (dG F) (dU F)).imm=true:=by
 have:=uJ F
 simp [D.imm,this]
theorem zt3{p:PSt}{f:tz2}{W:Int}{F:Frt}(h:f p=some (aK false W F)):xB (aY (cL "Front" "best" f)) p=some (zp5 F):=by
 unfold xB
 rw [bW (xW h) (yq9 F),Z3,<-xi9];rfl
theorem yh9{p:PSt}{f g:tz2}{W:Int}{F:Frt}{k:Nat}{x:Way}(h:f p=some (aK false W F))(hg:g p=some (.int (k:Int)))(hx:pY F k=some x):f2 gZ (cL "Front" "best" f) g p=some (wyD x):=by
 refine aR (xW h) hg ?_
 show(some (Sum.inl (k:Int):Key)).bind _=_
 rw [Z3,sL,hx];rfl
theorem yr0{j:Nat}{g:tz3}{h:List D->D->Option (D×D)}{p:PSt}{d0 d0' r:D}{ys:List D}(h0:p[j]? =some (some d0))(hg:g p=some ys)(hh:h ys d0=some (r,d0')):dA j bI g h p=some (r,p.set j (some d0')):=by
 unfold dA bI
 rw [h0]
 simp only [YC,Z3,hg,fL,hh]
theorem zd7{j:Nat}{p:PSt}{f g:tz2}{W:Int}{F:Frt}{k:Nat}{x:Way}(h0:p[j]? =some (some (aK true W F)))(hf:f p=some (.int (k:Int)))(hg:g p=some (wyD x))(hl:F.length<=900):
  cN (dA j bI (cC [.im f,.im g]) (eC "Front" "add" nM)) p=some (.nx,p.set j (some (aK true W (mE F k x)))):=
 lQ (yr0 h0 (dO hf rfl (dO hg (uI x) gH)) (xi8 (by simp [cQ,gA]) (wj2 hl)))
theorem zd8{i N:Nat}{f:tz1}(S:Nat->Frt->PSt->Prop)(st:Frt->Nat×Way->Frt):∀{L:Frt} {p:PSt} {n:Nat} {A:Frt},n+L.length<=N->S n A p->(∀n A p q,n<N->q∈L->S n A p->∃p',f (p.set i (some (.int (q.1:Int))))=some (.nx,p')/\S (n+1) (st A q) p')->∃p',cT i f (zp5 L) p=some (.nx,p')/\S (n+L.length) (L.foldl st A) p'
 |[],p,n,A,_,h,_=>⟨p,rfl,h⟩
 |q::L,p,n,A,hn,h,hs=>by
  rw [Z6] at hn
  obtain⟨p1,e1,h1⟩:=hs n A p q (by omega) Z0 h
  obtain⟨p2,e2,h2⟩:=zd8 S st (L:=L) (n:=n+1) (by omega) h1 fun n A p r h1 hr=>hs n A p r h1 (Z1 _ hr)
  refine⟨p2,?_,by rw [Z6,show n+(L.length+1)=n+1+L.length by omega];exact h2⟩
  show cT i f (.int (q.1:Int)::zp5 L) p=_
  rw [cT,e1]
  exact e2
theorem tL{i:Nat}{fi:tz3}{f:tz1}{p p':PSt}{ds:List D}(h:fi p=some ds)(e:cT i f ds p=some (.nx,p')):fV i fi f p=some (.nx,p'):=by
 unfold fV
 rw [h];exact e
abbrev yz4:tz7:=gE 2 1 (bC [true,false]) (kM nM)
theorem wj3{W:Int}{F G:Frt}(nd:(G.map (·.1)).Nodup)(hl:F.length+G.length<=800):yz4 [aK true W F,aK false W G]=some (.non,[aK true W (nF F G),aK false W G]):=by
 obtain⟨p',e,_,z,rfl⟩:=zd8 (i:=2) (N:=G.length) (f:=cN (dA 0 bI (cC [.im (aA 2),.im (f2 gZ (cL "Front" "best" (aA 1)) (aA 2))]) (eC "Front" "add" nM)))
  (fun n A p=>A.length<=F.length+n/\∃z,p=[some (aK true W A),some (aK false W G),z]) (fun A q=>mE A q.1 q.2) (L:=G) (p:=[some (aK true W F),some (aK false W G),none]) (n:=0) (A:=F) (by omega) ⟨Zc _,none,rfl⟩
  (by
   rintro n A p q hn hq ⟨hA,z,rfl⟩
   refine⟨_,zd7 (j:=0) (F:=A) (W:=W) (k:=q.1) (x:=q.2) rfl rfl (yh9 (F:=G) (W:=W) rfl rfl (lT nd hq)) (by omega),?_,_,rfl⟩
   have:=xV A q.1 q.2
   omega)
 have e2:=tL (i:=2) (zt3 (f:=aA 1) (W:=W) (F:=G) (p:=[some (aK true W F),some (aK false W G),none]) rfl) e
 show gE 2 1 _ (kM nM) _=_
 have e3:kM nM ([aK true W F,aK false W G].map some++List.replicate 1 none)=some (.nx,[some (aK true W (nF F G)),some (aK false W G),z]):=e2
 unfold gE
 rw [if_pos (show [aK true W F,aK false W G].length=2 from rfl),e3]
 rfl
theorem jO{np n:Nat}{f:tz1}{ds:List D}{d:D}(hl:ds.length=np)(h:∃q,f (ds.map some++List.replicate n none)=some (.ret d,q)):gP np n f ds=some d:=h.elim fun _ e=>gF hl e
theorem zn0{f g:tz1}{p:PSt}{d:D}(h:∃q,f p=some (.ret d,q)):∃q,aV f g p=some (.ret d,q):=h.elim fun q e=>⟨q,eA e⟩
theorem yx2(F:Frt)(n:Int):nL F n=F.foldl (fun A q=>mE A q.1 (q.2.1,q.2.2++[n])) []:=by
 unfold nL nF
 rw [List.foldl_map];rfl
theorem yr1{p:PSt}{i:Nat}{x:Way}(h:p[i]? =some (some (wyD x))):f2 dIx (aA i) (fC (.int 0)) p=some (.tup [.int x.1.1,.int x.1.2]):=aR (nV h) rfl (kZ _ _)
theorem yr2{p:PSt}{i:Nat}{x:Way}(h:p[i]? =some (some (wyD x))):f2 dIx (aA i) (fC (.int 1)) p=some (.tup (aX x.2)):=aR (nV h) rfl (iF _ _ _)
theorem zi3{p:PSt}{f g:tz2}{x:Way}(h1:f p=some (.tup [.int x.1.1,.int x.1.2]))(h2:g p=some (.tup (aX x.2))):cK (aB f (aB g aE)) p=some (wyD x):=
 eZ (aD h1 (aD h2 rfl)) (uI x) (by simp)
theorem xr1{p:PSt}{i j:Nat}{x:Way}{n:Int}(h:p[i]? =some (some (wyD x)))(hn:p[j]? =some (some (.int n)))(hl:x.2.length<=900):cK (aB (aY (f2 dIx (aA i) (fC (.int 0)))) (aB (f2 cJ (f2 dIx (aA i) (fC (.int 1))) (cK (aB (aY (aA j)) aE))) aE)) p=some (wyD (x.1,x.2++[n])):=by
 refine zi3 (x:=(x.1,x.2++[n])) (bW (yr1 (x:=x) h) rfl) (aR (yr2 (x:=x) h) (eZ (aD (bW (nV hn) rfl) rfl) rfl (by simp)) ?_)
 show(if (aX x.2).length+[D.int n].length<=sizeLine then some (D.tup (aX x.2++[.int n])) else none)=_
 rw [if_pos (by rw [qZ];exact sz (by show x.2.length+1<=1000;omega)),za0];rfl
abbrev zp6:tz6:=gP 2 3 (uO mF nM)
theorem xr2{W:Int}{F:Frt}{n:Int}(nd:(F.map (·.1)).Nodup)(hl:F.length<=800)(hc:∀q∈F,q.2.2.length<=900):zp6 [aK false W F,.int n]=some (aK true W (nL F n)):=by
 have s1:aW 2 (aI (fD "Front" (cC [.im (cL "Front" "steps" (aA 0))]) mF)) [some (aK false W F),some (.int n),none,none,none]=some (.nx,[some (aK false W F),some (.int n),some (aK true W []),none,none]):=bH (xU (vC (f:=aA 0) (F:=F) rfl))
 obtain⟨p',e,_,y,z,rfl⟩:=zd8 (i:=3) (N:=F.length) (f:=aV (aW 4 (aI (aY (f2 gZ (cL "Front" "best" (aA 0)) (aA 3))))) (cN (dA 2 bI (cC [.im (aA 3),.im (cK (aB (aY (f2 dIx (aA 4) (fC (.int 0)))) (aB (f2 cJ (f2 dIx (aA 4) (fC (.int 1))) (cK (aB (aY (aA 1)) aE))) aE)))]) (eC "Front" "add" nM))))
  (fun k A p=>A.length<=k/\∃y z,p=[some (aK false W F),some (.int n),some (aK true W A),y,z]) (fun A q=>mE A q.1 (q.2.1,q.2.2++[n])) (L:=F) (p:=[some (aK false W F),some (.int n),some (aK true W []),none,none]) (n:=0) (A:=[]) (by omega) ⟨Zc _,none,none,rfl⟩
  (by
   rintro k A p q hk hq ⟨hA,y,z,rfl⟩
   refine⟨_,(aO (bH (bW (yh9 (F:=F) (W:=W) (k:=q.1) rfl rfl (lT nd hq)) (uI q.2)))).trans (zd7 (j:=2) (F:=A) (W:=W) (k:=q.1) (x:=(q.2.1,q.2.2++[n])) rfl rfl (xr1 rfl rfl (hc q hq)) (by omega)),?_,_,_,rfl⟩
   have:=xV A q.1 (q.2.1,q.2.2++[n])
   omega)
 refine jO rfl (cY s1 (cY (tL (i:=3) (zt3 (f:=aA 0) (W:=W) (F:=F) rfl) e) ?_))
 rw [yx2]
 exact⟨_,rfl⟩
theorem wj4{i j:Int}(h1: -100000<=i)(h2:i<=100000):L2.oO i j=true:=by
 unfold L2.oO
 rw [Zo (show-(2^64)<i by omega),Zo (show i<2^64 by omega)];rfl
abbrev xu5:tz6:=gP 2 0 nY
theorem zy4{p:PSt}{f:tz2}{W:Int}(h:f p=some (bZ W)):cL "WithinWidth" "width" f p=some (.int W):=by
 unfold cL
 rw [h,Z3]
 simp [bZ,yj7,cQ]
theorem wj5{W:Int}{k:Nat}(hW0:0<=W)(hW:W<=40)(hk:k<=1000):xu5 [bZ W,.int (k:Int)]=some (.int ((W-k)*(W-k))):=by
 have e:f2 lB (cL "WithinWidth" "width" (aA 0)) (aA 1) [some (bZ W),some (.int (k:Int))]=some (.int (W-k)):=aR (zy4 rfl) rfl rfl
 exact gF (p:=[some (bZ W),some (.int (k:Int))]) rfl (cH (aR e e (if_pos (wj4 (by omega) (by omega)))))
theorem xr3(k:Nat)(w:Str)(hz:w.length<=1000):pX [.int (k:Int),.str w]=some (.int ((if lfB w=true then w.length-1 else k+w.length:Nat):Int)):=by
 have q:=zs9 w
 have hs:w.length<=sizeLine:=sz hz
 show gP 2 0 (eG sT) _=_
 unfold lfB
 generalize sT=G at q|-
 by_cases c:w.cps.toList[0]? =some 10
 ·rw [Zo c] at q|-
  have h1:1<=w.length:=by
   rw [lS]
   have:=(Z4.mp c).1
   omega
  rw [if_pos rfl,show((w.length-1:Nat):Int)=(w.length:Int)-1 by omega]
  simp! [eG,q,hs]
 ·rw [Zh c] at q|-
  rw [if_neg Zb]
  simp! [eG,q,hs]
def yc2:Option (Nat×(Int×Int))->D
 |none=> .non
 |some s=> .tup [.int (s.1:Int),.tup [.int s.2.1,.int s.2.2]]
abbrev yc3:tz6:=gP 5 2 (kC pW pX sT xu5)
theorem wc1{W:Int}{b:Bool}{m:Int}{l:Leaf}{k:Nat}{c:Int×Int}(hW0:0<=W)(hW1:W<=40)(hl:hJ l)(h0:0<=m)(h1:m<=200)(hk:k<=1000):yc3 [bZ W,.int (k:Int),.tup [.int c.1,.int c.2],bP l,aM b m]=some (yc2 (qM W b m l k c)):=by
 have q1:=zm4 l b m k hl h0 h1 (by omega)
 have s1:∀P5 P6,aW 5 (aI (aH pW (aB (aA 3) (aB (aA 4) (aB (aA 1) aE))))) [some (bZ W),some (.int (k:Int)),some (.tup [.int c.1,.int c.2]),some (bP l),some (aM b m),P5,P6]=some (.nx,[some (bZ W),some (.int (k:Int)),some (.tup [.int c.1,.int c.2]),some (bP l),some (aM b m),some (wrD (wr b m k l)),P6]):=fun _ _=>bH (aS (aD rfl (aD rfl (aD rfl rfl))) q1)
 unfold qM
 cases e:wr b m k l with
 |none=>
  rw [e] at s1
  exact jO rfl (cY (s1 none none) (zn0 ⟨_,(bO (eP (aR rfl rfl rfl))).trans (cH rfl)⟩))
 | some w=>
  rw [e] at s1
  obtain⟨_,hz⟩:=yb2 hl h0 h1 e
  have q2:=xr3 k w (by omega)
  have q3:=zs9 w
  have q4:=wj5 hW0 hW1 hk
  rw [Z3]
  generalize hK:(if lfB w=true then w.length-1 else k+w.length:Nat)=K at q2|-
  have s2:∀P6,fIf (aU (fB (f2 dIs (aA 5) (fC .non)))) (bS (aI (fC .non))) bN [some (bZ W),some (.int (k:Int)),some (.tup [.int c.1,.int c.2]),some (bP l),some (aM b m),some (.str w),P6]=some (.nx,[some (bZ W),some (.int (k:Int)),some (.tup [.int c.1,.int c.2]),some (bP l),some (aM b m),some (.str w),P6]):=fun _=>bD (eP (aR rfl rfl rfl))
  have s3:aW 6 (aI (aH pX (aB (aA 1) (aB (aA 5) aE)))) [some (bZ W),some (.int (k:Int)),some (.tup [.int c.1,.int c.2]),some (bP l),some (aM b m),some (.str w),none]=some (.nx,[some (bZ W),some (.int (k:Int)),some (.tup [.int c.1,.int c.2]),some (bP l),some (aM b m),some (.str w),some (.int (K:Int))]):=bH (aS (aD rfl (aD rfl rfl)) q2)
  refine jO rfl (cY (s1 none none) (cY (s2 none) (cY s3 ?_)))
  ·have c1:fB (f2 dGt (aA 6) (cL "WithinWidth" "width" (aA 0))) [some (bZ W),some (.int (k:Int)),some (.tup [.int c.1,.int c.2]),some (bP l),some (aM b m),some (.str w),some (.int (K:Int))]=some (decide (W<(K:Int))):=eP (aR rfl (zy4 rfl) rfl)
   by_cases hW:W<(K:Int)
   ·rw [if_pos hW]
    rw [Zo hW] at c1
    exact zn0 ⟨_,(bO c1).trans (cH rfl)⟩
   ·rw [if_neg hW]
    rw [Zh hW] at c1
    refine cY (bD c1) ?_
    have c2:fT (aH sT (aB (aA 5) aE)) [some (bZ W),some (.int (k:Int)),some (.tup [.int c.1,.int c.2]),some (bP l),some (aM b m),some (.str w),some (.int (K:Int))]=some (lfB w):=mL (aS (aD rfl rfl) q3)
    have x0:f2 dIx (aA 2) (fC (.int 0)) [some (bZ W),some (.int (k:Int)),some (.tup [.int c.1,.int c.2]),some (bP l),some (aM b m),some (.str w),some (.int (K:Int))]=some (.int c.1):=aR rfl rfl (kZ _ _)
    have x1:f2 dIx (aA 2) (fC (.int 1)) [some (bZ W),some (.int (k:Int)),some (.tup [.int c.1,.int c.2]),some (bP l),some (aM b m),some (.str w),some (.int (K:Int))]=some (.int c.2):=aR rfl rfl (iF _ _ _)
    cases lf:lfB w with
    | true=>
     rw [lf] at c2
     have x2:rC "WithinWidth" "rag_of" (aA 0) [some (bZ W),some (.int (k:Int)),some (.tup [.int c.1,.int c.2]),some (bP l),some (aM b m),some (.str w),some (.int (K:Int))]=some (bZ W):=by
      show ze6 "WithinWidth" "rag_of" (bZ W)=_
      unfold ze6 bZ
      exact if_pos ⟨rfl,by simp [cQ,gA]⟩
     have x3:=aS (h:=xu5) (aD x2 (aD (f:=aA 1) (g:=aE) (d:= .int (k:Int)) rfl rfl)) q4
     refine zn0 ⟨_,(bO c2).trans (cH (eZ (aD (bW rfl rfl) (aD (eZ (aD (aR x0 rfl rfl) (aD (aR x1 x3 rfl) rfl)) rfl (by simp)) rfl)) rfl (by simp)))⟩
    |false=>
     rw [lf] at c2
     exact cY (bD c2) ⟨_,cH (eZ (aD (bW rfl rfl) (aD (bW rfl rfl) rfl)) rfl (by simp))⟩
abbrev zf0:tz6:=gP 3 4 (sE mF yc3 nM)
theorem xj0{W:Int}{F:Frt}{b:Bool}{m:Int}{l:Leaf}(hW0:0<=W)(hW1:W<=40)(hl:hJ l)(h0:0<=m)(h1:m<=200)(nd:(F.map (·.1)).Nodup)(hF:F.length<=800)(hk:∀q∈F,q.1<=1000):
  zf0 [aK false W F,bP l,aM b m]=some (aK true W (yk7 W b m l F [])):=by
 have s1:aW 3 (aI (fD "Front" (cC [.im (cL "Front" "steps" (aA 0))]) mF)) [some (aK false W F),some (bP l),some (aM b m),none,none,none,none]=some (.nx,[some (aK false W F),some (bP l),some (aM b m),some (aK true W []),none,none,none]):=bH (xU (vC (f:=aA 0) (F:=F) rfl))
 obtain⟨p',e,_,x,y,z,rfl⟩:=zd8 (i:=4) (N:=F.length) (f:=aV (aW 5 (aI (aY (f2 gZ (cL "Front" "best" (aA 0)) (aA 4)))))
  (aV (aW 6 (aI (aH yc3 (aB (rC "WithinWidth" "state_behind" (cL "Front" "steps" (aA 0))) (aB (aA 4) (aB (f2 dIx (aA 5) (fC (.int 0))) (aB (aA 1) (aB (aA 2) aE))))))))
  (fIf (aU (fB (f2 za8 (aA 6) (fC .non)))) (cN (dA 3 bI (cC [.im (f2 dIx (aA 6) (fC (.int 0))),.im (cK (aB (aY (f2 dIx (aA 6) (fC (.int 1)))) (aB (aY (f2 dIx (aA 5) (fC (.int 1)))) aE)))]) (eC "Front" "add" nM))) bN)))
  (fun k A p=>A.length<=k/\∃x y z,p=[some (aK false W F),some (bP l),some (aM b m),some (aK true W A),x,y,z]) (fun G p=>match qM W b m l p.1 p.2.1 with
   |none=>G
   |some s=>mE G s.1 (s.2,p.2.2)) (L:=F) (p:=[some (aK false W F),some (bP l),some (aM b m),some (aK true W []),none,none,none]) (n:=0) (A:=[]) (by omega) ⟨Zc _,none,none,none,rfl⟩
  (by
   rintro k A p q hn hq ⟨hA,x,y,z,rfl⟩
   have t1:aW 5 (aI (aY (f2 gZ (cL "Front" "best" (aA 0)) (aA 4)))) [some (aK false W F),some (bP l),some (aM b m),some (aK true W A),some (.int (q.1:Int)),y,z]=some (.nx,[some (aK false W F),some (bP l),some (aM b m),some (aK true W A),some (.int (q.1:Int)),some (wyD q.2),z]):=bH (bW (yh9 (F:=F) (W:=W) (k:=q.1) rfl rfl (lT nd hq)) (uI q.2))
   have r1:rC "WithinWidth" "state_behind" (cL "Front" "steps" (aA 0)) [some (aK false W F),some (bP l),some (aM b m),some (aK true W A),some (.int (q.1:Int)),some (wyD q.2),z]=some (bZ W):=by
    unfold rC
    rw [vC (f:=aA 0) (o:=false) (W:=W) (F:=F) rfl,Z3]
    unfold ze6 bZ
    exact if_pos ⟨rfl,by simp [cQ,gA]⟩
   have t2:aW 6 (aI (aH yc3 (aB (rC "WithinWidth" "state_behind" (cL "Front" "steps" (aA 0))) (aB (aA 4) (aB (f2 dIx (aA 5) (fC (.int 0))) (aB (aA 1) (aB (aA 2) aE))))))) [some (aK false W F),some (bP l),some (aM b m),some (aK true W A),some (.int (q.1:Int)),some (wyD q.2),z]=some (.nx,[some (aK false W F),some (bP l),some (aM b m),some (aK true W A),some (.int (q.1:Int)),some (wyD q.2),some (yc2 (qM W b m l q.1 q.2.1))]):=
    bH (aS (aD r1 (aD rfl (aD (yr1 rfl) (aD rfl (aD rfl rfl))))) (wc1 hW0 hW1 hl h0 h1 (hk q hq)))
   cases es:qM W b m l q.1 q.2.1 with
   |none=>
    rw [es] at t2
    exact⟨_,(aO t1).trans ((aO t2).trans (bD (eP (aR rfl rfl rfl)))),Wx hA,_,_,_,rfl⟩
   |some s=>
    rw [es] at t2
    have w0:f2 dIx (aA 6) (fC (.int 0)) [some (aK false W F),some (bP l),some (aM b m),some (aK true W A),some (.int (q.1:Int)),some (wyD q.2),some (yc2 (some s))]=some (.int (s.1:Int)):=aR rfl rfl (kZ _ _)
    have w1:f2 dIx (aA 6) (fC (.int 1)) [some (aK false W F),some (bP l),some (aM b m),some (aK true W A),some (.int (q.1:Int)),some (wyD q.2),some (yc2 (some s))]=some (.tup [.int s.2.1,.int s.2.2]):=aR rfl rfl (iF _ _ _)
    refine⟨_,(aO t1).trans ((aO t2).trans ((bO (eP (aR rfl rfl rfl))).trans (zd7 (j:=3) (F:=A) (W:=W) (k:=s.1) (x:=(s.2,q.2.2)) rfl w0 (zi3 (x:=(s.2,q.2.2)) (bW w1 rfl) (bW (yr2 (x:=q.2) rfl) (gV q.2.2))) (by omega)))),?_,_,_,_,rfl⟩
    have:=xV A s.1 (s.2,q.2.2)
    show(mE A s.1 (s.2,q.2.2)).length<=_
    omega)
 exact jO rfl (cY s1 (cY (tL (i:=4) (zt3 (f:=aA 0) (W:=W) (F:=F) rfl) e) ⟨_,rfl⟩))
mutual
theorem yi0:∀{p:Pc} {b:Bool} {m:Int} {cs cs':List Int} {t t':Str},dM b m p cs t=some (cs',t')->cs.length<=cs'.length+(cR p).length
 | .leaf l,b,m,cs,cs',t,t',h=>by
  rw [dM] at h
  cases e:wr b m (col t) l with
  |none=>rw [e] at h;cases h
  |some w=>rw [e] at h;cases h;omega
 | .group r,b,m,cs,cs',t,t',h=>by
  rw [dM.eq_def] at h
  simp only at h
  have hl:(cR (.group r)).length=(toksR r).length+2:=by simp [cR]
  cases b with
  |false=>
   simp only [Y6,YK] at h
   have:=setR_len h
   omega
  | true=>
   cases cs with
   |nil=>simp at h
   | cons c cs=>
    simp only [Y9] at h
    rw [Z6]
    by_cases c0:c=0
    ·simp only [c0,Y9] at h;have:=setR_len h;omega
    ·by_cases c1:c=1
     ·simp only [c1,Y9] at h;have:=setR_len h;omega
     ·simp [c0,c1] at h
 | .hang n r,b,m,cs,cs',t,t',h=>by
  rw [dM] at h
  have hl:(cR (.hang n r)).length=(toksR r).length+2:=by simp [cR]
  have:=setR_len h
  omega
 | .either rs,b,m,cs,cs',t,t',h=>by
  rw [dM.eq_def] at h
  have hl:(cR (.either rs)).length=(toksRows rs).length+2:=by simp [cR]
  cases cs with
  |nil=>cases h
  |cons c cs=>
   simp only at h
   rw [Z6]
   by_cases c0:0<=c
   ·simp only [c0,Y9] at h;have:=setAt_len h;omega
   ·simp [c0] at h
theorem setR_len:∀{r:List Pc} {b:Bool} {m:Int} {cs cs':List Int} {t t':Str},setR b m r cs t=some (cs',t')->cs.length<=cs'.length+(toksR r).length
 |[],b,m,cs,cs',t,t',h=>by rw [setR] at h;cases h;omega
 | p::r,b,m,cs,cs',t,t',h=>by
  rw [setR] at h
  cases e:dM b m p cs t with
  |none=>rw [e] at h;cases h
  |some s=>
   obtain⟨c1,t1⟩:=s
   rw [e] at h
   have h1:=yi0 e
   have h2:=setR_len (cs:=c1) (t:=t1) h
   rw [toksR,Z5]
   omega
theorem setAt_len:∀{rs:List (List Pc)} {i:Nat} {b:Bool} {m:Int} {cs cs':List Int} {t t':Str},setAt b m rs i cs t=some (cs',t')->cs.length<=cs'.length+(toksRows rs).length
 |[],i,b,m,cs,cs',t,t',h=>by rw [setAt] at h;cases h
 |r::rs,0,b,m,cs,cs',t,t',h=>by
  rw [setAt] at h
  have:=setR_len h
  rw [toksRows,Z5]
  omega
 | r::rs,i+1,b,m,cs,cs',t,t',h=>by
  rw [setAt] at h
  have h1:=setAt_len h
  rw [toksRows,Z5]
  cases rs with
  |nil=>rw [setAt] at h;cases h
  |cons q qs=>
   rw [toksRows,Z5] at h1
   rw [toksMore,Z6,Z5]
   omega
end
def Few(N:Nat)(R:List Int->Str->Prop):Prop:=∀c t,R c t->c.length<=N
theorem xr4{N:Nat}{R:List Int->Str->Prop}{b:Bool}{m:Int}{p:Pc}(h:Few N R):Few (N+(cR p).length) (Aft R (dM b m p)):=by
 rintro c t ⟨c0,t0,c1,r,rfl,e⟩
 have h1:=h c0 t0 r
 have h2:=yi0 e
 rw [ZV] at h2
 rw [Z5];omega
theorem xj1{N:Nat}{R:List Int->Str->Prop}{n:Int}(h:Few N R):Few (N+1) (xw6 R n):=by
 rintro c t ⟨c0,r,rfl⟩
 have:=h c0 t r
 rw [Z5]
 show c0.length+1<=_
 omega
theorem yi1:∀{n:Nat} {l:List Nat},l.Nodup->(∀x∈l,x<n)->l.length<=n
 |0,l,_,h=>by
  cases l with
  |nil=>exact Zc _
  |cons a l=>exact absurd (h a Z0) (YF _)
 | n+1,l,nd,h=>by
  have h2:=yi1 (n:=n) (nd.erase n) fun x hx=>by
   have h3:=h x (List.mem_of_mem_erase hx)
   have h4:x≠n:=fun z=>by
    rw [z] at hx
    exact absurd hx nd.not_mem_erase
   omega
  by_cases hm:n∈l
  ·rw [List.length_erase_of_mem hm] at h2;omega
  ·rw [List.erase_of_not_mem hm] at h2;omega
theorem Good.key{W:Int}{R:List Int->Str->Prop}{F:Frt}(h:Good W R F)(hW:W<=40){q:Nat×Way}(hq:q∈F):q.1<=40:=by
 obtain⟨t,_,xs,y,_,h2,h3,_⟩:=h.hit q hq
 have:=h2 y (by simp)
 omega
theorem Good.len{W:Int}{R:List Int->Str->Prop}{F:Frt}(h:Good W R F)(hW:W<=40):F.length<=41:=by
 have:=yi1 (n:=41) h.nd fun x hx=>by
  obtain⟨q,hq,rfl⟩:=Yk.mp hx
  have:=h.key hW hq
  omega
 rwa [Z8] at this
theorem Good.few{W:Int}{R:List Int->Str->Prop}{F:Frt}{N:Nat}(h:Good W R F)(hN:Few N R){q:Nat×Way}(hq:q∈F):q.2.2.length<=N:=by
 obtain⟨t,r,_⟩:=h.hit q hq
 exact hN _ _ r
theorem xj2(W:Int)(F:Frt):yz2 (aK true W F)=some (aK false W F):=by
 have h:=uJ F
 unfold aK yz2
 exact if_pos ⟨rfl,h⟩
theorem wS{f:tz2}{p:PSt}{W:Int}{F:Frt}(h:f p=some (aK true W F)):jQ f p=some (aK false W F):=by
 unfold jQ
 rw [h,Z3,xj2]
abbrev rR(GR:tz6):tz6:=gP 3 4 (rE mF vS mD zp6 yz4 GR)
def yc4(GR:tz6):tz1:=aV (aW 6 (aI (aY (aA 0))))
 (aV (fIf (aU (fT (aH mD (aB (aA 1) (aB (aA 2) aE))))) (aW 6 (aI (jQ (aH zp6 (aB (aA 0) (aB (aA 4) aE)))))) bN)
 (cN (dA 3 bI (cC [.im (aH GR (aB (aA 6) (aB (f2 dIx (aA 5) (fC (.int 0))) (aB (f2 dIx (aA 5) (fC (.int 1))) aE))))]) (eC "Front" "add_all" yz4))))
theorem xj3{GR:tz6}{W:Int}{F A Z:Frt}{p:Pc}{b:Bool}{m:Int}{n:Nat}{x:List Pc×Bool×Int}{y:Option D}(hp:nE p=true)(nd:(F.map (·.1)).Nodup)(hF:F.length<=41)(hc:∀q∈F,q.2.2.length<=900)
  (hG:GR [aK false W (if dW b p=true then nL F n else F),.tup (pcsD x.1),aM x.2.1 x.2.2]=some (aK false W Z)) (ndZ:(Z.map (·.1)).Nodup) (hZ:A.length+Z.length<=800):
  ∃z,yc4 GR [some (aK false W F),some (pcD p),some (aM b m),some (aK true W A),some (.int (n:Int)),some (eE x),y]=some (.nx,[some (aK false W F),some (pcD p),some (aM b m),some (aK true W (nF A Z)),some (.int (n:Int)),some (eE x),z]):=by
 have t1:aW 6 (aI (aY (aA 0))) [some (aK false W F),some (pcD p),some (aM b m),some (aK true W A),some (.int (n:Int)),some (eE x),y]=some (.nx,[some (aK false W F),some (pcD p),some (aM b m),some (aK true W A),some (.int (n:Int)),some (eE x),some (aK false W F)]):=bH (bW rfl (za4 W F))
 have q2:=yh0 p b m hp
 have c2:fT (aH mD (aB (aA 1) (aB (aA 2) aE))) [some (aK false W F),some (pcD p),some (aM b m),some (aK true W A),some (.int (n:Int)),some (eE x),some (aK false W F)]=some (dW b p):=mL (aS (aD rfl (aD rfl rfl)) q2)
 have t2:fIf (aU (fT (aH mD (aB (aA 1) (aB (aA 2) aE))))) (aW 6 (aI (jQ (aH zp6 (aB (aA 0) (aB (aA 4) aE)))))) bN [some (aK false W F),some (pcD p),some (aM b m),some (aK true W A),some (.int (n:Int)),some (eE x),some (aK false W F)]=some (.nx,[some (aK false W F),some (pcD p),some (aM b m),some (aK true W A),some (.int (n:Int)),some (eE x),some (aK false W (if dW b p=true then nL F n else F))]):=by
  cases tk:dW b p with
  |true=>
   rw [tk] at c2
   exact(bO c2).trans (bH (wS (aS (aD rfl (aD rfl rfl)) (xr2 nd (by omega) hc))))
  |false=>
   rw [tk] at c2
   exact bD c2
 generalize (if dW b p=true then nL F n else F)=F' at hG t2
 have x0:f2 dIx (aA 5) (fC (.int 0)) [some (aK false W F),some (pcD p),some (aM b m),some (aK true W A),some (.int (n:Int)),some (eE x),some (aK false W F')]=some (.tup (pcsD x.1)):=aR rfl rfl (kZ _ _)
 have x1:f2 dIx (aA 5) (fC (.int 1)) [some (aK false W F),some (pcD p),some (aM b m),some (aK true W A),some (.int (n:Int)),some (eE x),some (aK false W F')]=some (aM x.2.1 x.2.2):=aR rfl rfl (iF _ _ _)
 have x2:=aS (h:=GR) (aD (f:=aA 6) (d:=aK false W F') rfl (aD x0 (aD (g:=aE) x1 rfl))) hG
 exact⟨_,(aO t1).trans ((aO t2).trans (lQ (yr0 (j:=3) rfl (dO x2 (za4 W Z) gH) (xi8 (by simp [cQ,gA]) (wj3 ndZ hZ)))))⟩
theorem zy5{GR:tz6}{GA:Bool->Int->List Pc->Frt->Frt}{W:Int}{F:Frt}{p:Pc}{b:Bool}{m:Int}(hp:nE p=true)(nd:(F.map (·.1)).Nodup)(hF:F.length<=41)(hc:∀q∈F,q.2.2.length<=900):∀(xs:List (List Pc×Bool×Int)) (n:Nat) (A:Frt) (y4 y5 y6:Option D),
  (∀(i:Nat) x,xs[i]? =some x->∃Z,Z=GA x.2.1 x.2.2 x.1 (if dW b p=true then nL F (n+i:Nat) else F)/\GR [aK false W (if dW b p=true then nL F (n+i:Nat) else F),.tup (pcsD x.1),aM x.2.1 x.2.2]=some (aK false W Z)/\(Z.map (·.1)).Nodup/\Z.length<=41)->A.length+41*xs.length<=400->
  ∃z4 z5 z6,nA [4,5] (yc4 GR) (mQ n (xs.map eE)) [some (aK false W F),some (pcD p),some (aM b m),some (aK true W A),y4,y5,y6]=some (.nx,[some (aK false W F),some (pcD p),some (aM b m),some (aK true W (frW GA (dW b p) F n xs A)),z4,z5,z6])
 |[],n,A,y4,y5,y6,_,_=>⟨y4,y5,y6,rfl⟩
 | x::xs,n,A,y4,y5,y6,hG,hA=>by
  rw [Z6] at hA
  obtain⟨Z,e1,e2,e3,e4⟩:=hG 0 x rfl
  rw [Xl] at e1 e2
  obtain⟨z,t⟩:=xj3 (m:=m) (A:=A) (y:=y6) hp nd hF hc e2 e3 (by omega)
  have hl:=zm9 Z A
  obtain⟨z4,z5,z6,ih⟩:=zy5 (m:=m) hp nd hF hc xs (n+1) (nF A Z) (some (.int (n:Int))) (some (eE x)) z (fun i y hy=>by
   have:=hG (i+1) y (by simpa using hy)
   rwa [show n+(i+1)=n+1+i by omega] at this) (by omega)
  refine⟨z4,z5,z6,?_⟩
  rw [Z9,mQ,nA]
  show(some [D.int (n:Int),eE x]).bind _=_
  rw [Z3,if_pos (show [D.int (n:Int),eE x].length=[4,5].length from rfl)]
  show(yc4 GR [some (aK false W F),some (pcD p),some (aM b m),some (aK true W A),some (.int (n:Int)),some (eE x),y6]).bind _=_
  rw [frW,<-e1]
  rw [t,Z3]
  exact ih
theorem xr5{GR:tz6}{GA:Bool->Int->List Pc->Frt->Frt}{W:Int}{F:Frt}{p:Pc}{b:Bool}{m:Int}(hp:nE p=true)(ho:okP p)(nd:(F.map (·.1)).Nodup)(hF:F.length<=41)(hc:∀q∈F,q.2.2.length<=900)
  (hG:∀(i:Nat) x,(cZ b m p)[i]? =some x->∃Z,Z=GA x.2.1 x.2.2 x.1 (if dW b p=true then nL F i else F)/\GR [aK false W (if dW b p=true then nL F i else F),.tup (pcsD x.1),aM x.2.1 x.2.2]=some (aK false W Z)/\(Z.map (·.1)).Nodup/\Z.length<=41):
  rR GR [aK false W F,pcD p,aM b m]=some (aK true W (frW GA (dW b p) F 0 (cZ b m p) [])):=by
 have h4:(cZ b m p).length<=4:=by
  cases p with
  |leaf l=>simp [cZ]
  |group r=>cases b<;>simp [cZ]
  |hang k r=>simp [cZ]
  |either rs=>have:=ho.1.2;simpa [cZ] using this
 have hn:ze9 p<=1000:=by
  cases p with
  |either rs=>have:=ho.1.2;show rs.length<=1000;omega
  |_=>exact ZT _
 have q1:=yq3 p b m hp hn
 have him:D.imms ((cZ b m p).map eE)=true:=by
  generalize cZ b m p=xs
  induction xs with
  |nil=>rfl
  |cons x xs ih=>
   show(D.imm (eE x)&&D.imms (xs.map eE))=true
   rw [zd3,ih];rfl
 have s1:aW 3 (aI (fD "Front" (cC [.im (cL "Front" "steps" (aA 0))]) mF)) [some (aK false W F),some (pcD p),some (aM b m),none,none,none,none]=some (.nx,[some (aK false W F),some (pcD p),some (aM b m),some (aK true W []),none,none,none]):=bH (xU (vC (f:=aA 0) (F:=F) rfl))
 obtain⟨z4,z5,z6,e⟩:=zy5 (m:=m) hp nd hF hc (cZ b m p) 0 [] none none none (fun i x hx=>by rw [YZ];exact hG i x hx) (by show 0+_<=_;omega)
 have s2:yb8 [4,5] (yc0 (aH vS (aB (aA 1) (aB (aA 2) aE)))) (yc4 GR) [some (aK false W F),some (pcD p),some (aM b m),some (aK true W []),none,none,none]=some (.nx,[some (aK false W F),some (pcD p),some (aM b m),some (aK true W (frW GA (dW b p) F 0 (cZ b m p) [])),z4,z5,z6]):=by
  unfold yb8 yc0
  rw [aS (h:=vS) (aD (f:=aA 1) (d:=pcD p) rfl (aD (f:=aA 2) (d:=aM b m) (g:=aE) rfl rfl)) q1,Z3]
  show((if D.imms ((cZ b m p).map eE)=true then some ((cZ b m p).map eE) else none).map (mQ 0)).bind _=_
  rw [if_pos him]
  exact e
 exact jO rfl (cY s1 (cY s2 ⟨_,rfl⟩))
def yR:Nat->tz6
 |0=>fun _=>none
 |n+1=>gP 3 2 (oW kS (rR (yR n)) zf0)
def zb9(GH:tz6):tz1:=fIf (aU (fT (aH kS (aB (aA 4) aE))))
 (aW 3 (aI (jQ (aH GH (aB (aA 3) (aB (aA 4) (aB (aA 2) aE)))))))
 (aW 3 (aI (jQ (aH zf0 (aB (aA 3) (aB (aA 4) (aB (aA 2) aE)))))))
def xu6(W:Int)(GR:tz6)(GA:Bool->Int->List Pc->Frt->Frt)(r:List Pc):Prop:=∀(b:Bool) (m:Int) (R:List Int->Str->Prop) (F:Frt) (N:Nat),0<=m->m+12*depR r<=200->Good W R F->Few N R->N+(toksR r).length<=900->
 GR [aK false W F,.tup (pcsD r),aM b m]=some (aK false W (GA b m r F))
theorem yx3{b:Bool}{m:Int}{p:Pc}{x:List Pc×Bool×Int}(hx:x∈cZ b m p):(toksR x.1).length+1<=(cR p).length:=by
 cases p with
 |leaf l=>simp [cZ] at hx
 | group r=>
  have:x.1=r:=by
   cases b<;>simp [cZ] at hx
   ·subst hx;rfl
   ·rcases hx with e|e<;>subst e<;>rfl
  rw [this];simp [cR]
 |hang n r=>
  simp [cZ] at hx
  subst hx;simp [cR]
 |either rs=>
  obtain⟨r,hm,rfl⟩:=Yk.mp (show x∈rs.map fun r=>(r,b,m) from hx)
  have:=vY hm
  simp [cR];omega
theorem wc2{W:Int}{GR:tz6}{GA:Bool->Int->List Pc->Frt->Frt}{k:Nat}(hW0:0<=W)(hW1:W<=40)(hG:∀r,depR r<k->okR r->tN W GA r)(hD:∀r,depR r<k->okR r->xu6 W GR GA r)
  {b:Bool} {m:Int} {R:List Int->Str->Prop} {F:Frt} {N:Nat} {p:Pc} {Y0 Y1:Option D} (hk:eD p<=k) (ho:okP p) (h0:0<=m) (h1:m+12*eD p<=200) (hF:Good W R F) (hN:Few N R) (hT:N+(cR p).length<=900):
  zb9 (rR GR) [Y0,Y1,some (aM b m),some (aK false W F),some (pcD p)]=some (.nx,[Y0,Y1,some (aM b m),some (aK false W (frP W GA b m F p)),some (pcD p)]):=by
 have c1:fT (aH kS (aB (aA 4) aE)) [Y0,Y1,some (aM b m),some (aK false W F),some (pcD p)]=some (nE p):=mL (aS (aD rfl rfl) (zi0 p))
 have hl:=hF.len hW1
 have hc:∀q∈F,q.2.2.length<=900:=fun q hq=>by have:=hF.few hN hq;omega
 have hold:nE p=true->zb9 (rR GR) [Y0,Y1,some (aM b m),some (aK false W F),some (pcD p)]=some (.nx,[Y0,Y1,some (aM b m),some (aK false W (frW GA (dW b p) F 0 (cZ b m p) [])),some (pcD p)]):=fun hp=>by
  rw [hp] at c1
  refine(bO c1).trans (bH (wS (aS (aD rfl (aD rfl (aD rfl rfl))) (xr5 (GA:=GA) hp ho hF.nd hl hc fun i x hx=> ?_))))
  have hm:=ZM hx
  obtain⟨a1,a2,a3,a4⟩:=yh7 ho h0 h1 hk hm
  have ht:=yx3 hm
  have gg:∀(R':List Int->Str->Prop) (F':Frt),Good W R' F'->Few (N+1) R'->∃Z,Z=GA x.2.1 x.2.2 x.1 F'/\GR [aK false W F',.tup (pcsD x.1),aM x.2.1 x.2.2]=some (aK false W Z)/\(Z.map (·.1)).Nodup/\Z.length<=41:=fun R' F' hR hf=>by
   have g:=hG x.1 a3 a4 x.2.1 x.2.2 R' F' a1 a2 hR
   exact⟨_,rfl,hD x.1 a3 a4 x.2.1 x.2.2 R' F' (N+1) a1 a2 hR hf (by omega),g.nd,g.len hW1⟩
  by_cases tk:dW b p=true
  ·rw [if_pos tk]
   exact gg _ _ (zm5 hF i) (xj1 hN)
  ·rw [if_neg tk]
   exact gg _ _ hF fun c t h=>Wx (hN c t h)
 cases p with
 |leaf l=>
  have hm:m<=200:=by rw [eD] at h1;omega
  exact(fU (dR c1)).trans (bH (wS (aS (aD rfl (aD rfl (aD rfl rfl))) (xj0 hW0 hW1 ho h0 hm hF.nd (by omega) fun q hq=>by have:=hF.key hW1 hq;omega))))
 |group r=>exact hold rfl
 |hang n r=>exact hold rfl
 |either rs=>exact hold rfl
theorem xj4{W:Int}{GR:tz6}{GA:Bool->Int->List Pc->Frt->Frt}{k:Nat}(hW0:0<=W)(hW1:W<=40)(hG:∀r,depR r<k->okR r->tN W GA r)(hD:∀r,depR r<k->okR r->xu6 W GR GA r){b:Bool}{m:Int}{Y0 Y1:Option D}(h0:0<=m):∀(r:List Pc) (R:List Int->Str->Prop) (F:Frt) (N:Nat) (y:Option D),depR r<=k->okR r->m+12*depR r<=200->Good W R F->Few N R->N+(toksR r).length<=900->
  ∃z,cT 4 (zb9 (rR GR)) (pcsD r) [Y0,Y1,some (aM b m),some (aK false W F),y]=some (.nx,[Y0,Y1,some (aM b m),some (aK false W (r.foldl (fun F p=>frP W GA b m F p) F)),z])
 |[],R,F,N,y,_,_,_,_,_,_=>⟨y,rfl⟩
 |p::r,R,F,N,y,hk,ho,h1,hF,hN,hT=>by
  rw [depR] at hk h1
  rw [toksR,Z5] at hT
  have q1:=wc2 hW0 hW1 hG hD (b:=b) (Y0:=Y0) (Y1:=Y1) (show eD p<=k by omega) ho.1 h0 (by omega) hF hN (by omega)
  obtain⟨z,e⟩:=xj4 hW0 hW1 hG hD h0 r _ _ _ (some (pcD p)) (by omega) ho.2 (by omega) (zm7 hG (b:=b) (show eD p<=k by omega) ho.1 h0 (by omega) hF) (xr4 hN) (by omega)
  refine⟨z,?_⟩
  show cT 4 _ (pcD p::pcsD r) _=_
  rw [cT]
  show((zb9 (rR GR) [Y0,Y1,some (aM b m),some (aK false W F),some (pcD p)]).bind _)=_
  rw [q1];exact e
theorem yr3{W:Int}(hW0:0<=W)(hW1:W<=40):∀(n:Nat) (r:List Pc),depR r<n->okR r->xu6 W (yR n) (frN W n) r
 |0,_,h,_=>absurd h (YF _)
 |n+1,r,hd,ho=>fun b m R F N h0 h1 hF hN hT=>by
  obtain⟨z,e⟩:=xj4 (GR:=yR n) (GA:=frN W n) (k:=n) (Y0:=some (aK false W F)) (Y1:=some (.tup (pcsD r))) hW0 hW1 (fun q h2 h3=>zi2 n q h2 h3) (fun q h2 h3=>yr3 hW0 hW1 n q h2 h3) h0 r R F N none (by omega) ho h1 hF hN hT
  have s1:aW 3 (aI (aY (aA 0))) [some (aK false W F),some (.tup (pcsD r)),some (aM b m),none,none]=some (.nx,[some (aK false W F),some (.tup (pcsD r)),some (aM b m),some (aK false W F),none]):=bH (bW rfl (za4 W F))
  have s2:fV 4 (cP (aA 1)) (zb9 (rR (yR n))) [some (aK false W F),some (.tup (pcsD r)),some (aM b m),some (aK false W F),none]=some (.nx,[some (aK false W F),some (.tup (pcsD r)),some (aM b m),some (aK false W (frN W (n+1) b m r F)),z]):=tL rfl e
  show gP 3 2 (oW kS (rR (yR n)) zf0) _=_
  exact jO rfl (cY s1 (cY s2 ⟨_,rfl⟩))
abbrev zc0:tz7:=gE 2 0 (bC [true,false]) lD
theorem wj6(W:Int):zc0 [.obj true "WithinWidth" [] [],.int W]=some (.non,[.obj true "WithinWidth" ["width"] [.int W],.int W]):=by
 simp [gE,lD,iE,xA,cQ,aY,aA,bI,fL,zi9,bC,D.imm]
theorem xj5{p:PSt}{f:tz2}{W:Int}(h:f p=some (.int W)):mW (fD "WithinWidth" (cC [.im f]) zc0) p=some (bZ W):=by
 have i:=wj6 W
 unfold mW
 have e:fD "WithinWidth" (cC [.im f]) zc0 p=some (.obj true "WithinWidth" ["width"] [.int W]):=by
  unfold fD
  rw [dO h rfl gH,Z3,i];rfl
 rw [e];rfl
abbrev uS:tz6:=gP 1 0 zD
abbrev yc5:tz6:=gP 2 0 (vI uS)
abbrev yk8:tz6:=gP 2 2 (yK yc5 uS)
theorem xj6:uS [.str ""]=some (.lst true [.str ""]):=by kernel_rfl
theorem wp6{W:Int}(hW:0<=W):yc5 [.str "",.int W]=some (.bl true):=by
 have q:=xj6
 have e:("":Str).length=0:=by decide+kernel
 show gP 2 0 (vI uS) _=_
 generalize uS=G at q|-
 have z:(0:Nat)<=sizeLine:=ZT _
 have z1:1<=sizeLine:=sz (by decide)
 simp! [vI,iD,cP,q,lC,gO,rY,iG,yy8,D.bools,e,hW,z,z1]
theorem wj7{W:Int}(hW:0<=W):yk8 [.str "",.int W]=some (.tup [.int 1,.int 0]):=by
 have q:=xj6
 have f:=wp6 hW
 show gP 2 2 (yK yc5 uS) _=_
 generalize yc5=G1 at f|-
 generalize uS=G2 at q|-
 have s1:fIf (aU (fA (fT (aH G1 (aB (aA 0) (aB (aA 1) aE)))))) (bS (aI (fC .non))) bN [some (.str ""),some (.int W),none,none]=some (.nx,[some (.str ""),some (.int W),none,none]):=bD (iC (mL (aS (aD rfl (aD rfl rfl)) f)))
 have s2:aW 2 (aI (aH G2 (aB (aA 0) aE))) [some (.str ""),some (.int W),none,none]=some (.nx,[some (.str ""),some (.int W),some (.lst true [.str ""]),none]):=bH (aS (aD rfl rfl) q)
 have e3:fSl (aA 2) gB (jP (dP (fC (.int 1)))) [some (.str ""),some (.int W),some (.lst true [.str ""]),none]=some (.lst true []):=by rfl
 have s3:aW 3 (aI (aH yy9 (aB (iD [none,some 1] (cP (fSl (aA 2) gB (jP (dP (fC (.int 1)))))) iG (f2 iL (f2 lB (aA 1) (aH cW (aB (aA 0) aE))) (f2 lB (aA 1) (aH cW (aB (aA 0) aE))))) aE))) [some (.str ""),some (.int W),some (.lst true [.str ""]),none]=some (.nx,[some (.str ""),some (.int W),some (.lst true [.str ""]),some (.int 0)]):=by
  refine bH (aS (aD (d:= .lst true []) ?_ rfl) rfl)
  unfold iD cP
  rw [e3]
  rfl
 refine jO rfl (cY s1 (cY s2 (cY s3 ⟨_,cH (eZ (aD (d:= .int 1) ?_ (aD (bW rfl rfl) rfl)) rfl (by simp))⟩)))
 exact aS (aD (g:=aE) rfl rfl) rfl
abbrev uT:tz6:=gP 1 2 (uP mF zc0 yk8 nM)
theorem zi4{W:Int}(hW:0<=W):uT [.int W]=some (aK true W [(0,((1,0),[]))]):=by
 have p0:=wj7 hW
 have s1:aW 1 (aI (fD "Front" (cC [.im (mW (fD "WithinWidth" (cC [.im (aA 0)]) zc0))]) mF)) [some (.int W),none,none]=some (.nx,[some (.int W),some (aK true W []),none]):=bH (xU (xj5 rfl))
 have s2:aW 2 (aI (aH yk8 (aB (fC (.str "")) (aB (aA 0) aE)))) [some (.int W),some (aK true W []),none]=some (.nx,[some (.int W),some (aK true W []),some (.tup [.int 1,.int 0])]):=bH (aS (aD rfl (aD rfl rfl)) p0)
 have s3:fIf (aU (fB (f2 za8 (aA 2) (fC .non)))) (cN (dA 1 bI (cC [.im (fC (.int 0)),.im (cK (aB (aY (aA 2)) (aB (cK aE) aE)))]) (eC "Front" "add" nM))) bN [some (.int W),some (aK true W []),some (.tup [.int 1,.int 0])]=some (.nx,[some (.int W),some (aK true W [(0,((1,0),[]))]),some (.tup [.int 1,.int 0])]):=
  (bO (eP (aR rfl rfl rfl))).trans (zd7 (j:=1) (F:=[]) (W:=W) (k:=0) (x:=((1,0),[])) rfl rfl (zi3 (x:=((1,0),[])) (bW rfl rfl) (eZ rfl rfl (ZT _))) (by simp))
 exact jO rfl (cY s1 (cY s2 (cY s3 ⟨_,rfl⟩)))
abbrev qA(n:Nat):tz6:=gP 2 0 (rF (yR n) zb8)
def dN(W:Int)(n:Nat)(r:List Pc):Frt:=frN W n true 0 r [(0,((1,0),[]))]
theorem yx4{W:Int}(hW:0<=W):Good W (fun cs t=>cs=[]/\t=⟨#[]⟩) [(0,((1,0),[]))]:=⟨by simp,fun p hp=>by
 rw [Zg.mp hp];exact⟨_,⟨rfl,rfl⟩,yh5 hW⟩⟩
theorem za5{W:Int}{n:Nat}{r:List Pc}(hW0:0<=W)(hW1:W<=40)(hd:depR r<n)(h8:depR r<=16)(ho:okR r)(hl:(toksR r).length<=800):qA n [aK false W [(0,((1,0),[]))],.tup (pcsD r)]=some (aK false W (dN W n r)):=by
 have q:=yr3 hW0 hW1 n r hd ho true 0 _ _ 0 (Yr _) (by omega) (yx4 hW0) (fun c t h=>by rw [h.1];exact Zc _) (by omega)
 exact jO rfl ⟨_,cH (aS (aD rfl (aD rfl (aD (aS rfl yh1) rfl))) q)⟩
def bJ(q:Nat×Way):D:= .tup [.int (q.1:Int),.int q.2.1.1,.int q.2.1.2,.tup (aX q.2.2)]
def zf1(F:Frt)(k:Int):Option (Nat×Way):=(pY F k.toNat).map fun x=>(k.toNat,x)
def qN(F:Frt):List Int:=F.map fun q=>(q.1:Int)
def rdL(F:Frt):List (Nat×Way):=(PySem.W.sortI (qN F)).filterMap (zf1 F)
def yk9:tz2:=f2 cJ (f2 cJ (cK (aB (aY (aA 0)) aE)) (f2 dIx (f2 gZ (aA 1) (aA 0)) (fC (.int 0)))) (cK (aB (aY (f2 dIx (f2 gZ (aA 1) (aA 0)) (fC (.int 1)))) aE))
theorem wj8{F:Frt}{q:Nat×Way}(nd:(F.map (·.1)).Nodup)(hq:q∈F)(hc:q.2.2.length<=900):yk9 [some (.int (q.1:Int)),some (.dic false (dG F) (dU F))]=some (bJ q):=by
 have g:f2 gZ (aA 1) (aA 0) [some (.int (q.1:Int)),some (.dic false (dG F) (dU F))]=some (wyD q.2):=aR rfl rfl (by
  show(some (Sum.inl (q.1:Int):Key)).bind _=_
  rw [Z3,sL,lT nd hq];rfl)
 have g0:f2 dIx (f2 gZ (aA 1) (aA 0)) (fC (.int 0)) [some (.int (q.1:Int)),some (.dic false (dG F) (dU F))]=some (.tup [.int q.2.1.1,.int q.2.1.2]):=aR g rfl (kZ _ _)
 have g1:f2 dIx (f2 gZ (aA 1) (aA 0)) (fC (.int 1)) [some (.int (q.1:Int)),some (.dic false (dG F) (dU F))]=some (.tup (aX q.2.2)):=aR g rfl (iF _ _ _)
 have z:(3:Nat)<=sizeLine:=sz (by decide)
 have z4:(4:Nat)<=sizeLine:=sz (by decide)
 have im:=gV q.2.2
 have a1:cK (aB (aY (aA 0)) aE) [some (.int (q.1:Int)),some (.dic false (dG F) (dU F))]=some (.tup [.int (q.1:Int)]):=eZ (aD (bW (d:= .int (q.1:Int)) rfl rfl) rfl) rfl (by simp)
 have d1:cJ (.tup [.int (q.1:Int)]) (.tup [.int q.2.1.1,.int q.2.1.2])=some (.tup [.int (q.1:Int),.int q.2.1.1,.int q.2.1.2]):=by
  show(if 3<=sizeLine then _ else none)=_
  rw [if_pos z];rfl
 have d2:cJ (.tup [.int (q.1:Int),.int q.2.1.1,.int q.2.1.2]) (.tup [.tup (aX q.2.2)])=some (bJ q):=by
  show(if 4<=sizeLine then _ else none)=_
  rw [if_pos z4];rfl
 have a2:cK (aB (aY (f2 dIx (f2 gZ (aA 1) (aA 0)) (fC (.int 1)))) aE) [some (.int (q.1:Int)),some (.dic false (dG F) (dU F))]=some (.tup [.tup (aX q.2.2)]):=eZ (aD (bW g1 im) rfl) (by simp [D.imms,D.imm,im]) (by simp)
 exact aR (aR a1 g0 d1) a2 d2
theorem zy6{F:Frt}(nd:(F.map (·.1)).Nodup)(hc:∀q∈F,q.2.2.length<=900)(x:Option D):∀ks:List Int,(∀k∈ks,∃q∈F,k=(q.1:Int))->gO [x,some (.dic false (dG F) (dU F))] iG yk9 (ks.map .int)=some ((ks.filterMap (zf1 F)).map bJ)
 |[],_=>rfl
 |k::ks,h=>by
  obtain⟨q,hq,rfl⟩:=h k Z0
  have ih:=zy6 nd hc x ks fun j hj=>h j (Z1 _ hj)
  have e:=wj8 nd hq (hc q hq)
  have p:zf1 F (q.1:Int)=some q:=by unfold zf1;rw [YO,lT nd hq];rfl
  rw [Z9,gO,List.filterMap_cons_some p,Z9]
  show(some true).bind (fun b=>if b=true then(yk9 [some (.int (q.1:Int)),some (.dic false (dG F) (dU F))]).bind _ else _)=_
  rw [Z3,if_pos rfl,e,Z3,ih];rfl
theorem zg2:∀F:Frt,ze4 (dG F)=some (qN F)
 |[]=>rfl
 |q::F=>by
  show(ze4 (dG F)).map ((q.1:Int)::·)=_
  rw [zg2 F];rfl
abbrev yl0(n:Nat):tz6:=gP 2 1 (zo7 (qA n) uT)
theorem xr6{W:Int}{n:Nat}{r:List Pc}(hW0:0<=W)(hW1:W<=40)(hd:depR r<n)(h8:depR r<=16)(ho:okR r)(hl:(toksR r).length<=800):yl0 n [.tup (pcsD r),.int W]=some (.lst true ((rdL (dN W n r)).map bJ)):=by
 have g:Good W (fun cs t=>setR true 0 r cs ⟨#[]⟩=some ([],t)) (dN W n r):=xT (n:=n) hW0 hd ho (by omega)
 have hlen:=g.len hW1
 have hfew:∀q∈dN W n r,q.2.2.length<=900:=fun q hq=>by
  obtain⟨t,e,_⟩:=g.hit q hq
  have:=setR_len e
  rw [ZV] at this
  omega
 have q:=za5 hW0 hW1 hd h8 ho hl
 have s1:aW 2 (aI (aY (cL "Front" "best" (aH (qA n) (aB (jQ (aH uT (aB (aA 1) aE))) (aB (aA 0) aE)))))) [some (.tup (pcsD r)),some (.int W),none]=some (.nx,[some (.tup (pcsD r)),some (.int W),some (.dic false (dG (dN W n r)) (dU (dN W n r)))]):=
  bH (bW (xW (aS (aD (wS (aS (aD rfl rfl) (zi4 hW0))) (aD rfl rfl)) q)) (yq9 _))
 have nl:(qN (dN W n r)).length<=41:=by unfold qN;rw [Z8];exact hlen
 have e1:aH zb0 (aB (aA 2) aE) [some (.tup (pcsD r)),some (.int W),some (.dic false (dG (dN W n r)) (dU (dN W n r)))]=some (.lst true ((PySem.W.sortI (qN (dN W n r))).map .int)):=by
  refine aS (aD rfl rfl) ?_
  show(ze4 (dG (dN W n r))).bind _=_
  rw [zg2,Z3,if_pos (by omega)]
 have c:=zy6 g.nd hfew none (PySem.W.sortI (qN (dN W n r))) fun k hk=>by
  have hk':=(Yf _).mem_iff.mp hk
  obtain⟨q,hq,e⟩:=Yk.mp hk'
  exact⟨q,hq,e.symm⟩
 have im:∀ks:List Int,D.imms (ks.map .int)=true:=fun ks=>gV ks
 have sl:((PySem.W.sortI (qN (dN W n r))).map D.int).length<=sizeLine:=by
  rw [Z8,(Yf _).length_eq];exact sz (by omega)
 have e2:iD [none,some 2] (cP (aH zb0 (aB (aA 2) aE))) iG yk9 [some (.tup (pcsD r)),some (.int W),some (.dic false (dG (dN W n r)) (dU (dN W n r)))]=some (.lst true ((rdL (dN W n r)).map bJ)):=by
  unfold iD cP
  rw [e1,Z3]
  show((if D.imms ((PySem.W.sortI (qN (dN W n r))).map D.int)=true then some ((PySem.W.sortI (qN (dN W n r))).map D.int) else none).bind _)=_
  rw [if_pos (im _),Z3,if_pos sl]
  show(gO [none,some (.dic false (dG (dN W n r)) (dU (dN W n r)))] iG yk9 _).bind _=_
  rw [c];rfl
 exact jO rfl (cY s1 ⟨_,cH e2⟩)
theorem wc3{F:Frt}(nd:(F.map (·.1)).Nodup){q:Nat×Way}:q∈rdL F↔q∈F:=by
 unfold rdL
 rw [YI]
 constructor
 ·rintro⟨k,hk,e⟩
  have hk':=(Yf _).mem_iff.mp hk
  obtain⟨p,hp,rfl⟩:=Yk.mp hk'
  unfold zf1 at e
  rw [YO,lT nd hp] at e
  cases e
  exact hp
 ·intro hq
  refine⟨(q.1:Int),(Yf _).mem_iff.mpr (Wj (f:=fun q:Nat×Way=>(q.1:Int)) hq),?_⟩
  unfold zf1
  rw [YO,lT nd hq];rfl
def sD(t:Str)(cs:List Int)(n:Nat):D:= .lst true [.str t,.lst true (aX cs),.int n]
theorem wp7:ixN 3 0=some 0:=by decide
abbrev sV:tz7:=gE 2 0 (bC [true,false]) zb6
theorem yr4{t:Str}{cs:List Int}{n:Nat}{m:Int}(h0:0<=m)(h1:m<=200)(ht:t.length<=1000000):sV [sD t cs n,.int m]=some (.non,[sD (t++nlw m) cs n,.int m]):=by
 have q:=yb3 m (by omega) (by omega)
 have hs:sizeLine=16777216:=Y2
 have e1:cJ (.str t) (.str "\n")=some (.str (t++(⟨#[10]⟩:Str))):=by
  rw [zm0,cJ,if_pos]
  show t.length+1<=_;omega
 have e2:cJ (.str (t++(⟨#[10]⟩:Str))) (.str (Txt.mul " " m))=some (.str (t++nlw m)):=by
  rw [cJ,if_pos,yq5];rfl
  rw [dF,jW];show t.length+1+_<=_;omega
 have i0:=wp7
 simp only [gE,zb6,sD]
 simp only [Z6,ZV,if_pos,Z9,Xj,ZP,Y8,List.replicate_zero,dE,f2,aA,fC,dIx,kZ,Z3,List.getElem?_cons_zero,Yd,YC,e1,q,e2]
 simp! [fKs,ze2,dE,eU,yw7,xv4,dC,dS,fE2,fTE,nH,i0]
abbrev zu0:tz6:=gP 1 0 wD
theorem zy7{t:Str}{cs:List Int}{n:Nat}(ht:t.length<=1000000):zu0 [sD t cs n]=some (.int (col t)):=by
 have hs:sizeLine=16777216:=Y2
 have hz:t.length<=sizeLine:=by omega
 have e:=xi0 t
 rw [<-zm0] at e
 simp! [fKs,ze2,dE,eU,yw7,xv4,dC,dS,fE2,fTE,nH,wD,sD,hz,zo5,e]
theorem xr7(n:Nat):∃s:Int,atI [D.int 1,.int 12,.int 144,.int 1728,.int 20736,.int 248832,.int 2985984,.int 35831808] ((n:Int) % 8)=some (.int s)/\0<s/\s<1073741824:=by
 have h0:=ZE (n:Int) (show(8:Int)≠0 by decide)
 have h1:=Zz (n:Int) (show(0:Int)<8 by decide)
 obtain⟨d,hd,e⟩:=tJ [D.int 1,.int 12,.int 144,.int 1728,.int 20736,.int 248832,.int 2985984,.int 35831808] ((n:Int) % 8) h0 (by simpa using h1)
 simp only [Z2,Zm,ZW] at hd
 rcases hd with rfl|rfl|rfl|rfl|rfl|rfl|rfl|rfl<;>exact⟨_,e,by decide,by decide⟩
abbrev yS(GM GC:tz6):tz7:=gE 4 2 (bC [false,true,false,false]) (vM GM GC)
section
variable{GM GC:tz6}{S:D}
theorem wc4{t:Str}{cs:List Int}{n many:Nat}{salt:Int}(hM:∀j s:Int,0<=j->j<1000->0<=s->s<1000->∃a,GM [S,.int j,.int s]=some (.int a)/\0<=a)(hC:∀j:Int,0<=j->j<1000->∃a,GC [S,.int j]=some (.int a))(hn:n<=900)(h0:0<=salt)(h1:salt<1000)(hm:0<many)(hl:cs.length<=900):
  ∃d:Int,yS GM GC [S,sD t cs n,.int salt,.int many]=some (.int d,[S,sD t (cs++[d]) (n+1),.int salt,.int many])/\0<=d/\d<many:=by
 obtain⟨a,qa,ha⟩:=hM ((n:Int)+40) salt (by omega) (by omega) h0 h1
 obtain⟨b,qb⟩:=hC (40+(n:Int)/8) (by omega) (by omega)
 obtain⟨s,qs,s0,s1⟩:=xr7 n
 have hm':(0:Int)<(many:Int):=by omega
 have hz:(aX cs).length<sizeLine:=by rw [qZ];exact sz1 (by omega)
 have r:=fun x:Int=>And.intro (ZE x (show(many:Int)≠0 by omega)) (Zz x hm')
 have i1:∀d:Int,aX [d]=[.int d]:=fun _=>rfl
 have v2:∀x4 x5,f2 dIx (aA 1) (fC (.int 2)) [some S,some (sD t cs n),some (.int salt),some (.int many),x4,x5]=some (.int n):=fun _ _=>aR rfl rfl (yg7 _ _ _ _)
 have s1':aW 4 (aI (aH GM (aB (aA 0) (aB (f2 cJ (f2 dIx (aA 1) (fC (.int 2))) (fC (.int 40))) (aB (aA 2) aE))))) [some S,some (sD t cs n),some (.int salt),some (.int many),none,none]=some (.nx,[some S,some (sD t cs n),some (.int salt),some (.int many),some (.int a),none]):=bH (aS (aD rfl (aD (aR (v2 _ _) rfl rfl) (aD rfl rfl))) qa)
 have fin:∀(x:Int) (x5:Option D),∃q,aV (dE 1 bI (fC (.int 2)) (f2 cJ (f2 dIx (aA 1) (fC (.int 2))) (fC (.int 1)))) (aV (cN (dA 1 (fM 1 bI (fC (.int 1))) (aB (f2 dX (aA 4) (aA 3)) aE) dD)) (bS (aI (f2 dX (aA 4) (aA 3))))) [some S,some (sD t cs n),some (.int salt),some (.int many),some (.int x),x5]=some (.ret (.int (x % many)),[some S,some (sD t (cs++[x % many]) (n+1)),some (.int salt),some (.int many),some (.int x),x5])/\q=x5:=fun x x5=>by
  have md:∀s,f2 dX (aA 4) (aA 3) [some S,s,some (.int salt),some (.int many),some (.int x),x5]=some (.int (x % many)):=fun s=>aR rfl rfl ((dC _ _).trans (if_pos hm'))
  have a1:dE 1 bI (fC (.int 2)) (f2 cJ (f2 dIx (aA 1) (fC (.int 2))) (fC (.int 1))) [some S,some (sD t cs n),some (.int salt),some (.int many),some (.int x),x5]=some (.nx,[some S,some (sD t cs (n+1)),some (.int salt),some (.int many),some (.int x),x5]):=by
   unfold dE
   rw [aR (v2 _ _) rfl rfl]
   rfl
  have a2:cN (dA 1 (fM 1 bI (fC (.int 1))) (aB (f2 dX (aA 4) (aA 3)) aE) dD) [some S,some (sD t cs (n+1)),some (.int salt),some (.int many),some (.int x),x5]=some (.nx,[some S,some (sD t (cs++[x % many]) (n+1)),some (.int salt),some (.int many),some (.int x),x5]):=by
   refine lQ (d:= .non) ?_
   unfold dA
   rw [aD (md _) rfl]
   show((fL (dD [.int (x % many)]) (sD t cs (n+1)) [.ix 1]).bind _)=_
   have e:fL (dD [.int (x % many)]) (sD t cs (n+1)) [.ix 1]=some (.non,sD t (cs++[x % many]) (n+1)):=by
    show((dD [.int (x % many)] (.lst true (aX cs))).bind _)=_
    rw [show dD [.int (x % many)] (.lst true (aX cs))=some (.non,.lst true (aX cs++[.int (x % many)])) from if_pos hz]
    unfold sD
    rw [za0,i1];rfl
   rw [e];rfl
  exact⟨_,(aO a1).trans ((aO a2).trans (cH (md _))),rfl⟩
 have out:∀(d:Int) (p4 p5:Option D),vM GM GC [some S,some (sD t cs n),some (.int salt),some (.int many),none,none]=some (.ret (.int d),[some S,some (sD t (cs++[d]) (n+1)),some (.int salt),some (.int many),p4,p5])->yS GM GC [S,sD t cs n,.int salt,.int many]=some (.int d,[S,sD t (cs++[d]) (n+1),.int salt,.int many]):=fun d p4 p5 h=>by
  unfold yS gE
  refine(if_pos rfl).trans ?_
  show(vM GM GC [some S,some (sD t cs n),some (.int salt),some (.int many),none,none]).bind _=_
  rw [h];rfl
 have t1:fB (f2 dEq (aA 2) (fC (.int 1))) [some S,some (sD t cs n),some (.int salt),some (.int many),some (.int a),none]=some (decide (salt=1)):=eP (aR rfl rfl rfl)
 by_cases c:salt=1
 ·refine⟨(b/s) % many,out _ (some (.int (b/s))) (some (.int s)) ?_,(r _).1,(r _).2⟩
  rw [Zo c] at t1
  have s2:aW 5 (aI (f2 dIx (cV (fKs [.int 1,.int 12,.int 144,.int 1728,.int 20736,.int 248832,.int 2985984,.int 35831808])) (f2 dX (f2 dIx (aA 1) (fC (.int 2))) (fC (.int 8))))) [some S,some (sD t cs n),some (.int salt),some (.int many),some (.int a),none]=some (.nx,[some S,some (sD t cs n),some (.int salt),some (.int many),some (.int a),some (.int s)]):=bH (aR (fO rfl (Za rfl)) (aR (v2 _ _) rfl ((dC _ _).trans (if_pos (by decide)))) qs)
  have s3:aW 4 (aI (f2 gI (aH GC (aB (aA 0) (aB (f2 cJ (fC (.int 40)) (f2 gI (f2 dIx (aA 1) (fC (.int 2))) (fC (.int 8)))) aE))) (aA 5))) [some S,some (sD t cs n),some (.int salt),some (.int many),some (.int a),some (.int s)]=some (.nx,[some S,some (sD t cs n),some (.int salt),some (.int many),some (.int (b/s)),some (.int s)]):=bH (aR (aS (aD rfl (aD (aR rfl (aR (v2 _ _) rfl ((dS _ _).trans (if_pos (by decide)))) rfl) rfl)) qb) rfl ((dS _ _).trans (if_pos ⟨s0,s1⟩)))
  obtain⟨_,f,_⟩:=fin (b/s) (some (.int s))
  exact(aO s1').trans ((aO ((bO t1).trans ((aO s2).trans s3))).trans f)
 ·refine⟨a % many,out _ (some (.int a)) none ?_,(r _).1,(r _).2⟩
  rw [Zh c] at t1
  obtain⟨_,f,_⟩:=fin a none
  exact(aO s1').trans ((aO (bD t1)).trans f)
end
theorem xr8{f:tz8}{p p':PSt}{d:D}(h:f p=some (d,p')):bS f p=some (.ret d,p'):=by unfold bS;rw [h];rfl
theorem yi2{i:Nat}{f:tz8}{p p':PSt}{d:D}(h:f p=some (d,p')):aW i f p=some (.nx,p'.set i (some d)):=by unfold aW;rw [h];rfl
theorem xj7{i:Nat}{fe:tz2}{y a:D}{l:List D}{p:PSt}(h:fe p=some y)(hp:p[i]? =some (some (.lst true (a::l)))):dE i bI (fC (.int 0)) fe p=some (.nx,p.set i (some (.lst true (y::l)))):=by
 have e:ixN (l.length+1) 0=some 0:=mT _
 simp [dE,h,hp,bI,fC,fL,eU,e]
abbrev vT:tz7:=gE 3 0 (bC [true,false,false]) (vO zu0 sV)
abbrev rS:tz7:=gE 4 0 (bC [false,false,false,true]) (nJ vT sV)
theorem zd9{t:Str}{c:Int}(c0:0<=c)(c1:c<=200):(t++nlw c).length<=t.length+201:=by
 unfold nlw
 rw [dF,dF,jW];show _+(1+_)<=_;omega
def zu1(f:Option (D×List D))(g:Str->List D)(flat:Bool)(m:Int)(l:Leaf)(t:Str):Prop:=∃ok t',f=some (.bl ok,g t')/\(ok=true->∃w,wr (!flat) m (col t) l=some w/\t'=t++w)/\(ok=false->wr (!flat) m (col t) l=none/\flat=true)/\t'.length<=t.length+201
theorem xr9{t:Str}{cs:List Int}{n:Nat}{flat:Bool}{m c:Int}(hc:0<=c/\c<=40)(ht:t.length<=900000):zu1 (vT [sD t cs n,.bl flat,.int c]) (fun t'=>[sD t' cs n,.bl flat,.int c]) flat m (.stop c) t:=by
 have hs:sizeLine=16777216:=Y2
 have past:fB (f2 dGt (aH zu0 (aB (aA 0) aE)) (aA 2)) [some (sD t cs n),some (.bl flat),some (.int c)]=some (decide (c<(col t:Int))):=eP (aR (aS (aD rfl rfl) (zy7 (by omega))) rfl rfl)
 have bl:∀t':Str,t'.length<=1000000->(col t':Int)<=c->dE 0 bI (fC (.int 0)) (f2 cJ (f2 dIx (aA 0) (fC (.int 0))) (f2 iL (fC (.str " ")) (f2 lB (aA 2) (aH zu0 (aB (aA 0) aE))))) [some (sD t' cs n),some (.bl flat),some (.int c)]=some (.nx,[some (sD (t'++Txt.mul " " (c-(col t':Int))) cs n),some (.bl flat),some (.int c)]):=fun t' h hk=>
  xj7 (aR (aR rfl rfl (kZ _ _)) (aR rfl (aR rfl (aS (aD rfl rfl) (zy7 h)) rfl) (yb3 _ (by omega) (by omega))) (by rw [cJ,if_pos];rw [jW];omega)) rfl
 have out:∀(ok:Bool) (t':Str),vO zu0 sV [some (sD t cs n),some (.bl flat),some (.int c)]=some (.ret (.bl ok),[some (sD t' cs n),some (.bl flat),some (.int c)])->vT [sD t cs n,.bl flat,.int c]=some (.bl ok,[sD t' cs n,.bl flat,.int c]):=fun ok t' h=>by
  unfold vT gE
  refine(if_pos rfl).trans ?_
  show(vO zu0 sV [some (sD t cs n),some (.bl flat),some (.int c)]).bind _=_
  rw [h];rfl
 delta zu1
 by_cases hk:(col t:Int)<=c
 ·rw [Zh (by omega)] at past
  exact⟨true,t++Txt.mul " " (c-(col t:Int)),out _ _ ((aO (bD past)).trans ((aO (bl t (by omega) hk)).trans rfl)),fun _=>⟨_,if_pos hk,rfl⟩,(nomatch ·),by rw [dF,jW];omega⟩
 ·rw [Zo (by omega)] at past
  cases flat with
  |true=>exact⟨false,t,out _ _ (eA ((bO past).trans (eA (bO rfl)))),(nomatch ·),fun _=>⟨(if_neg hk).trans rfl,rfl⟩,by omega⟩
  | false=>
   have l0:=zd9 (t:=t) (c:=0) (by omega) (by omega)
   have c0:col (t++nlw 0)=0:=by
    unfold nlw
    rw [zm2 (zm1 0),jW];rfl
   have q:=bl (t++nlw 0) (by omega) (by rw [c0];exact hc.1)
   have e:t++nlw c=(t++nlw 0)++Txt.mul " " (c-((0:Nat):Int)):=by
    refine pP ?_
    unfold nlw
    simp only [bX,uH]
    simp
   rw [c0,<-e] at q
   have ln:cN (fIO [.io 0,.im (fC (.int 0))] sV) [some (sD t cs n),some (.bl false),some (.int c)]=some (.nx,[some (sD (t++nlw 0) cs n),some (.bl false),some (.int c)]):=lQ (qX (nW (j:=0) rfl (dO (f:=fC (.int 0)) rfl rfl gH)) (yr4 (Yr _) (by decide) (by omega)) rfl)
   exact⟨true,t++nlw c,out _ _ ((aO ((bO past).trans ((aO (bD rfl)).trans ln))).trans ((aO q).trans rfl)),fun _=>⟨nlw c,(if_neg hk).trans rfl,rfl⟩,(nomatch ·),zd9 hc.1 (by omega)⟩
theorem xj8{t:Str}{cs:List Int}{n:Nat}{flat:Bool}{m:Int}{l:Leaf}(hl:hJ l)(h0:0<=m)(h1:m<=200)(ht:t.length<=900000):zu1 (rS [bP l,.bl flat,.int m,sD t cs n]) (fun t'=>[bP l,.bl flat,.int m,sD t' cs n]) flat m l t:=by
 have hs:sizeLine=16777216:=Y2
 have out:∀(ok:Bool) (t':Str),nJ vT sV [some (bP l),some (.bl flat),some (.int m),some (sD t cs n)]=some (.ret (.bl ok),[some (bP l),some (.bl flat),some (.int m),some (sD t' cs n)])->rS [bP l,.bl flat,.int m,sD t cs n]=some (.bl ok,[bP l,.bl flat,.int m,sD t' cs n]):=fun ok t' h=>by
  unfold rS gE
  refine(if_pos rfl).trans ?_
  show(nJ vT sV [some (bP l),some (.bl flat),some (.int m),some (sD t cs n)]).bind _=_
  rw [h];rfl
 have add:∀x:Str,x.length<=1000->cJ (.str t) (.str x)=some (.str (t++x)):=fun x hx=>by rw [cJ,if_pos];omega
 have wrote:∀(d0:D) (x:Str),x.length<=1000->f2 dIx (aA 0) (fC (.int 1)) [some d0,some (.bl flat),some (.int m),some (sD t cs n)]=some (.str x)->dE 3 bI (fC (.int 0)) (f2 cJ (f2 dIx (aA 3) (fC (.int 0))) (f2 dIx (aA 0) (fC (.int 1)))) [some d0,some (.bl flat),some (.int m),some (sD t cs n)]=some (.nx,[some d0,some (.bl flat),some (.int m),some (sD (t++x) cs n)]):=fun d0 x hx h=>
  xj7 (aR (aR rfl rfl (kZ _ _)) h (add x hx)) rfl
 have line:∀d0:D,cN (fIO [.io 3,.im (aA 2)] sV) [some d0,some (.bl flat),some (.int m),some (sD t cs n)]=some (.nx,[some d0,some (.bl flat),some (.int m),some (sD (t++nlw m) cs n)]):=fun d0=>lQ (qX (nW (j:=3) rfl (dO (f:=aA 2) rfl rfl gH)) (yr4 h0 h1 (by omega)) rfl)
 cases l with
 |word x=>
  have hx:x.length<=12:=hl.2.1
  delta zu1
  exact⟨true,t++x,out _ _ ((aO (bD (fP (i:=0) (k:="word") rfl (by decide)))).trans ((aO ((bO (wp4 (fP (i:=0) (k:="word") rfl (by decide)))).trans (wrote (bP (.word x)) x (by omega) (aR rfl rfl (iF _ _ _))))).trans rfl)),fun _=>⟨x,rfl,rfl⟩,(nomatch ·),by rw [dF];omega⟩
 | gap x=>
  have hx:x.length<=1:=by
   rcases(hl:x=""\/x=" ") with rfl|rfl
   ·show(0:Nat)<=1;decide
   ·show(1:Nat)<=1;decide
  have e0:fIf (aU (kdT 0 "stop")) (bS (fIO [.io 3,.im (aA 1),.im (f2 dIx (aA 0) (fC (.int 1)))] vT)) bN [some (bP (.gap x)),some (.bl flat),some (.int m),some (sD t cs n)]=some (.nx,[some (bP (.gap x)),some (.bl flat),some (.int m),some (sD t cs n)]):=bD (fP (k:="gap") rfl (by decide))
  have e1:kdT 0 "word" [some (bP (.gap x)),some (.bl flat),some (.int m),some (sD t cs n)]=some false:=fP (k:="gap") rfl (by decide)
  have e2:kdT 0 "gap" [some (bP (.gap x)),some (.bl flat),some (.int m),some (sD t cs n)]=some true:=fP (k:="gap") rfl (by decide)
  delta zu1
  cases flat with
  |true=>exact⟨true,t++x,out _ _ ((aO e0).trans ((aO ((bO (zd2 e1 (lP e2 rfl))).trans (wrote _ x (by omega) (aR rfl rfl (iF _ _ _))))).trans rfl)),fun _=>⟨x,rfl,rfl⟩,(nomatch ·),by rw [dF];omega⟩
  |false=>exact⟨true,t++nlw m,out _ _ ((aO e0).trans ((aO ((fU (dR (zd2 e1 (lP e2 rfl)))).trans ((fU (dR rfl)).trans (line _)))).trans rfl)),fun _=>⟨_,rfl,rfl⟩,(nomatch ·),zd9 h0 h1⟩
 |fin=>
  have e0:fIf (aU (kdT 0 "stop")) (bS (fIO [.io 3,.im (aA 1),.im (f2 dIx (aA 0) (fC (.int 1)))] vT)) bN [some (bP .fin),some (.bl flat),some (.int m),some (sD t cs n)]=some (.nx,[some (bP .fin),some (.bl flat),some (.int m),some (sD t cs n)]):=bD (fP (k:="end") rfl (by decide))
  have e1:kdT 0 "word" [some (bP .fin),some (.bl flat),some (.int m),some (sD t cs n)]=some false:=fP (k:="end") rfl (by decide)
  have e2:kdT 0 "gap" [some (bP .fin),some (.bl flat),some (.int m),some (sD t cs n)]=some false:=fP (k:="end") rfl (by decide)
  delta zu1
  cases flat with
  |true=>exact⟨false,t,out _ _ ((aO e0).trans (eA ((fU (dR (zd2 e1 (mX e2)))).trans ((bO rfl).trans rfl)))),(nomatch ·),fun _=>⟨rfl,rfl⟩,by omega⟩
  |false=>exact⟨true,t++nlw m,out _ _ ((aO e0).trans ((aO ((fU (dR (zd2 e1 (mX e2)))).trans ((fU (dR rfl)).trans (line _)))).trans rfl)),fun _=>⟨_,rfl,rfl⟩,(nomatch ·),zd9 h0 h1⟩
 |stop c=>
  obtain⟨ok,t',q,e⟩:=xr9 (t:=t) (cs:=cs) (n:=n) (flat:=flat) (m:=m) (c:=c) hl ht
  refine⟨ok,t',out _ _ (eA ((bO (fP (i:=0) (k:="stop") rfl (by decide))).trans ?_)),e⟩
  have e1:f2 dIx (aA 0) (fC (.int 1)) [some (bP (.stop c)),some (.bl flat),some (.int m),some (sD t cs n)]=some (.int c):=aR rfl rfl (iF _ _ _)
  exact xr8 (qX (nW (j:=3) rfl (dO (f:=aA 1) rfl rfl (dO e1 rfl gH))) q rfl)
abbrev nxS(GS:tz7)(f1 f2 f3:tz2):tz1:=aW 7 (fIO [.im (aA 0),.im f1,.im f2,.im f3,.io 4,.im (aA 5)] GS)
abbrev grS(GN GS:tz7):tz1:=aV (aW 8 (aI (aY (aA 2))))
 (aV (fIf (aU (eK (fA (fT (aA 2))) (fB (f2 dGt (aA 5) (fC (.int 0))))))
  (aW 8 (fE2 dEq (fIO [.im (aA 0),.io 4,.im (aA 5),.im (fC (.int 2))] GN) (fC (.int 0))))
  (fIf (aU (fA (fT (aA 2)))) (cN (dA 4 (fM 4 bI (fC (.int 1))) (aB (fC (.int 1)) aE) dD)) bN))
 (nxS GS (f2 dIx (aA 6) (fC (.int 1))) (aA 8) (aA 3)))
abbrev eiS(GN GS:tz7):tz1:=aV (aW 9 (fIO [.im (aA 0),.io 4,.im (f2 cJ (aA 5) (f2 iL (fC (.int 9)) (aH nH (aB (f2 dEq (aA 5) (fC (.int 0))) aE)))),.im (aH cW (aB (f2 dIx (aA 6) (fC (.int 1))) aE))] GN))
 (nxS GS (f2 dIx (f2 dIx (aA 6) (fC (.int 1))) (aA 9)) (aA 2) (aA 3))
abbrev haS(GS:tz7):tz1:=nxS GS (f2 dIx (aA 6) (fC (.int 2))) (aA 2) (f2 cJ (aA 3) (f2 dIx (aA 6) (fC (.int 1))))
abbrev wv3:tz1:=fIf (aU (fA (fT (aA 7)))) (bS (aI (fC (.bl false)))) bN
def qO(GN GS:tz7):tz1:=aV (aW 7 (aI (fC (.bl true))))
 (aV (fIf (aU (kdT 6 "group")) (grS GN GS) (fIf (aU (kdT 6 "hang")) (haS GS) (fIf (aU (kdT 6 "either")) (eiS GN GS) (aW 7 (fIO [.im (aA 6),.im (aA 2),.im (aA 3),.io 4] rS))))) wv3)
section
variable{GM GC:tz6}{S:D}
def Fit(n c l w:Nat):Prop:=n+w<=900/\c+w<=900/\l+201*w<=900000
def qB(n n' l l':Nat)(ds:List Int)(w:Nat):Prop:=(n'<=n+w/\l'<=l+201*w/\ds.length<=w)/\∀d∈ds,0<=d/\d<4
theorem zn1{n c l w w':Nat}(h:Fit n c l w)(hw:w'<=w):Fit n c l w':=by unfold Fit at*;omega
theorem ze0{n n' l l' w w':Nat}{ds:List Int}(h:qB n n' l l' ds w)(hw:w<=w'):qB n n' l l' ds w':=⟨by have:=h.1;omega,h.2⟩
theorem wc5{n l w:Nat}{cs:List Int}(h:Fit n cs.length l (w+2))(d:Int):Fit n (cs++[d]).length l w:=by
 rw [Z5]
 unfold Fit at*
 show _/\_+1+_<=_/\_
 omega
theorem yi3{n l w:Nat}{cs:List Int}(h:Fit n cs.length l (w+2))(d:Int):Fit (n+1) (cs++[d]).length l w:=by
 rw [Z5]
 unfold Fit at*
 show _/\_+1+_<=_/\_
 omega
theorem zn2{n c l w:Nat}(h:Fit n c l w):n<=900/\c<=900:=by unfold Fit at h;omega
theorem xs0{n n' l l' w:Nat}{ds:List Int}(g:qB n n' l l' ds w)(d:Int)(hd:0<=d/\d<4):qB n n' l l' (d::ds) (w+2):=⟨by have:=g.1;rw [Z6];omega,Wd.mpr ⟨hd,g.2⟩⟩
theorem zy8{n n' l l' w:Nat}{ds:List Int}(g:qB (n+1) n' l l' ds w)(d:Int)(hd:0<=d/\d<4):qB n n' l l' (d::ds) (w+2):=⟨by have:=g.1;rw [Z6];omega,Wd.mpr ⟨hd,g.2⟩⟩
theorem xs1{n n1 l l1 a b:Nat}{cs ds:List Int}(h:Fit n cs.length l (a+b))(g:qB n n1 l l1 ds a):Fit n1 (cs++ds).length l1 b:=by
 have:=g.1
 rw [Z5]
 unfold Fit at*
 omega
theorem yx5{n n1 n2 l l1 l2 a b:Nat}{ds es:List Int}(g:qB n n1 l l1 ds a)(h:qB n1 n2 l1 l2 es b):qB n n2 l l2 (ds++es) (a+b):=
 ⟨by have:=g.1;have:=h.1;rw [Z5];omega,fun d hd=>(Zk.mp hd).elim (g.2 d) (h.2 d)⟩
theorem yb4{m:Int}{x:Nat}(h:m+12*((x+1:Nat):Int)<=200):m+12*(x:Int)<=200:=by omega
theorem yi4{m:Int}{x y:Nat}(h:m+12*(y:Int)<=200)(hx:x<=y):m+12*(x:Int)<=200:=by omega
def zj1(S:D)(GS:tz7)(r:List Pc):Prop:=∀(flat:Bool) (m:Int) (t:Str) (cs:List Int) (n:Nat) (salt:Int),0<=m->m+12*depR r<=200->0<=salt->salt<=900->Fit n cs.length t.length (toksR r).length->
 ∃ok t' ds n',GS [S,.tup (pcsD r),.bl flat,.int m,sD t cs n,.int salt]=some (.bl ok,[S,.tup (pcsD r),.bl flat,.int m,sD t' (cs++ds) n',.int salt])/\(ok=true->∀x,setR (!flat) m r (ds++x) t=some (x,t'))/\(ok=false->∀x,setR (!flat) m r (ds++x) t=none)/\(salt=0->flat=false->ok=true)/\qB n n' t.length t'.length ds (toksR r).length
def zj2(S:D)(GN GS:tz7)(p:Pc)(R:Option D)(flat:Bool)(m:Int)(t:Str)(cs:List Int)(n:Nat)(salt:Int)(x7 x8 x9:Option D):Prop:=∃ok t' ds n' y7 y8 y9,qO GN GS [some S,R,some (.bl flat),some (.int m),some (sD t cs n),some (.int salt),some (pcD p),x7,x8,x9]=some (if ok=true then .nx else .ret (.bl false),[some S,R,some (.bl flat),some (.int m),some (sD t' (cs++ds) n'),some (.int salt),some (pcD p),y7,y8,y9])/\
  (ok=true->∀x,dM (!flat) m p (ds++x) t=some (x,t'))/\(ok=false->∀x,dM (!flat) m p (ds++x) t=none)/\(salt=0->flat=false->ok=true)/\qB n n' t.length t'.length ds (cR p).length
def yl1(S:D)(GN GS:tz7)(p:Pc):Prop:=∀(R:Option D) (flat:Bool) (m:Int) (t:Str) (cs:List Int) (n:Nat) (salt:Int) (x7 x8 x9:Option D),0<=m->m+12*eD p<=200->0<=salt->salt<=900->Fit n cs.length t.length (cR p).length->zj2 S GN GS p R flat m t cs n salt x7 x8 x9
def zf2(S:D)(GN:tz7):Prop:=∀(t:Str) (cs:List Int) (n many:Nat) (salt:Int),n<=900->0<=salt->salt<1000->0<many->cs.length<=900->∃d:Int,GN [S,sD t cs n,.int salt,.int many]=some (.int d,[S,sD t (cs++[d]) (n+1),.int salt,.int many])/\0<=d/\d<many
theorem xs2(cs ds:List Int)(d:Int):cs++[d]++ds=cs++(d::ds):=by simp
theorem tM{GN GS:tz7}{k:String}{ds:List D}{S m s0 s1 salt:D}{R x7 x8 x9 y8 y9 fl:Option D}{ok:Bool}{F:tz1}
  (hp:∀p:PSt,p[6]? =some (some (.tup (.str k::ds)))->fIf (aU (kdT 6 "group")) (grS GN GS) (fIf (aU (kdT 6 "hang")) (haS GS) (fIf (aU (kdT 6 "either")) (eiS GN GS) (aW 7 (fIO [.im (aA 6),.im (aA 2),.im (aA 3),.io 4] rS)))) p=F p)
  (h:F [some S,R,fl,some m,some s0,some salt,some (.tup (.str k::ds)),some (.bl true),x8,x9]=some (.nx,[some S,R,fl,some m,some s1,some salt,some (.tup (.str k::ds)),some (.bl ok),y8,y9])):
  qO GN GS [some S,R,fl,some m,some s0,some salt,some (.tup (.str k::ds)),x7,x8,x9]=some (if ok=true then .nx else .ret (.bl false),[some S,R,fl,some m,some s1,some salt,some (.tup (.str k::ds)),some (.bl ok),y8,y9]):=by
 refine(aO (bH rfl)).trans ((aO ((hp _ rfl).trans h)).trans ?_)
 cases ok<;>rfl
theorem uK{GS:tz7}{r:List Pc}{b flat ok:Bool}{m m' salt:Int}{s0 s1 d6:D}{R x7 x8 x9:Option D}{f1 f2 f3:tz2}(hS:S.imm=true)(e1:f1 [some S,R,some (.bl flat),some (.int m),some s0,some (.int salt),some d6,x7,x8,x9]=some (.tup (pcsD r)))(e2:f2 [some S,R,some (.bl flat),some (.int m),some s0,some (.int salt),some d6,x7,x8,x9]=some (.bl b))(e3:f3 [some S,R,some (.bl flat),some (.int m),some s0,some (.int salt),some d6,x7,x8,x9]=some (.int m'))
  (q:GS [S,.tup (pcsD r),.bl b,.int m',s0,.int salt]=some (.bl ok,[S,.tup (pcsD r),.bl b,.int m',s1,.int salt])):
  nxS GS f1 f2 f3 [some S,R,some (.bl flat),some (.int m),some s0,some (.int salt),some d6,x7,x8,x9]=some (.nx,[some S,R,some (.bl flat),some (.int m),some s1,some (.int salt),some d6,some (.bl ok),x8,x9]):=
 yi2 (qX (dO (f:=aA 0) rfl hS (dO e1 (pcs_imm r) (dO e2 rfl (dO e3 rfl (nW (j:=4) rfl (dO (f:=aA 5) rfl rfl gH)))))) q rfl)
theorem bit{d:Int}(h0:0<=d)(h1:d<((2:Nat):Int)):d=0\/d=1:=by omega
theorem xj9{GN GS:tz7}{r:List Pc}(hS:S.imm=true)(hN:zf2 S GN)(hr:zj1 S GS r):yl1 S GN GS (.group r):=by
 intro R flat m t cs n salt x7 x8 x9 h0 h1 hs0 hs1 hft
 have hd:eD (.group r)=depR r+1:=by rw [eD]
 have htk:(cR (.group r)).length=(toksR r).length+2:=by simp [cR]
 have pi:=pcs_imm r
 rw [hd] at h1
 rw [htk] at hft
 have set_eq:∀cs' t0,dM true m (.group r) cs' t0=(match cs' with|[]=>none|c::cs=>if c=0 then setR false m r cs t0 else if c=1 then setR true m r cs t0 else none):=fun cs' t0=>by rw [dM.eq_def];cases cs'<;>simp
 cases flat with
 |true=>
  obtain⟨ok,t',ds,n',q,e1,e2,e3,e4⟩:=hr true m t cs n salt h0 (yb4 h1) hs0 hs1 (zn1 hft (ZD _ 2))
  have se:∀cs' t0,dM (!true) m (.group r) cs' t0=setR (!true) m r cs' t0:=fun cs' t0=>by rw [dM.eq_def];simp
  delta zj2
  rw [htk]
  refine⟨ok,t',ds,n',some (.bl ok),some (.bl true),x9,?_,fun h x=>by rw [se];exact e1 h x,fun h x=>by rw [se];exact e2 h x,fun _ h=>(by cases h),ze0 e4 (ZD _ 2)⟩
  refine tM (k:="group") (ds:=[.tup (pcsD r)]) (fun p hp=>bO (fP hp (by decide))) ?_
  exact(aO (bH (bW rfl rfl))).trans ((aO ((fU (dR (mX rfl))).trans (bD rfl))).trans (uK hS (aR rfl rfl (iF _ _ _)) rfl rfl q))
 | false=>
  by_cases hz:salt=0
  ·subst hz
   obtain⟨ok,t',ds,n',q,e1,e2,e3,e4⟩:=hr false m t (cs++[1]) n 0 h0 (yb4 h1) hs0 hs1 (wc5 hft 1)
   have hok:=e3 rfl rfl
   subst hok
   delta zj2
   rw [htk]
   refine⟨true,t',1::ds,n',some (.bl true),some (.bl false),x9,?_,fun _ x=>by rw [show(!false)=true from rfl,set_eq];simpa using e1 rfl x,(nomatch ·),fun _ _=>rfl,xs0 e4 1 (by decide)⟩
   rw [xs2] at q
   have hl:(aX cs).length<sizeLine:=by rw [qZ];exact sz1 (Zv (zn2 hft).2 (by decide))
   have ei:aX (cs++[1])=aX cs++[.int 1]:=by rw [za0];rfl
   have ap:cN (dA 4 (fM 4 bI (fC (.int 1))) (aB (fC (.int 1)) aE) dD) [some S,R,some (.bl false),some (.int m),some (sD t cs n),some (.int 0),some (pcD (.group r)),some (.bl true),some (.bl false),x9]=some (.nx,[some S,R,some (.bl false),some (.int m),some (sD t (cs++[1]) n),some (.int 0),some (pcD (.group r)),some (.bl true),some (.bl false),x9]):=by
    unfold sD
    rw [ei]
    simp [cN,dA,fM,bI,fC,jY,yw7,aB,aE,fL,dD,hl]
   refine tM (ok:=true) (k:="group") (ds:=[.tup (pcsD r)]) (fun p hp=>bO (fP hp (by decide))) ?_
   exact(aO (bH (bW rfl rfl))).trans ((aO ((fU (dR (lP rfl rfl))).trans ((bO rfl).trans ap))).trans (uK hS (aR rfl rfl (iF _ _ _)) rfl rfl q))
  ·have hp:0<salt:=by omega
   obtain⟨d,qd,d0,d1⟩:=hN t cs n 2 salt (zn2 hft).1 hs0 (Int.lt_of_le_of_lt hs1 (by decide)) (by decide) (zn2 hft).2
   obtain⟨ok,t',ds,n',q,e1,e2,e3,e4⟩:=hr (decide (d=0)) m t (cs++[d]) (n+1) salt h0 (yb4 h1) hs0 hs1 (yi3 hft d)
   have se:∀x,dM (!false) m (.group r) (d::ds++x) t=setR (!decide (d=0)) m r (ds++x) t:=fun x=>by
    rw [show(!false)=true from rfl,set_eq]
    rcases(bit d0 d1) with rfl|rfl<;>simp
   delta zj2
   rw [htk]
   refine⟨ok,t',d::ds,n',some (.bl ok),some (.bl (decide (d=0))),x9,?_,fun h x=>by rw [se];exact e1 h x,fun h x=>by rw [se];exact e2 h x,fun h=>absurd h hz,zy8 e4 d ⟨d0,Int.lt_trans d1 (by decide)⟩⟩
   rw [xs2] at q
   have qd':GN [S,sD t cs n,.int salt,.int 2]=some (.int d,[S,sD t (cs++[d]) (n+1),.int salt,.int 2]):=qd
   have dr:aW 8 (fE2 dEq (fIO [.im (aA 0),.io 4,.im (aA 5),.im (fC (.int 2))] GN) (fC (.int 0))) [some S,R,some (.bl false),some (.int m),some (sD t cs n),some (.int salt),some (pcD (.group r)),some (.bl true),some (.bl false),x9]=some (.nx,[some S,R,some (.bl false),some (.int m),some (sD t (cs++[d]) (n+1)),some (.int salt),some (pcD (.group r)),some (.bl true),some (.bl (decide (d=0))),x9]):=by
    unfold aW fE2
    rw [qX (dO (f:=aA 0) rfl hS (nW (j:=4) rfl (dO (f:=aA 5) rfl rfl (dO (f:=fC (.int 2)) rfl rfl gH)))) qd' rfl]
    rfl
   have gt:eK (fA (fT (aA 2))) (fB (f2 dGt (aA 5) (fC (.int 0)))) [some S,R,some (.bl false),some (.int m),some (sD t cs n),some (.int salt),some (pcD (.group r)),some (.bl true),some (.bl false),x9]=some true:=lP rfl (eP (aR rfl rfl (show some (D.bl (decide (0<salt)))=_ by rw [Zo hp])))
   refine tM (k:="group") (ds:=[.tup (pcsD r)]) (fun p hp=>bO (fP hp (by decide))) ?_
   exact(aO (bH (bW rfl rfl))).trans ((aO ((bO gt).trans dr)).trans (uK hS (aR rfl rfl (iF _ _ _)) rfl rfl q))
theorem wp8{m k:Int}{x:Nat}(h:m+12*((x+1:Nat):Int)<=200)(hk:k<=12):m+k+12*(x:Int)<=200:=by omega
theorem xs3{GN GS:tz7}{k:Int}{r:List Pc}(hS:S.imm=true)(hk:0<=k/\k<=12)(hr:zj1 S GS r):yl1 S GN GS (.hang k r):=by
 intro R flat m t cs n salt x7 x8 x9 h0 h1 hs0 hs1 hft
 have hd:eD (.hang k r)=depR r+1:=by rw [eD]
 have htk:(cR (.hang k r)).length=(toksR r).length+2:=by simp [cR]
 have pi:=pcs_imm r
 rw [hd] at h1
 rw [htk] at hft
 obtain⟨ok,t',ds,n',q,e1,e2,e3,e4⟩:=hr flat (m+k) t cs n salt (Int.add_nonneg h0 hk.1) (wp8 h1 hk.2) hs0 hs1 (zn1 hft (ZD _ 2))
 have se:∀cs' t0,dM (!flat) m (.hang k r) cs' t0=setR (!flat) (m+k) r cs' t0:=fun cs' t0=>by rw [dM]
 delta zj2
 rw [htk]
 refine⟨ok,t',ds,n',some (.bl ok),x8,x9,?_,fun h x=>by rw [se];exact e1 h x,fun h x=>by rw [se];exact e2 h x,e3,ze0 e4 (ZD _ 2)⟩
 refine tM (k:="hang") (ds:=[.int k,.tup (pcsD r)]) (fun p hp=>(fU (dR (fP hp (by decide)))).trans (bO (fP hp (by decide)))) ?_
 exact uK hS (aR rfl rfl (yg7 _ _ _ _)) rfl (aR rfl (aR rfl rfl (iF _ _ _)) rfl) q
theorem yi5:∀{rs:List (List Pc)} {i:Nat} {r:List Pc},rs[i]? =some r->(rowsD rs)[i]? =some (.tup (pcsD r))
 |[],i,_,h=>by simp at h
 |q::rs,0,_,h=>by simp at h;subst h;rfl
 |q::rs,i+1,_,h=>by show(rowsD rs)[i]? =_;exact yi5 (by simpa using h)
theorem yx6{GN GS:tz7}{rs:List (List Pc)}(hS:S.imm=true)(hN:zf2 S GN)(hl:0<rs.length/\rs.length<=4)(hr:∀r∈rs,zj1 S GS r):yl1 S GN GS (.either rs):=by
 intro R flat m t cs n salt x7 x8 x9 h0 h1 hs0 hs1 hft
 have hd:eD (.either rs)=depRs rs+1:=by rw [eD]
 have htk:(cR (.either rs)).length=(toksRows rs).length+2:=by simp [cR]
 rw [hd] at h1
 rw [htk] at hft
 obtain⟨s',hs',hs2,hs3⟩:∃s':Int,salt+9*(if decide (salt=0)=true then 1 else 0)=s'/\0<=s'/\s'<1000:=by
  refine⟨_,rfl,?_,?_⟩<;>by_cases h:salt=0<;>simp [h]<;>omega
 obtain⟨d,qd,d0,d1⟩:=hN t cs n rs.length s' (zn2 hft).1 hs2 hs3 hl.1 (zn2 hft).2
 obtain⟨r,hg⟩:∃r,rs[d.toNat]? =some r:=⟨_,Zn (by omega)⟩
 have hdr:=rA hg
 have htr:=vY (ZM hg)
 have pi:=pcs_imm r
 obtain⟨ok,t',ds,n',q,e1,e2,e3,e4⟩:=hr r (ZM hg) flat m t (cs++[d]) (n+1) salt h0 (yi4 (yb4 h1) hdr) hs0 hs1 (zn1 (yi3 hft d) htr)
 have se:∀x,dM (!flat) m (.either rs) (d::ds++x) t=setR (!flat) m r (ds++x) t:=fun x=>by
  rw [dM.eq_def]
  simp only [ZP]
  rw [if_pos d0,vB hg]
 delta zj2
 rw [htk]
 refine⟨ok,t',d::ds,n',some (.bl ok),x8,some (.int d),?_,fun h x=>by rw [se];exact e1 h x,fun h x=>by rw [se];exact e2 h x,e3,zy8 (ze0 e4 htr) d ⟨d0,Int.lt_of_lt_of_le d1 (W5.mpr hl.2)⟩⟩
 rw [xs2] at q
 have qx:atI (rowsD rs) d=some (.tup (pcsD r)):=by
  have:=kU (yi5 hg)
  rwa [Wi d0] at this
 have hrl:(rowsD rs).length=rs.length:=kB rs
 have hmul:oO 9 (if decide (salt=0)=true then 1 else 0)=true:=by by_cases h:salt=0<;>simp [h]<;>decide
 have hmul':iL (.int 9) (.int (if decide (salt=0)=true then 1 else 0))=some (.int (9*(if decide (salt=0)=true then 1 else 0))):=by rw [iL,if_pos hmul]
 have hm2:f2 cJ (aA 5) (f2 iL (fC (.int 9)) (aH nH (aB (f2 dEq (aA 5) (fC (.int 0))) aE))) [some S,R,some (.bl flat),some (.int m),some (sD t cs n),some (.int salt),some (.tup [.str "either",.tup (rowsD rs)]),some (.bl true),x8,x9]=some (.int s'):=by
  rw [<-hs']
  refine aR rfl (aR rfl (d:= .int (9*(if decide (salt=0)=true then 1 else 0))) ?_ hmul') rfl
  exact aS (aD (aR rfl rfl rfl) rfl) rfl
 have ln:aH cW (aB (f2 dIx (aA 6) (fC (.int 1))) aE) [some S,R,some (.bl flat),some (.int m),some (sD t cs n),some (.int salt),some (.tup [.str "either",.tup (rowsD rs)]),some (.bl true),x8,x9]=some (.int rs.length):=by
  rw [<-hrl]
  exact aS (aD (aR rfl rfl (iF _ _ _)) rfl) rfl
 have dr:aW 9 (fIO [.im (aA 0),.io 4,.im (f2 cJ (aA 5) (f2 iL (fC (.int 9)) (aH nH (aB (f2 dEq (aA 5) (fC (.int 0))) aE)))),.im (aH cW (aB (f2 dIx (aA 6) (fC (.int 1))) aE))] GN) [some S,R,some (.bl flat),some (.int m),some (sD t cs n),some (.int salt),some (.tup [.str "either",.tup (rowsD rs)]),some (.bl true),x8,x9]=some (.nx,[some S,R,some (.bl flat),some (.int m),some (sD t (cs++[d]) (n+1)),some (.int salt),some (.tup [.str "either",.tup (rowsD rs)]),some (.bl true),x8,some (.int d)]):=by
  unfold aW
  rw [qX (dO (f:=aA 0) rfl hS (nW (j:=4) rfl (dO hm2 rfl (dO ln rfl gH)))) qd rfl]
  rfl
 refine tM (k:="either") (ds:=[.tup (rowsD rs)]) (fun p hp=>(fU (dR (fP hp (by decide)))).trans ((fU (dR (fP hp (by decide)))).trans (bO (fP hp (by decide))))) ?_
 exact(aO dr).trans (uK hS (aR (aR rfl rfl (iF _ _ _)) rfl qx) rfl rfl q)
theorem xk0{GN GS:tz7}{l:Leaf}(hl:hJ l):yl1 S GN GS (.leaf l):=by
 intro R flat m t cs n salt x7 x8 x9 h0 h1 hs0 hs1 hft
 have hd:eD (.leaf l)=0:=by rw [eD]
 have htk:(cR (.leaf l)).length=1:=by simp [cR]
 rw [hd] at h1
 rw [htk] at hft
 obtain⟨ok,t',q,e1,e2,e3⟩:=xj8 (t:=t) (cs:=cs) (n:=n) (flat:=flat) hl h0 (by omega) (Zv (ZD _ _) hft.2.2)
 delta zj2
 rw [htk]
 refine⟨ok,t',[],n,some (.bl ok),x8,x9,?_,fun h x=> ?_,fun h x=> ?_,fun _ hf=> ?_,⟨⟨ZD _ _,e3,ZT _⟩,fun _ h=>absurd h (Zm)⟩⟩
 ·rw [Zq]
  obtain⟨k,ds,el,ek⟩:∃k ds,bP l= .tup (.str (k:String)::ds)/\(decide (k="group")=false/\decide (k="hang")=false/\decide (k="either")=false):=by
   cases l with
   |word x=>exact⟨"word",_,rfl,by decide⟩
   |gap x=>exact⟨"gap",_,rfl,by decide⟩
   |fin=>exact⟨"end",_,rfl,by decide⟩
   |stop c=>exact⟨"stop",_,rfl,by decide⟩
  have li:=zh6 l
  show qO GN GS [some S,R,some (.bl flat),some (.int m),some (sD t cs n),some (.int salt),some (bP l),x7,x8,x9]=some (_,[some S,R,some (.bl flat),some (.int m),some (sD t' cs n),some (.int salt),some (bP l),some (.bl ok),x8,x9])
  rw [el] at q li|-
  exact tM (fun p hp=>(fU (dR (fP hp ek.1))).trans ((fU (dR (fP hp ek.2.1))).trans (fU (dR (fP hp ek.2.2))))) (yi2 (qX (dO (f:=aA 6) rfl li (dO (f:=aA 2) rfl rfl (dO (f:=aA 3) rfl rfl (nW (j:=4) rfl gH)))) q rfl))
 ·obtain⟨w,hw,rfl⟩:=e1 h
  rw [dM,hw];rfl
 ·rw [dM,(e2 h).1];rfl
 ·cases ok with
  |true=>rfl
  |false=>have:=(e2 rfl).2;rw [hf] at this;cases this
theorem xk1{GN GS:tz7}{k:Nat}(hS:S.imm=true)(hN:zf2 S GN)(hG:∀r,depR r<k->okR r->zj1 S GS r){p:Pc}(hd:eD p<=k)(ho:okP p):yl1 S GN GS p:=by
 cases p with
 |leaf l=>exact xk0 ho
 |group r=>rw [eD] at hd;exact xj9 hS hN (hG r (by omega) ho)
 |hang n r=>rw [eD] at hd;exact xs3 hS ho.1 (hG r (by omega) ho.2)
 |either rs=>
  rw [eD] at hd
  have ho':(2<=rs.length/\rs.length<=4)/\okRs rs:=ho
  refine yx6 hS hN ⟨by omega,ho'.1.2⟩ fun r hr=> ?_
  obtain⟨i,hi⟩:=YE hr
  have:=rA hi
  exact hG r (by omega) (xR ho'.2 hi)
def yl2(S:D)(GN GS:tz7)(R:Option D)(flat:Bool)(m salt:Int)(r:List Pc)(t:Str)(cs:List Int)(n:Nat)(x6 x7 x8 x9:Option D):Prop:=∃ok t' ds n' y6 y7 y8 y9,cT 6 (qO GN GS) (pcsD r) [some S,R,some (.bl flat),some (.int m),some (sD t cs n),some (.int salt),x6,x7,x8,x9]=some (if ok=true then .nx else .ret (.bl false),[some S,R,some (.bl flat),some (.int m),some (sD t' (cs++ds) n'),some (.int salt),y6,y7,y8,y9])/\
   (ok=true->∀x,setR (!flat) m r (ds++x) t=some (x,t'))/\(ok=false->∀x,setR (!flat) m r (ds++x) t=none)/\(salt=0->flat=false->ok=true)/\qB n n' t.length t'.length ds (toksR r).length
theorem yi6{GN GS:tz7}{k:Nat}{R:Option D}{flat:Bool}{m salt:Int}(hS:S.imm=true)(hN:zf2 S GN)(hG:∀r,depR r<k->okR r->zj1 S GS r)(h0:0<=m)(hs0:0<=salt)(hs1:salt<=900):∀(r:List Pc) (t:Str) (cs:List Int) (n:Nat) (x6 x7 x8 x9:Option D),depR r<=k->okR r->
  m+12*depR r<=200->Fit n cs.length t.length (toksR r).length->yl2 S GN GS R flat m salt r t cs n x6 x7 x8 x9
 |[],t,cs,n,x6,x7,x8,x9,_,_,_,_=>show yl2 S GN GS R flat m salt [] t cs n x6 x7 x8 x9 by delta yl2;exact⟨true,t,[],n,x6,x7,x8,x9,by rw [Zq];rfl,fun _ x=>by rw [setR];rfl,(nomatch ·),fun _ _=>rfl,⟨⟨Zc _,Zc _,Zc _⟩,fun _ h=>absurd h (Zm)⟩⟩
 | p::r,t,cs,n,x6,x7,x8,x9,hd,ho,h1,hft=>by
  rw [okR] at ho
  rw [depR] at hd h1
  have htk:(toksR (p::r)).length=(cR p).length+(toksR r).length:=by rw [toksR,Z5]
  rw [htk] at hft
  obtain⟨ok,t1,d1,n1,y7,y8,y9,q,e1,e2,e3,e4⟩:=xk1 hS hN hG (p:=p) (Zv (X4 _ _) hd) ho.1 R flat m t cs n salt x7 x8 x9 h0 (yi4 h1 (X4 _ _)) hs0 hs1 (zn1 hft (ZD _ _))
  have st:∀(Y:Fl×PSt),qO GN GS [some S,R,some (.bl flat),some (.int m),some (sD t cs n),some (.int salt),some (pcD p),x7,x8,x9]=some Y->cT 6 (qO GN GS) (pcsD (p::r)) [some S,R,some (.bl flat),some (.int m),some (sD t cs n),some (.int salt),x6,x7,x8,x9]=(match Y with
    |(.nx,p)=>cT 6 (qO GN GS) (pcsD r) p
    |(.ct,p)=>cT 6 (qO GN GS) (pcsD r) p
    |(.bk,p)=>some (.nx,p)
    |(.ret d,p)=>some (.ret d,p)):=fun Y hY=>by
   show cT 6 _ (pcD p::pcsD r) _=_
   rw [cT]
   show((qO GN GS [some S,R,some (.bl flat),some (.int m),some (sD t cs n),some (.int salt),some (pcD p),x7,x8,x9]).bind _)=_
   rw [hY];rfl
  cases ok with
  |false=>
   delta yl2
   rw [htk]
   refine⟨false,t1,d1,n1,_,y7,y8,y9,st _ q,(nomatch ·),fun _ x=>by rw [setR,e2 rfl x];rfl,fun a b=>(by have:=e3 a b;cases this),ze0 e4 (ZD _ _)⟩
  |true=>
   obtain⟨ok,t2,d2,n2,z6,z7,z8,z9,q2,f1,f2,f3,f4⟩:=yi6 (R:=R) (flat:=flat) hS hN hG h0 hs0 hs1 r t1 (cs++d1) n1 (some (pcD p)) y7 y8 y9 (Zv (YW _ _) hd) ho.2 (yi4 h1 (YW _ _)) (xs1 hft e4)
   rw [Zt] at q2
   delta yl2
   rw [htk]
   refine⟨ok,t2,d1++d2,n2,z6,z7,z8,z9,(st _ q).trans q2,fun h x=> ?_,fun h x=> ?_,f3,yx5 e4 f4⟩
   ·rw [setR,Zt,e1 rfl];exact f1 h x
   ·rw [setR,Zt,e1 rfl];exact f2 h x
def sW(GN:tz7):Nat->tz7
 |0=>fun _=>none
 |n+1=>gE 6 4 (bC [false,false,false,false,true,false]) (yM GN (sW GN n) rS)
theorem yr5{GN:tz7}(hS:S.imm=true)(hN:zf2 S GN):∀(k:Nat) (r:List Pc),depR r<k->okR r->zj1 S (sW GN k) r
 |0,_,h,_=>absurd h (YF _)
 | k+1,r,hd,ho=>fun flat m t cs n salt h0 h1 hs0 hs1 hft=>by
  obtain⟨ok,t',ds,n',y6,y7,y8,y9,q,e⟩:=yi6 (GS:=sW GN k) (k:=k) (R:=some (.tup (pcsD r))) (flat:=flat) hS hN (fun s hs hk=>yr5 hS hN k s hs hk) h0 hs0 hs1 r t cs n none none none none (Ww hd) ho h1 hft
  refine⟨ok,t',ds,n',?_,e⟩
  show gE 6 4 _ (yM GN (sW GN k) rS) _=_
  have s1:fV 6 (cP (aA 1)) (qO GN (sW GN k)) [some S,some (.tup (pcsD r)),some (.bl flat),some (.int m),some (sD t cs n),some (.int salt),none,none,none,none]=_:=q
  have z:yM GN (sW GN k) rS ([S,.tup (pcsD r),.bl flat,.int m,sD t cs n,.int salt].map some++List.replicate 4 none)=some (.ret (.bl ok),[some S,some (.tup (pcsD r)),some (.bl flat),some (.int m),some (sD t' (cs++ds) n'),some (.int salt),y6,y7,y8,y9]):=by
   cases ok with
   |true=>exact(aO s1).trans rfl
   |false=>exact eA s1
  unfold gE
  refine(if_pos rfl).trans ?_
  rw [z];rfl
end
section
variable{S:D}{GN:tz7}
abbrev yl3(GS:tz7):tz6:=gP 3 1 (zo9 GS)
theorem xs4{GS:tz7}{r:List Pc}{salt:Int}(hS:S.imm=true)(hL:zj1 S GS r)(hd:depR r<=16)(hl:(toksR r).length<=800)(h0:0<=salt)(h1:salt<=900):
  ∃C t,yl3 GS [S,.tup (pcsD r),.int salt]=some (.tup [.str t,.tup (aX C)])/\setR true 0 r C ⟨#[]⟩=some ([],t)/\C.length<=(toksR r).length/\t.length<=900000/\∀c∈C,0<=c/\c<4:=by
 have pi:=pcs_imm r
 have run:∀s:Int,0<=s->s<=900->∃ok t' ds n',GS [S,.tup (pcsD r),.bl false,.int 0,sD ⟨#[]⟩ [] 0,.int s]=some (.bl ok,[S,.tup (pcsD r),.bl false,.int 0,sD t' ds n',.int s])/\(ok=true->setR true 0 r ds ⟨#[]⟩=some ([],t'))/\(s=0->ok=true)/\ds.length<=(toksR r).length/\t'.length<=900000/\∀c∈ds,0<=c/\c<4:=fun s s0 s1=>by
  obtain⟨ok,t',ds,n',q,e1,e2,e3,⟨_,e5,e6⟩,e7⟩:=hL false 0 ⟨#[]⟩ [] 0 s (Yr _) (by omega) s0 s1 ⟨by omega,by show 0+_<=_;omega,by show 0+_<=_;omega⟩
  exact⟨ok,t',ds,n',q,fun h=>by have:=e1 h [];rwa [Zq] at this,fun h=>e3 h rfl,e6,(by have e5':t'.length<=0+201*(toksR r).length:=e5;omega),e7⟩
 have st0:cV (aB (fC (.str "")) (aB (cV aE) (aB (fC (.int 0)) aE)))=fun _=>some (sD ⟨#[]⟩ [] 0):=by
  funext p
  refine fO (aD rfl (aD (d:= .lst true []) rfl (aD rfl rfl))) (by simp)|>.trans ?_
  rw [xq1];rfl
 have fin:∀(t':Str) (ds:List Int) (n':Nat),bS (aI (cK (aB (aY (f2 dIx (aA 3) (fC (.int 0)))) (aB (aH gY (aB (f2 dIx (aA 3) (fC (.int 1))) aE)) aE)))) [some S,some (.tup (pcsD r)),some (.int salt),some (sD t' ds n')]=some (.ret (.tup [.str t',.tup (aX ds)]),[some S,some (.tup (pcsD r)),some (.int salt),some (sD t' ds n')]):=fun t' ds n'=>by
  have hi:=gV ds
  refine cH ?_
  simp! [sD,hi]
 have call:∀(s:Int) (f5:tz2) (ok:Bool) (t':Str) (ds:List Int) (n':Nat),f5 [some S,some (.tup (pcsD r)),some (.int salt),some (sD ⟨#[]⟩ [] 0)]=some (.int s)->GS [S,.tup (pcsD r),.bl false,.int 0,sD ⟨#[]⟩ [] 0,.int s]=some (.bl ok,[S,.tup (pcsD r),.bl false,.int 0,sD t' ds n',.int s])->
   fIO [.im (aA 0),.im (aA 1),.im (fC (.bl false)),.im (fC (.int 0)),.io 3,.im f5] GS [some S,some (.tup (pcsD r)),some (.int salt),some (sD ⟨#[]⟩ [] 0)]=some (.bl ok,[some S,some (.tup (pcsD r)),some (.int salt),some (sD t' ds n')]):=fun s f5 ok t' ds n' h5 q=>by
  generalize sD ⟨#[]⟩ [] 0=s0 at h5 q|-
  generalize sD t' ds n'=s1 at q|-
  simp [fIO,cC,aY,aA,fC,hS,pi,D.imm,D.imms,h5,q,iV]
 obtain⟨ok,t',ds,n',q,e1,_,e6⟩:=run salt h0 h1
 have s0:∀x,aW 3 (aI (cV (aB (fC (.str "")) (aB (cV aE) (aB (fC (.int 0)) aE))))) [some S,some (.tup (pcsD r)),some (.int salt),x]=some (.nx,[some S,some (.tup (pcsD r)),some (.int salt),some (sD ⟨#[]⟩ [] 0)]):=fun x=>by rw [st0];rfl
 have c1:fTE (fIO [.im (aA 0),.im (aA 1),.im (fC (.bl false)),.im (fC (.int 0)),.io 3,.im (aA 2)] GS) [some S,some (.tup (pcsD r)),some (.int salt),some (sD ⟨#[]⟩ [] 0)]=some (ok,[some S,some (.tup (pcsD r)),some (.int salt),some (sD t' ds n')]):=by
  unfold fTE
  rw [call salt (aA 2) ok t' ds n' rfl q];rfl
 cases ok with
 |true=>exact⟨ds,t',gF rfl ((aO (s0 _)).trans (eA ((yb0 c1).trans (fin t' ds n')))),e1 rfl,e6⟩
 | false=>
  obtain⟨ok2,t2,d2,n2,q2,f1,f2,f6⟩:=run 0 (Yr _) (by decide)
  have hok:=f2 rfl
  subst hok
  have c2:cN (fIO [.im (aA 0),.im (aA 1),.im (fC (.bl false)),.im (fC (.int 0)),.io 3,.im (fC (.int 0))] GS) [some S,some (.tup (pcsD r)),some (.int salt),some (sD ⟨#[]⟩ [] 0)]=some (.nx,[some S,some (.tup (pcsD r)),some (.int salt),some (sD t2 d2 n2)]):=by
   unfold cN
   rw [call 0 (fC (.int 0)) true t2 d2 n2 rfl q2];rfl
  exact⟨d2,t2,gF rfl ((aO (s0 _)).trans ((aO ((fU c1).trans rfl)).trans ((aO (s0 _)).trans ((aO c2).trans (fin t2 d2 n2))))),f1 rfl,f6⟩
end
theorem oJ:ixN 4 3=some 3:=by decide
theorem oK:ixN 4 2=some 2:=by decide
theorem jB{α:Type}(a b c d:α):atI [a,b,c,d] 3=some d:=rfl
abbrev zp7:tz7:=gE 1 5 (bC [true]) rM
theorem ws5{N:List D}{a b c d:D}:rZ [1,2,3,4] (dA 0 bI aE oQ) [some (.lst true (N++[.lst true [a,b,c,d]])),none,none,none,none,none]=some (.nx,[some (.lst true N),some a,some b,some c,some d,none]):=by
 simp! [fKs,oQ,cP,lC,jP,gB,fSl,dE,eU,dP,rZ,yH,oR,dC,dS,eS,eT,mT,L2.fE,oJ,oK,jB]
theorem kd1{p:PSt}{k w:String}{b:Bool}(hp:p[1]? =some (some (.str k)))(h:decide (k=w)=b):fB (f2 dEq (aA 1) (fC (.str w))) p=some b:=by
 refine eP (aR (nV hp) rfl ?_)
 show some (D.bl (decide ((k:Str)=(w:Str))))=_
 rw [<-h]
 congr 2
 exact YB.mpr (by rw [gA])
theorem xs5{f g:Gm}{fs:List Gm}(hk:1<=f.kd/\f.kd<=3)(hf:f.kd≠3->f.full=[])(hfl:f.full.length<=3)(hg:g.parts.length<=900):zp7 [.lst true (cA (f::g::fs))]=some (.non,[.lst true (cA (lE g (gR f)::fs))]):=by
 obtain⟨kd,n,full,parts⟩:=f
 have hfl':full.length<=3:=hfl
 have hz:(pcsD g.parts).length<sizeLine:=by rw [zh8];exact sz1 (by omega)
 have s2:∀K x0,aW 3 (aI (f2 cJ (aA 3) (cV (aB (aH gY (aB (aA 4) aE)) aE)))) [x0,some K,some (.int n),some (.lst true (rowsD full)),some (.lst true (pcsD parts)),none]=some (.nx,[x0,some K,some (.int n),some (.lst true (rowsD (full++[parts]))),some (.lst true (pcsD parts)),none]):=fun K x0=>by
  refine bH (aR rfl (fO (aD (aS (aD rfl rfl) (if_pos (pcs_imm parts))) rfl) (Za rfl)) ?_)
  rw [zZ]
  refine xh3 (rows_imm full) (rows_imm [parts]) ?_
  rw [kB];show full.length+1<=1000;omega
 have s4:∀K x0 x4 (r0:List Pc) rs,aW 5 (aI (cK (aB (fC (.str "group")) (aB (aY (f2 dIx (aA 3) (fC (.int 0)))) aE)))) [x0,some K,some (.int n),some (.lst true (rowsD (r0::rs))),x4,none]=some (.nx,[x0,some K,some (.int n),some (.lst true (rowsD (r0::rs))),x4,some (pcD (.group r0))]):=fun K x0 x4 r0 rs=>
  bH (eZ (aD rfl (aD (bW (aR rfl rfl (kZ _ _)) (pcs_imm r0)) rfl)) (wR (.group r0)) (Za rfl))
 have s7:∀(pc:Pc) K x3 x4,cN (dA 0 (fM 0 (fM 0 bI (dP (fC (.int 1)))) (fC (.int 3))) (aB (aY (aA 5)) aE) dD) [some (.lst true (cA fs++[gmD g])),K,some (.int n),x3,x4,some (pcD pc)]=some (.nx,[some (.lst true (cA fs++[gmD (lE g pc)])),K,some (.int n),x3,x4,some (pcD pc)]):=fun pc K x3 x4=>by
  have hi:=wR pc
  have e:gmD (lE g pc)= .lst true [.str (kdS g.kd),.int g.n,.lst true (rowsD g.full),.lst true (pcsD g.parts++[pcD pc])]:=by unfold gmD lE;rw [zh7];rfl
  rw [e]
  unfold gmD
  generalize pcD pc=d at hi|-
  simp! [fKs,oQ,cP,lC,jP,gB,fSl,dE,eU,dP,rZ,yH,oR,dC,dS,eS,eT,mT,L2.fE,oJ,oK,jB,hi,hz]
 suffices h:∃q1 q2 q3 q4 q5,rM [some (.lst true (cA (⟨kd,n,full,parts⟩::g::fs))),none,none,none,none,none]=some (.nx,[some (.lst true (cA fs++[gmD (lE g (gR ⟨kd,n,full,parts⟩))])),q1,q2,q3,q4,q5]) from by
  obtain⟨q1,q2,q3,q4,q5,hq⟩:=h
  unfold zp7 gE
  refine(if_pos rfl).trans ?_
  show(rM [some (.lst true (cA (⟨kd,n,full,parts⟩::g::fs))),none,none,none,none,none]).bind _=_
  rw [hq];rfl
 have s1:rZ [1,2,3,4] (dA 0 bI aE oQ) [some (.lst true (cA (⟨kd,n,full,parts⟩::g::fs))),none,none,none,none,none]=_:=ws5
 have e:kd=1\/kd=2\/kd=3:=by have:1<=kd/\kd<=3:=hk;omega
 unfold rM
 rw [aO s1,aO (s2 _ _)]
 rcases e with rfl|rfl|rfl
 ·have e1:full=[]:=hf (by simp! [fKs,oQ,cP,lC,jP,gB,fSl,dE,eU,dP,rZ,yH,oR,dC,dS,eS,eT,mT,L2.fE,oJ,oK,jB])
  subst e1
  exact⟨_,_,_,_,_,(aO (bD (mX (kd1 (k:="group") rfl (by decide))))).trans ((aO (s4 _ _ _ parts [])).trans ((aO (bD (kd1 (k:="group") rfl (by decide)))).trans ((aO (bD (kd1 (k:="group") rfl (by decide)))).trans (s7 _ _ _ _))))⟩
 ·have e1:full=[]:=hf (by simp! [fKs,oQ,cP,lC,jP,gB,fSl,dE,eU,dP,rZ,yH,oR,dC,dS,eS,eT,mT,L2.fE,oJ,oK,jB])
  subst e1
  exact⟨_,_,_,_,_,(aO (bD (mX (kd1 (k:="hang") rfl (by decide))))).trans ((aO (s4 _ _ _ parts [])).trans ((aO ((bO (kd1 (k:="hang") rfl (by decide))).trans (bH (eZ (aD rfl (aD (bW rfl rfl) (aD (bW (d:= .tup (pcsD parts)) (aR rfl rfl (kZ _ _)) (pcs_imm parts)) rfl))) (wR (.hang n parts)) (Za rfl))))).trans ((aO (bD (kd1 (k:="hang") rfl (by decide)))).trans (s7 (.hang n parts) _ _ _))))⟩
 ·have fin:∀(r0:List Pc) (rs:List (List Pc)),qL ⟨3,n,full,parts⟩=r0::rs->∃q1 q2 q3 q4 q5,aV (aW 5 (aI (cK (aB (fC (.str "group")) (aB (aY (f2 dIx (aA 3) (fC (.int 0)))) aE))))) (aV (fIf (aU (fB (f2 dEq (aA 1) (fC (.str "hang"))))) (aW 5 (aI (cK (aB (fC (.str "hang")) (aB (aY (aA 2)) (aB (aY (f2 dIx (aA 3) (fC (.int 0)))) aE)))))) bN)
    (aV (fIf (aU (fB (f2 dEq (aA 1) (fC (.str "either"))))) (aW 5 (aI (cK (aB (fC (.str "either")) (aB (aH gY (aB (aA 3) aE)) aE))))) bN) (cN (dA 0 (fM 0 (fM 0 bI (dP (fC (.int 1)))) (fC (.int 3))) (aB (aY (aA 5)) aE) dD)))) [some (.lst true (cA fs++[gmD g])),some (.str "either"),some (.int n),some (.lst true (rowsD (r0::rs))),some (.lst true (pcsD parts)),none]=some (.nx,[some (.lst true (cA fs++[gmD (lE g (gR ⟨3,n,full,parts⟩))])),q1,q2,q3,q4,q5]):=fun r0 rs he=>by
   have hs:gR ⟨3,n,full,parts⟩= .either (r0::rs):=by rw [<-he];rfl
   rw [hs]
   exact⟨_,_,_,_,_,(aO (s4 _ _ _ r0 rs)).trans ((aO (bD (kd1 rfl (by decide)))).trans ((aO ((bO (kd1 rfl (by decide))).trans (bH (eZ (aD rfl (aD (aS (aD rfl rfl) (if_pos (rows_imm (r0::rs)))) rfl)) (wR (.either (r0::rs))) (Za rfl))))).trans (s7 (.either (r0::rs)) _ _ _)))⟩
  have lt:∀x0 x4,fB (f2 dLt (aH cW (aB (aA 3) aE)) (fC (.int 2))) [x0,some (.str "either"),some (.int n),some (.lst true (rowsD (full++[parts]))),x4,none]=some (decide ((((full++[parts]).length:Nat):Int)<2)):=fun x0 x4=>by
   refine eP (aR (aS (aD rfl rfl) rfl) rfl ?_)
   show some (D.bl (decide ((((rowsD (full++[parts])).length:Nat):Int)<2)))=_
   rw [kB]
  cases full with
  | nil=>
   have s3:∀x0 x4,fIf (aU (eK (fB (f2 dEq (aA 1) (fC (.str "either")))) (fB (f2 dLt (aH cW (aB (aA 3) aE)) (fC (.int 2)))))) (aW 3 (aI (f2 cJ (aA 3) (cV (aB (cK (aB (cK (aB (fC (.str "word")) (aB (fC (.str "or")) aE))) aE)) aE))))) bN [x0,some (.str "either"),some (.int n),some (.lst true (rowsD ([]++[parts]))),x4,none]=some (.nx,[x0,some (.str "either"),some (.int n),some (.lst true (rowsD [parts,vR])),x4,none]):=fun x0 x4=>
    (bO (lP (kd1 rfl (by decide)) (lt _ _))).trans (bH (aR rfl (fO (aD (eZ (aD (eZ (aD rfl (aD rfl rfl)) rfl (Za rfl)) rfl) rfl (Za rfl)) rfl) (Za rfl)) (xh3 (rows_imm [parts]) (rows_imm [vR]) (Za rfl))))
   show ∃q1 q2 q3 q4 q5,aV _ _ [some (.lst true (cA fs++[gmD g])),some (.str "either"),some (.int n),some (.lst true (rowsD ([]++[parts]))),some (.lst true (pcsD parts)),none]=_
   rw [aO (s3 _ _)]
   exact fin parts [vR] rfl
  |cons r rs=>
   have lt':=lt (some (.lst true (cA fs++[gmD g]))) (some (.lst true (pcsD parts)))
   rw [Zh (by simp;omega)] at lt'
   show ∃q1 q2 q3 q4 q5,aV _ _ [some (.lst true (cA fs++[gmD g])),some (.str "either"),some (.int n),some (.lst true (rowsD (r::rs++[parts]))),some (.lst true (pcsD parts)),none]=_
   rw [aO (bD (lP (kd1 rfl (by decide)) lt'))]
   exact fin r (rs++[parts]) rfl
def ifR(GM:tz6)(GS:tz7)(GL:tz6):tz1:=
 (fIf (aU (eK (fB (f2 dLt (aA 7) (fC (.int 4)))) (fB (f2 dLe (aH cW (aB (aA 4) aE)) (aA 3)))))
  (aV (aW 9 (aI (f2 dIx (cV (fKs [.str "group",.str "group",.str "hang",.str "either"])) (aA 7))))
 (cN (dA 4 bI (aB (cV (aB (aY (aA 9)) (aB (f2 dIx (cV (aB (fC (.int 1)) (aB (fC (.int 2)) (aB (fC (.int 4)) (aB (f2 dX (f2 gI (aA 6) (fC (.int 13))) (fC (.int 13))) aE))))) (f2 dX (f2 gI (aA 6) (fC (.int 169))) (fC (.int 4)))) (aB (cV aE) (aB (cV aE) aE))))) aE) dD)))
  (fIf (aU (eK (fB (f2 dEq (aA 7) (fC (.int 4)))) (fB (f2 dGt (aH cW (aB (aA 4) aE)) (fC (.int 1))))))
  (cN (fIO [.io 4] GS))
  (fIf (aU (eK (fB (f2 dLt (aA 7) (fC (.int 7)))) (eK (fB (f2 dEq (aA 8) (fC (.str "either")))) (fB (f2 dLt (aH cW (aB (f2 dIx (f2 dIx (aA 4) (dP (fC (.int 1)))) (fC (.int 2))) aE)) (fC (.int 3)))))))
  (aV (cN (dA 4 (fM 4 (fM 4 bI (dP (fC (.int 1)))) (fC (.int 2))) (aB (aH gY (aB (f2 dIx (f2 dIx (aA 4) (dP (fC (.int 1)))) (fC (.int 3))) aE)) aE) dD))
 (dE 4 (fM 4 bI (dP (fC (.int 1)))) (fC (.int 3)) (cV aE)))
  (cN (dA 4 (fM 4 (fM 4 bI (dP (fC (.int 1)))) (fC (.int 3))) (aB (aH GL (aB (aH GM (aB (aA 0) (aB (aA 5) (aB (fC (.int 32)) aE)))) aE)) aE) dD)))))
def yT(GM:tz6)(GS:tz7)(GL:tz6):tz1:=
   (aV (aW 6 (aI (aH GM (aB (aA 0) (aB (aA 5) (aB (fC (.int 31)) aE))))))
 (aV (aW 7 (aI (f2 dX (aA 6) (fC (.int 13)))))
 (aV (aW 8 (aI (aY (f2 dIx (f2 dIx (aA 4) (dP (fC (.int 1)))) (fC (.int 0))))))
 (ifR GM GS GL))))
section
variable{GM:tz6}{GS:tz7}{GL:tz6}{S:D}{x1 x2 x6 x7 x8 x9:Option D}{nest:Nat}{f:Gm}{fs:List Gm}{i m:Int}
theorem xk2(hm:GM [S,.int i,.int 31]=some (.int m)):yT GM GS GL [some S,x1,x2,some (.int nest),some (.lst true (cA (f::fs))),some (.int i),x6,x7,x8,x9]
  =ifR GM GS GL [some S,x1,x2,some (.int nest),some (.lst true (cA (f::fs))),some (.int i),some (.int m),some (.int (m % 13)),some (.str (kdS f.kd)),x9]:=by
 unfold yT
 refine(aO (bH (aS rfl hm))).trans ?_
 refine(aO (bH (d:= .int (m % 13)) (by simp! [fKs,dE,eU,dP,dC,dS,eS,eT,mT,L2.fE,oJ,oK,jB]))).trans ?_
 exact aO (bH (d:= .str (kdS f.kd)) (by simp! [fKs,dE,eU,dP,dC,dS,eS,eT,mT,L2.fE,oJ,oK,jB,cA,gmD]))
theorem wj9(a k:Int)(ha:0<=a/\a<=12):∃n:Int,atI [D.int 1,.int 2,.int 4,.int a] (k % 4)=some (.int n)/\0<=n/\n<=12:=by
 have h0:=ZE k (show(4:Int)≠0 by decide)
 have h1:=Zz k (show(0:Int)<4 by decide)
 obtain⟨d,hd,e⟩:=tJ [D.int 1,.int 2,.int 4,.int a] (k % 4) h0 (by simpa using h1)
 simp only [Z2,Zm,ZW] at hd
 rcases hd with rfl|rfl|rfl|rfl
 ·exact⟨_,e,by decide,by decide⟩
 ·exact⟨_,e,by decide,by decide⟩
 ·exact⟨_,e,by decide,by decide⟩
 ·exact⟨_,e,ha⟩
theorem wc6(m:Int)(h0:0<=m % 13)(h:m % 13<4):∃kd:Nat,atI [D.str (Str.ofString "group"),.str (Str.ofString "group"),.str (Str.ofString "hang"),.str (Str.ofString "either")] (m % 13)=some (.str (kdS kd))/\1<=kd/\kd<=3:=by
 have hn:m % 13=0\/m % 13=1\/m % 13=2\/m % 13=3:=by omega
 rcases hn with e|e|e|e<;>rw [e]
 ·exact⟨1,rfl,by decide,by decide⟩
 ·exact⟨1,rfl,by decide,by decide⟩
 ·exact⟨2,rfl,by decide,by decide⟩
 ·exact⟨3,rfl,by decide,by decide⟩
theorem zn3{a b:Prop}[Decidable a][Decidable b](h:¬(a/\b)):(decide a&&decide b)=false:=by
 by_cases ha:a
 ·rw [Zh (fun hb=>h ⟨ha,hb⟩),Bool.and_false]
 ·rw [Zh ha,XE]
theorem yr6{a b:Prop}[Decidable a][Decidable b](ha:a)(hb:b):(decide a&&decide b)=true:=by rw [Zo ha,Zo hb];rfl
theorem zn4{f g:tz4}{p:PSt}{a b:Bool}(h1:f p=some a)(h2:g p=some b):eK f g p=some (a&&b):=by
 cases a with
 |true=>exact lP h1 h2
 |false=>exact mX h1
theorem yx7{N:List D}{w:Int}{x0 x5 x6:Option D}:eK (fB (f2 dLt (aA 7) (fC (.int 4)))) (fB (f2 dLe (aH cW (aB (aA 4) aE)) (aA 3))) [x0,x1,x2,some (.int nest),some (.lst true N),x5,x6,some (.int w),x8,x9]=some (decide (w<4)&&decide ((N.length:Int)<=(nest:Int))):=
 zn4 (eP (aR rfl rfl rfl)) (eP (aR (aS (aD rfl rfl) rfl) rfl rfl))
theorem xv7{N:List D}{w:Int}{x0 x3 x5 x6:Option D}:eK (fB (f2 dEq (aA 7) (fC (.int 4)))) (fB (f2 dGt (aH cW (aB (aA 4) aE)) (fC (.int 1)))) [x0,x1,x2,x3,some (.lst true N),x5,x6,some (.int w),x8,x9]=some (decide (w=4)&&decide ((1:Int)<(N.length:Int))):=
 zn4 (eP (aR rfl rfl rfl)) (eP (aR (aS (aD rfl rfl) rfl) rfl rfl))
theorem yr7{p:PSt}{j:Nat}{M:List D}{d:D}(hp:p[j]? =some (some (.lst true (M++[d])))):f2 dIx (aA j) (dP (fC (.int 1))) p=some d:=aR (nV hp) rfl (show atI (M++[d]) (-1)=_ from L2.fE _ _)
theorem xv8{M R:List D}{w:Int}{k:String}{a b c:D}{x0 x3 x5 x6:Option D}:eK (fB (f2 dLt (aA 7) (fC (.int 7)))) (eK (fB (f2 dEq (aA 8) (fC (.str "either")))) (fB (f2 dLt (aH cW (aB (f2 dIx (f2 dIx (aA 4) (dP (fC (.int 1)))) (fC (.int 2))) aE)) (fC (.int 3))))) [x0,x1,x2,x3,some (.lst true (M++[.lst true [a,b,.lst true R,c]])),x5,x6,some (.int w),some (.str k),x9]=some (decide (w<7)&&(decide (k="either")&&decide ((R.length:Int)<3))):=by
 refine zn4 (eP (aR rfl rfl rfl)) (zn4 (eP (aR rfl rfl ?_)) (eP (aR (aS (aD (aR (yr7 (j:=4) rfl) rfl (yg7 _ _ _ _)) rfl) rfl) rfl rfl)))
 show some (D.bl (decide ((k:Str)=(("either":String):Str))))=_
 congr 2
 exact YB.mpr (by rw [gA])
theorem xk3{p:PSt}{j:Nat}{M:List D}{k n:Nat}{l:List D}(hp:p[j]? =some (some (.lst true (M++[.lst true l]))))(hk:ixN l.length (k:Int)=some n):fM j (fM j bI (dP (fC (.int 1)))) (fC (.int (k:Int))) p=some [.ix M.length,.ix n]:=by
 have e1:ixN (M++[D.lst true l]).length (-1)=some M.length:=by rw [Z5];exact eS _
 have e2:(M++[D.lst true l])[M.length]? =some (.lst true l):=by simp! [fKs,dE,eU,dP,dC,dS,eS,eT,mT,L2.fE,oJ,oK,jB]
 simp! [fKs,dE,eU,dP,dC,dS,eS,eT,mT,L2.fE,oJ,oK,jB,hp,e1,e2,hk,dP]
theorem xs6{α:Type}{h:D->Option (α×D)}{M l:List D}{n:Nat}{d d':D}{r:α}(hl:l[n]? =some d)(e:h d=some (r,d')):fL h (.lst true (M++[.lst true l])) [.ix M.length,.ix n]=some (r,.lst true (M++[.lst true (l.set n d')])):=by
 have e2:(M++[D.lst true l])[M.length]? =some (.lst true l):=by simp! [fKs,dE,eU,dP,dC,dS,eS,eT,mT,L2.fE,oJ,oK,jB]
 show(((M++[D.lst true l])[M.length]?).bind _)=_
 rw [e2,Z3]
 show(((l[n]?).bind _).bind _)=_
 rw [hl,Z3]
 show(((h d).bind _).bind _)=_
 rw [e]
 show some (r,D.lst true ((M++[D.lst true l]).set M.length _))=_
 rw [eT]
theorem yi7{p:PSt}{j k n:Nat}{M l xs:List D}{fe:tz2}{y:D}(hp:p[j]? =some (some (.lst true (M++[.lst true l]))))(hk:ixN l.length (k:Int)=some n)(hl:l[n]? =some (.lst true xs))(h:fe p=some y)(hz:xs.length<sizeLine):cN (dA j (fM j (fM j bI (dP (fC (.int 1)))) (fC (.int (k:Int)))) (aB fe aE) dD) p=some (.nx,p.set j (some (.lst true (M++[.lst true (l.set n (.lst true (xs++[y])))])))):=by
 refine lQ (d:= .non) ?_
 unfold dA
 rw [hp,YC,Z3,xk3 hp hk,Z3,aD h rfl,Z3,xs6 hl (show dD [y] (.lst true xs)=_ from if_pos hz)]
 rfl
theorem yx8{p:PSt}{j k n:Nat}{M l:List D}{fe:tz2}{y:D}(hp:p[j]? =some (some (.lst true (M++[.lst true l]))))(hk:ixN l.length (k:Int)=some n)(h:fe p=some y):dE j (fM j bI (dP (fC (.int 1)))) (fC (.int (k:Int))) fe p=some (.nx,p.set j (some (.lst true (M++[.lst true (l.set n y)])))):=by
 have e1:ixN (M++[D.lst true l]).length (-1)=some M.length:=by rw [Z5];exact eS _
 have e2:(M++[D.lst true l])[M.length]? =some (.lst true l):=by simp! [fKs,dE,eU,dP,dC,dS,eS,eT,mT,L2.fE,oJ,oK,jB]
 have ep:fM j bI (dP (fC (.int 1))) p=some [.ix M.length]:=by simp! [fKs,dE,eU,dP,dC,dS,eS,eT,mT,L2.fE,oJ,oK,jB,hp,e1,dP]
 unfold dE
 rw [h,Z3,hp,YC,Z3,ep,Z3]
 show((fL (eU (.int (k:Int)) y) (.lst true (M++[.lst true l])) [.ix M.length]).bind _)=_
 have em:fL (eU (.int (k:Int)) y) (.lst true (M++[.lst true l])) [.ix M.length]=some ((),.lst true (M++[.lst true (l.set n y)])):=by
  show(((M++[D.lst true l])[M.length]?).bind _)=_
  rw [e2,Z3]
  show(((ixN l.length (k:Int)).bind _).bind _)=_
  rw [hk]
  show some ((),D.lst true ((M++[D.lst true l]).set M.length _))=_
  rw [eT]
 rw [em];rfl
theorem xk4(hw:m % 13<4)(hl:(f::fs).length<=nest)(hz:(f::fs).length<=900):∃kd n y9,ifR GM GS GL [some S,x1,x2,some (.int nest),some (.lst true (cA (f::fs))),some (.int i),some (.int m),some (.int (m % 13)),x8,x9]
  =some (.nx,[some S,x1,x2,some (.int nest),some (.lst true (cA (⟨kd,n,[],[]⟩::f::fs))),some (.int i),some (.int m),some (.int (m % 13)),x8,y9])/\(1<=kd/\kd<=3)/\0<=n/\n<=12:=by
 have h0:=ZE m (show(13:Int)≠0 by decide)
 have d0:=ZE (m/13) (show(13:Int)≠0 by decide)
 have d1:=Zz (m/13) (show(0:Int)<13 by decide)
 obtain⟨kd,q1,hk1,hk2⟩:=wc6 m h0 hw
 obtain⟨n,q2,hn1,hn2⟩:=wj9 (m/13 % 13) (m/169) ⟨d0,We d1⟩
 have hz':(cA (f::fs)).length<sizeLine:=by rw [pO];exact sz1 (by omega)
 have hl':((cA (f::fs)).length:Int)<=(nest:Int):=by rw [pO];exact W5.mpr hl
 refine⟨kd,n,some (.str (kdS kd)),?_,⟨hk1,hk2⟩,hn1,hn2⟩
 have e:cA (⟨kd,n,[],[]⟩::f::fs)=cA (f::fs)++[.lst true [.str (kdS kd),.int n,.lst true [],.lst true []]]:=rfl
 rw [e]
 generalize cA (f::fs)=N at hz' hl'|-
 unfold ifR
 refine(bO (yx7.trans (by rw [yr6 hw hl']))).trans ((aO (bH (aR (fO rfl (Za rfl)) rfl q1))).trans ?_)
 refine lQ (d:= .non) ?_
 unfold dA
 rw [aD (fO (aD (bW (d:= .str (kdS kd)) rfl rfl) (aD (aR (fO (aD rfl (aD rfl (aD rfl (aD (aR (aR rfl rfl ((dS _ _).trans (if_pos (by decide)))) rfl ((dC _ _).trans (if_pos (by decide)))) rfl)))) (Za rfl)) (aR (aR rfl rfl ((dS _ _).trans (if_pos (by decide)))) rfl ((dC _ _).trans (if_pos (by decide)))) q2) (aD (fO rfl (Za rfl)) (aD (fO rfl (Za rfl)) rfl)))) (Za rfl)) rfl]
 show((dD [.lst true [.str (kdS kd),.int n,.lst true [],.lst true []]] (.lst true N)).bind _)=_
 rw [show dD [.lst true [.str (kdS kd),.int n,.lst true [],.lst true []]] (.lst true N)=_ from if_pos hz']
 rfl
theorem xk5{g:Gm}(q:GS [.lst true (cA (f::g::fs))]=some (.non,[.lst true (cA (lE g (gR f)::fs))]))(hw:m % 13=4):
  ifR GM GS GL [some S,x1,x2,some (.int nest),some (.lst true (cA (f::g::fs))),some (.int i),some (.int m),some (.int (m % 13)),x8,x9]
  =some (.nx,[some S,x1,x2,some (.int nest),some (.lst true (cA (lE g (gR f)::fs))),some (.int i),some (.int m),some (.int (m % 13)),x8,x9]):=by
 have hl:(1:Int)<((cA (f::g::fs)).length:Int):=by rw [pO];simp;omega
 unfold ifR
 exact(fU (dR (yx7.trans (by rw [zn3 (fun z=>by omega)])))).trans ((bO (xv7.trans (by rw [yr6 hw hl]))).trans (lQ (qX (nW rfl gH) q rfl)))
theorem yr8(hw:¬(m % 13<4/\(f::fs).length<=nest))(hw4:¬(m % 13=4/\fs≠[])){F1 F2 F3:tz1}:fIf (aU (eK (fB (f2 dLt (aA 7) (fC (.int 4)))) (fB (f2 dLe (aH cW (aB (aA 4) aE)) (aA 3))))) F1 (fIf (aU (eK (fB (f2 dEq (aA 7) (fC (.int 4)))) (fB (f2 dGt (aH cW (aB (aA 4) aE)) (fC (.int 1)))))) F2 F3) [some S,x1,x2,some (.int nest),some (.lst true (cA (f::fs))),some (.int i),some (.int m),some (.int (m % 13)),x8,x9]
  =F3 [some S,x1,x2,some (.int nest),some (.lst true (cA (f::fs))),some (.int i),some (.int m),some (.int (m % 13)),x8,x9]:=by
 have hl:(cA (f::fs)).length=(f::fs).length:=pO _
 have hn:¬(m % 13=4/\(1:Int)<((f::fs).length:Int)):=fun z=>hw4 ⟨z.1,fun e=>by rw [e] at z;exact absurd z.2 (Int.lt_irrefl 1)⟩
 exact(fU (dR (yx7.trans (by rw [hl,zn3 (fun z=>hw ⟨z.1,W5.mp z.2⟩)])))).trans (fU (dR (xv7.trans (by rw [hl,zn3 hn]))))
theorem wc7(hw:¬(m % 13<4/\(f::fs).length<=nest))(hw4:¬(m % 13=4/\fs≠[]))(hw7:m % 13<7)(hk:f.kd=3)(hf:f.full.length<3):
  ifR GM GS GL [some S,x1,x2,some (.int nest),some (.lst true (cA (f::fs))),some (.int i),some (.int m),some (.int (m % 13)),some (.str (kdS f.kd)),x9]
  =some (.nx,[some S,x1,x2,some (.int nest),some (.lst true (cA ({f with full:=f.full++[f.parts],parts:=[]}::fs))),some (.int i),some (.int m),some (.int (m % 13)),some (.str (kdS f.kd)),x9]):=by
 unfold ifR
 refine(yr8 hw hw4).trans ?_
 obtain⟨kd,n,full,parts⟩:=f
 have hk':kd=3:=hk
 subst hk'
 have hz:(rowsD full).length<sizeLine:=by rw [kB];exact sz1 (by have:full.length<3:=hf;omega)
 have hf':((rowsD full).length:Int)<3:=by rw [kB];exact Int.ofNat_lt.mpr hf
 have er:rowsD (full++[parts])=rowsD full++[.tup (pcsD parts)]:=by rw [zZ];rfl
 have b3:(decide (m % 13<7)&&(decide (kdS 3="either")&&decide (((rowsD full).length:Int)<3)))=true:=by rw [Zo hw7,Zo hf'];rfl
 have s1:=yi7 (p:=[some S,x1,x2,some (.int nest),some (.lst true (cA (⟨3,n,full,parts⟩::fs))),some (.int i),some (.int m),some (.int (m % 13)),some (.str (kdS 3)),x9]) (j:=4) (k:=2) (n:=2) (M:=cA fs) (fe:=aH gY (aB (f2 dIx (f2 dIx (aA 4) (dP (fC (.int 1)))) (fC (.int 3))) aE)) rfl rfl rfl (aS (aD (aR (yr7 (M:=cA fs) rfl) rfl (ws4 _ _ _ _)) rfl) (if_pos (pcs_imm parts))) hz
 rw [<-er] at s1
 have s2:=yx8 (p:=[some S,x1,x2,some (.int nest),some (.lst true (cA fs++[.lst true [.str (kdS 3),.int n,.lst true (rowsD (full++[parts])),.lst true (pcsD parts)]])),some (.int i),some (.int m),some (.int (m % 13)),some (.str (kdS 3)),x9]) (j:=4) (k:=3) (n:=3) (M:=cA fs) (fe:=cV aE) (y:= .lst true []) rfl rfl (fO rfl (Za rfl))
 exact(bO (xv8.trans (ZK some b3))).trans ((aO s1).trans s2)
theorem xk6{l:Leaf}{m2:Int}(hm2:GM [S,.int i,.int 32]=some (.int m2))(hL:GL [.int m2]=some (bP l))(hz:f.parts.length<=900)
  (hw:¬(m % 13<4/\(f::fs).length<=nest)) (hw4:¬(m % 13=4/\fs≠[])) (h3:¬(m % 13<7/\f.kd=3/\f.full.length<3)) (hkd:f.kd<=3):
  ifR GM GS GL [some S,x1,x2,some (.int nest),some (.lst true (cA (f::fs))),some (.int i),some (.int m),some (.int (m % 13)),some (.str (kdS f.kd)),x9]
  =some (.nx,[some S,x1,x2,some (.int nest),some (.lst true (cA (lE f (.leaf l)::fs))),some (.int i),some (.int m),some (.int (m % 13)),some (.str (kdS f.kd)),x9]):=by
 have hz':(pcsD f.parts).length<sizeLine:=by rw [zh8];exact sz1 (by omega)
 have ep:pcsD (f.parts++[.leaf l])=pcsD f.parts++[bP l]:=by rw [zh7];rfl
 have b3:(decide (m % 13<7)&&(decide (kdS f.kd="either")&&decide (((rowsD f.full).length:Int)<3)))=false:=by
  by_cases a1:m % 13<7
  ·rw [zn3,Bool.and_false]
   intro ⟨z1,z2⟩
   rw [kB] at z2
   have hk:f.kd=0\/f.kd=1\/f.kd=2\/f.kd=3:=by omega
   rcases hk with e|e|e|e
   ·rw [e] at z1;exact absurd z1 (by decide)
   ·rw [e] at z1;exact absurd z1 (by decide)
   ·rw [e] at z1;exact absurd z1 (by decide)
   ·exact h3 ⟨a1,e,Int.ofNat_lt.mp z2⟩
  ·rw [Zh a1,XE]
 unfold ifR
 refine(yr8 hw hw4).trans ((fU (dR (xv8.trans (by rw [b3])))).trans ?_)
 have e:cA (lE f (.leaf l)::fs)=cA fs++[.lst true [.str (kdS f.kd),.int f.n,.lst true (rowsD f.full),.lst true (pcsD f.parts++[bP l])]]:=by rw [<-ep];rfl
 rw [e]
 have s1:=yi7 (p:=[some S,x1,x2,some (.int nest),some (.lst true (cA (f::fs))),some (.int i),some (.int m),some (.int (m % 13)),some (.str (kdS f.kd)),x9]) (j:=4) (k:=3) (n:=3) (M:=cA fs) (fe:=aH GL (aB (aH GM (aB (aA 0) (aB (aA 5) (aB (fC (.int 32)) aE)))) aE)) rfl rfl rfl (aS (aD (aS (aD rfl (aD rfl (aD rfl rfl))) hm2) rfl) hL) hz'
 exact s1
end
section
variable{GM:tz6}{GS:tz7}{GL:tz6}{S:D}{x1 x2 x6 x7 x8 x9:Option D}{nest k:Nat}{fs:List Gm}{i:Int}
theorem yx9{f:Gm}{fs:List Gm}(h:yk5 (f::fs)):f.kd<=3:=by
 cases fs with
 |nil=>have:f.kd=0:=h;omega
 |cons g fs=>exact h.1.2
theorem wc8(hS:∀(f g:Gm) (fs:List Gm),(1<=f.kd/\f.kd<=3)->(f.kd≠3->f.full=[])->f.full.length<=3->g.parts.length<=900->GS [.lst true (cA (f::g::fs))]=some (.non,[.lst true (cA (lE g (gR f)::fs))]))
  (hL:∀m,0<=m->∃l,GL [.int m]=some (bP l)/\hJ l) (hM:∀s:Int,s=31\/s=32->∃m,GM [S,.int i,.int s]=some (.int m)/\0<=m) (h:GInv nest k fs) (hk:4*k+4<=800) (hn:nest<=100):
  ∃fs' y6 y7 y8 y9,yT GM GS GL [some S,x1,x2,some (.int nest),some (.lst true (cA fs)),some (.int i),x6,x7,x8,x9]=some (.nx,[some S,x1,x2,some (.int nest),some (.lst true (cA fs')),some (.int i),y6,y7,y8,y9])/\GInv nest (k+1) fs':=by
 obtain⟨m,hm,hm0⟩:=hM 31 (.inl rfl)
 obtain⟨m2,hm2,hm20⟩:=hM 32 (.inr rfl)
 have hln:=h.len
 cases fs with
 |nil=>exact h.kinds.elim
 | cons f fs=>
  have hd:=xk2 (GS:=GS) (GL:=GL) (x1:=x1) (x2:=x2) (x6:=x6) (x7:=x7) (x8:=x8) (x9:=x9) (nest:=nest) (f:=f) (fs:=fs) hm
  by_cases c1:m % 13<4/\(f::fs).length<=nest
  ·obtain⟨kd,n,y9,q,h1,h2⟩:=xk4 (GM:=GM) (GS:=GS) (GL:=GL) (S:=S) (x1:=x1) (x2:=x2) (x8:=some (.str (kdS f.kd))) (x9:=x9) (i:=i) c1.1 c1.2 (by omega)
   exact⟨_,_,_,_,y9,hd.trans q,h.opener h1 h2 c1.2⟩
  ·by_cases c2:m % 13=4/\fs≠[]
   ·cases fs with
    |nil=>exact absurd rfl c2.2
    |cons g fs=>
     have hf:=h.each f Z0
     have hg:=h.parts (f:=g) (Z1 _ Z0)
     have q:=xk5 (GM:=GM) (GL:=GL) (S:=S) (x1:=x1) (x2:=x2) (x8:=some (.str (kdS f.kd))) (x9:=x9) (nest:=nest) (i:=i) (hS f g fs h.kinds.1 hf.2.2.2.1 hf.2.2.1 (by omega)) c2.1
     exact⟨_,_,_,_,_,hd.trans q,h.shut.more (by omega)⟩
   ·by_cases c3:m % 13<7/\f.kd=3/\f.full.length<3
    ·have q:=wc7 (GM:=GM) (GS:=GS) (GL:=GL) (S:=S) (x1:=x1) (x2:=x2) (x9:=x9) (i:=i) c1 c2 c3.1 c3.2.1 c3.2.2
     exact⟨_,_,_,_,_,hd.trans q,h.orr c3.2.2 c3.2.1⟩
    ·obtain⟨l,hl,hlk⟩:=hL m2 hm20
     have q:=xk6 (GM:=GM) (GS:=GS) (GL:=GL) (S:=S) (x1:=x1) (x2:=x2) (x9:=x9) (i:=i) hm2 hl (by have:=h.parts (f:=f) Z0;omega) c1 c2 c3 (yx9 h.kinds)
     exact⟨_,_,_,_,_,hd.trans q,h.leaf hlk⟩
theorem yr9(hS:∀(f g:Gm) (fs:List Gm),(1<=f.kd/\f.kd<=3)->(f.kd≠3->f.full=[])->f.full.length<=3->g.parts.length<=900->GS [.lst true (cA (f::g::fs))]=some (.non,[.lst true (cA (lE g (gR f)::fs))]))
  (hL:∀m,0<=m->∃l,GL [.int m]=some (bP l)/\hJ l) (hn:nest<=100):∀(l:List Int) (fs:List Gm) (k:Nat) (x5 x6 x7 x8 x9:Option D),(∀j∈l,∀s:Int,s=31\/s=32->∃m,GM [S,.int j,.int s]=some (.int m)/\0<=m)->GInv nest k fs->4*(k+l.length)+4<=800->
  ∃fs' y5 y6 y7 y8 y9,cT 5 (yT GM GS GL) (l.map .int) [some S,x1,x2,some (.int nest),some (.lst true (cA fs)),x5,x6,x7,x8,x9]=some (.nx,[some S,x1,x2,some (.int nest),some (.lst true (cA fs')),y5,y6,y7,y8,y9])/\GInv nest (k+l.length) fs'
 |[],fs,k,x5,x6,x7,x8,x9,_,h,_=>⟨fs,x5,x6,x7,x8,x9,by simp! [jB,cT],h⟩
 |j::l,fs,k,x5,x6,x7,x8,x9,hM,h,hk=>by
  rw [Z6] at hk
  obtain⟨fs1,y6,y7,y8,y9,q,h1⟩:=wc8 (x1:=x1) (x2:=x2) (x6:=x6) (x7:=x7) (x8:=x8) (x9:=x9) hS hL (hM j Z0) h (by omega) hn
  obtain⟨fs2,z5,z6,z7,z8,z9,q2,h2⟩:=yr9 hS hL hn l fs1 (k+1) (some (.int j)) y6 y7 y8 y9 (fun i hi=>hM i (Z1 _ hi)) h1 (by omega)
  refine⟨fs2,z5,z6,z7,z8,z9,?_,(show k+1+l.length=k+(j::l).length by rw [Z6];omega)▸h2⟩
  rw [<-q2]
  show(yT GM GS GL [some S,x1,x2,some (.int nest),some (.lst true (cA fs)),some (.int j),x6,x7,x8,x9]).bind _=_
  rw [q];rfl
def zp8(GS:tz7)(n:Nat):tz1:=lU (aU (fB (f2 dGt (aH cW (aB (aA 4) aE)) (fC (.int 1))))) (cN (fIO [.io 4] GS)) n
theorem ys0{x0 x3 x5:Option D}(hS:∀(f g:Gm) (fs:List Gm),(1<=f.kd/\f.kd<=3)->(f.kd≠3->f.full=[])->f.full.length<=3->g.parts.length<=900->GS [.lst true (cA (f::g::fs))]=some (.non,[.lst true (cA (lE g (gR f)::fs))]))(hk:4*k+4<=800):
  ∀(n:Nat) (fs:List Gm),fs.length<=n->GInv nest k fs->∃f,zp8 GS n [x0,x1,x2,x3,some (.lst true (cA fs)),x5,x6,x7,x8,x9]=some (.nx,[x0,x1,x2,x3,some (.lst true (cA [f])),x5,x6,x7,x8,x9])/\GInv nest k [f]
 |0,[],_,h=>h.kinds.elim
 |0,_::_,hl,_=>by simp! [jB] at hl
 |n+1,[],_,h=>h.kinds.elim
 |n+1,[f],_,h=>by
  refine⟨f,?_,h⟩
  unfold zp8
  rw [lU]
  have hl:(cA [f]).length=1:=rfl
  generalize cA [f]=N at hl|-
  simp! [jB,hl]
 |n+1,f::g::fs,hl,h=>by
  have hf:=h.each f Z0
  have hg:=h.parts (f:=g) (Z1 _ Z0)
  have q:=hS f g fs h.kinds.1 hf.2.2.2.1 hf.2.2.1 (by omega)
  obtain⟨f',w,h'⟩:=ys0 (x0:=x0) (x3:=x3) (x5:=x5) hS hk n (lE g (gR f)::fs) (by simp! [jB] at hl|-;omega) h.shut
  refine⟨f',?_,h'⟩
  rw [<-w]
  have hl2:(cA (f::g::fs)).length=fs.length+1+1:=by rw [pO];rfl
  have hpos:(1:Int)<((fs.length:Int)+1+1):=by omega
  show lU _ _ (n+1) _=_
  rw [lU]
  generalize cA (f::g::fs)=N at q hl2|-
  generalize cA (lE g (gR f)::fs)=M at q|-
  simp! [jB,hl2,hpos,q,zp8]
def wv4(n:Nat)(GM:tz6)(GS:tz7)(GL:tz6):tz1:=
 aV (aW 4 (aI (cV (aB (cV (aB (fC (.str "top")) (aB (fC (.int 0)) (aB (cV aE) (aB (cV aE) aE))))) aE)))) (aV (fV 5 (sN (aB (aA 1) (aB (f2 cJ (aA 1) (aA 2)) aE))) (yT GM GS GL)) (aV (zp8 GS n) (bS (aI (aH gY (aB (f2 dIx (f2 dIx (aA 4) (fC (.int 0))) (fC (.int 3))) aE))))))
structure RowOk(nest w:Nat)(r:List Pc):Prop where
 ok:okR r
 dep:depR r<=nest
 len:(toksR r).length<=w
theorem wp9{a many n:Nat}(hS:∀(f g:Gm) (fs:List Gm),(1<=f.kd/\f.kd<=3)->(f.kd≠3->f.full=[])->f.full.length<=3->g.parts.length<=900->GS [.lst true (cA (f::g::fs))]=some (.non,[.lst true (cA (lE g (gR f)::fs))]))
  (hL:∀m,0<=m->∃l,GL [.int m]=some (bP l)/\hJ l) (hM:∀j s:Int,(a:Int)<=j/\j<a+many->s=31\/s=32->∃m,GM [S,.int j,.int s]=some (.int m)/\0<=m) (hn:nest<=100) (hmany:many<=90) (ha:a<=1000) (hnn:nest<n):
  ∃r,gP 4 6 (wv4 n GM GS GL) [S,.int a,.int many,.int nest]=some (.tup (pcsD r))/\RowOk nest (4*many) r:=by
 have i0:GInv nest 0 [⟨0,0,[],[]⟩]:=⟨by simp! [jB],by decide,fun f hf=>by rw [Zg.mp hf];exact⟨trivial,trivial,ZT _,fun _=>rfl,Yr _,by decide⟩,rfl,⟨ZT _,ZT _,trivial⟩⟩
 obtain⟨fs1,y5,y6,y7,y8,y9,q,h1⟩:=yr9 (GM:=GM) (GS:=GS) (GL:=GL) (S:=S) (x1:=some (.int a)) (x2:=some (.int many)) hS hL hn ((List.range many).map fun(k:Nat)=>(a:Int)+(k:Int)) [⟨0,0,[],[]⟩] 0 none none none none none
  (fun j hj s hs=>by obtain⟨k,hk,rfl⟩:=Yk.mp hj;have:=XD.mp hk;exact hM _ s (by omega) hs) i0 (by simp;omega)
 rw [<-wi4] at q
 rw [Z8,Yt,YZ] at h1
 have hln:=h1.len
 obtain⟨f,w,h2⟩:=ys0 (GS:=GS) (x0:=some S) (x1:=some (.int a)) (x2:=some (.int many)) (x3:=some (.int nest)) (x5:=y5) (x6:=y6) (x7:=y7) (x8:=y8) (x9:=y9) hS (by omega) n fs1 (by omega) h1
 have hf:=h2.each f Z0
 have hd:=h2.deep.1
 have hwt:wF f+0<=4*many+4:=h2.wt
 refine⟨f.parts,?_,hf.2.1,by simpa using hd,by unfold wF at hwt;omega⟩
 have e:((a:Int)+(many:Int)-(a:Int)).toNat=many:=by omega
 have s0:aW 4 (aI (cV (aB (cV (aB (fC (.str "top")) (aB (fC (.int 0)) (aB (cV aE) (aB (cV aE) aE))))) aE))) [some S,some (.int a),some (.int many),some (.int nest),none,none,none,none,none,none]=some (.nx,[some S,some (.int a),some (.int many),some (.int nest),some (.lst true (cA [⟨0,0,[],[]⟩])),none,none,none,none,none]):=bH rfl
 have s1:fV 5 (sN (aB (aA 1) (aB (f2 cJ (aA 1) (aA 2)) aE))) (yT GM GS GL) [some S,some (.int a),some (.int many),some (.int nest),some (.lst true (cA [⟨0,0,[],[]⟩])),none,none,none,none,none]=some (.nx,[some S,some (.int a),some (.int many),some (.int nest),some (.lst true (cA fs1)),y5,y6,y7,y8,y9]):=by
  have e1:aB (aA 1) (aB (f2 cJ (aA 1) (aA 2)) aE) [some S,some (.int a),some (.int many),some (.int nest),some (.lst true (cA [⟨0,0,[],[]⟩])),none,none,none,none,none]=some [.int a,.int ((a:Int)+(many:Int))]:=rfl
  unfold fV sN
  rw [e1,Z3,wb4 (by omega) (by omega) (by omega) (by omega),e]
  exact q
 have s3:aH gY (aB (f2 dIx (f2 dIx (aA 4) (fC (.int 0))) (fC (.int 3))) aE) [some S,some (.int a),some (.int many),some (.int nest),some (.lst true (cA [f])),y5,y6,y7,y8,y9]=some (.tup (pcsD f.parts)):=by
  show aH gY (aB (f2 dIx (f2 dIx (aA 4) (fC (.int 0))) (fC (.int 3))) aE) [some S,some (.int a),some (.int many),some (.int nest),some (.lst true [.lst true [.str (kdS f.kd),.int f.n,.lst true (rowsD f.full),.lst true (pcsD f.parts)]]),y5,y6,y7,y8,y9]=_
  simp! [jB,pcs_imm]
 have z:=(aO s0).trans ((aO s1).trans ((aO w).trans (cH s3)))
 exact gF rfl z
end
abbrev xu7(GM GL:tz6):tz6:=gP 4 6 (yk3 GM zp7 GL)
theorem wk0{GM GL:tz6}{S:D}{nest a many:Nat}(hL:∀m,0<=m->∃l,GL [.int m]=some (bP l)/\hJ l)(hM:∀j s:Int,(a:Int)<=j/\j<a+many->s=31\/s=32->∃m,GM [S,.int j,.int s]=some (.int m)/\0<=m)(hn:nest<=100)(hmany:many<=90)(ha:a<=1000):
  ∃r,xu7 GM GL [S,.int a,.int many,.int nest]=some (.tup (pcsD r))/\RowOk nest (4*many) r:=by
 obtain⟨r,h1,h2⟩:=wp9 (n:=400) (GS:=zp7) (fun f g fs h1 h2 h3 h4=>xs5 h1 h2 h3 h4) hL hM hn hmany ha (YL hn (by decide))
 exact⟨r,h1,h2⟩
theorem yi8(m st:Int)(hs0:0<=st)(hs1:st<93):∀(l:List Int) (w:Str) (x0 x2 x5:Option D),(∀j∈l,0<=j/\j<100)->w.length+l.length<=100->w.cps.toList.all ze7=true->
  ∃w' x5',cT 5 (aW 4 (aI (f2 cJ (aA 4) (f2 dIx (aA 1) (f2 dX (f2 cJ (f2 gI (aA 0) (fC (.int 12))) (f2 iL (aA 5) (aA 3))) (fC (.int 93))))))) (l.map .int) [some (.int m),some (.str sg),x2,some (.int st),some (.str w),x5]
   =some (.nx,[some (.int m),some (.str sg),x2,some (.int st),some (.str w'),x5'])/\w'.length=w.length+l.length/\w'.cps.toList.all ze7=true
 |[],w,x0,x2,x5,_,_,hw=>⟨w,x5,by simp! [fKs,oQ,fV,cP,lC,jP,gB,fSl,dE,eU,dP,dIn,inB,mO,D.flat,D.flats,inV,eqV,rZ,yH,oR,nH,dSl,dC,dS,iL,oO,qF,sN,vD,vE,mP,qE,eS,eT,mT,L2.fE,cT],rfl,hw⟩
 |j::l,w,x0,x2,x5,hj,hl,hw=>by
  rw [Z6] at hl
  have hj0:=hj j Z0
  obtain⟨c,hc,hg⟩:=wp3 ((m/12+j*st) % 93) (ZE _ (by decide)) (Zz _ (by decide))
  have hw1:(w++(⟨#[c]⟩:Str)).length=w.length+1:=by rw [dF];rfl
  obtain⟨w',x5',q1,q2,q3⟩:=yi8 m st hs0 hs1 l (w++⟨#[c]⟩) x0 x2 (some (.int j)) (fun i hi=>hj i (Z1 _ hi)) (by rw [hw1];omega) (by rw [bX,List.all_append,hw];simp! [fKs,oQ,fV,cP,lC,jP,gB,fSl,dE,eU,dP,dIn,inB,mO,D.flat,D.flats,inV,eqV,rZ,yH,oR,nH,dSl,dC,dS,iL,oO,qF,sN,vD,vE,mP,qE,eS,eT,mT,L2.fE,hg])
  refine⟨w',x5',?_,by rw [q2,hw1,Z6];omega,q3⟩
  rw [<-q1]
  have hz:w.length+(⟨#[c]⟩:Str).length<=sizeLine:=sz (by show w.length+1<=1000;omega)
  have b1:(-18446744073709551616<j/\j<18446744073709551616):=by omega
  simp! [fKs,oQ,fV,cP,lC,jP,gB,fSl,dE,eU,dP,dIn,inB,mO,D.flat,D.flats,inV,eqV,rZ,yH,oR,nH,dSl,dC,dS,iL,oO,qF,sN,vD,vE,mP,qE,eS,eT,mT,L2.fE,cT,hc,wb1,hz,b1]
abbrev yz5:tz6:=gP 1 5 zb4
theorem wc9{m:Int}(hm:0<=m):∃z,yz5 [.int m]=some (.str z)/\yk1 z:=by
 obtain⟨s,hs,h1,h2⟩:=wb2 m
 obtain⟨w,x5,q1,q2,q3⟩:=yi8 m (m/9000 % 93) (ZE _ (by decide)) (Zz _ (by decide)) ((List.range s.toNat).map fun(k:Nat)=>(k:Int)) "" none (some (.int s)) none
  (fun j hj=>by obtain⟨k,hk,rfl⟩:=Yk.mp hj;have:=XD.mp hk;omega) (by rw [Z8,Yt];show 0+_<=100;omega) (by decide+kernel)
 rw [<-wi2] at q1
 rw [Z8,Yt] at q2
 have q2':w.length=s.toNat:=by rw [q2];show 0+_=_;omega
 refine⟨w,?_,by omega,by omega,q3⟩
 have hz:(Str.ofString "abcdefghijklmnopqrstuvwxyzABCDEFGHIJKLMNOPQRSTUVWXYZ0123456789").length+(Str.ofString "!\"#$&'()*+,-./:;<=>?\x40[\\]^_`{|}~").length<=sizeLine:=by decide+kernel
 have e1:Str.ofString "abcdefghijklmnopqrstuvwxyzABCDEFGHIJKLMNOPQRSTUVWXYZ0123456789"++Str.ofString "!\"#$&'()*+,-./:;<=>?\x40[\\]^_`{|}~"=sg:=rfl
 have b1:(-4611686018427387904<=s/\s<4611686018427387904):=by omega
 simp! [fKs,oQ,fV,cP,lC,jP,gB,fSl,dE,eU,dP,dIn,inB,mO,D.flat,D.flats,inV,eqV,rZ,yH,oR,nH,dSl,dC,dS,iL,oO,qF,sN,vD,vE,mP,qE,eS,eT,mT,L2.fE,zb4,hz,e1,hs,q1,b1]
abbrev zp9:tz6:=gP 1 1 (zb5 yz5)
theorem wd0{m:Int}(hm:0<=m):∃l,zp9 [.int m]=some (bP l)/\hJ l:=by
 have hd:0<=m/16:=Int.ediv_nonneg hm (by decide)
 have s1:aW 1 (aI (f2 gI (aA 0) (fC (.int 16)))) [some (.int m),none]=some (.nx,[some (.int m),some (.int (m/16))]):=bH (aR rfl rfl ((dS _ _).trans (if_pos (by decide))))
 have md:f2 dX (aA 0) (fC (.int 16)) [some (.int m),some (.int (m/16))]=some (.int (m % 16)):=aR rfl rfl ((dC _ _).trans (if_pos (by decide)))
 have t:∀c:Int,fB (f2 dLt (f2 dX (aA 0) (fC (.int 16))) (fC (.int c))) [some (.int m),some (.int (m/16))]=some (decide (m % 16<c)):=fun c=>eP (aR md rfl rfl)
 have out:∀{p:PSt} (l:Leaf),zb5 yz5 [some (.int m),none]=some (.ret (bP l),p)->zp9 [.int m]=some (bP l):=fun l h=>gF rfl h
 have t8:=t 8
 have t13:=t 13
 by_cases c1:m % 16<8
 ·obtain⟨z,q,hz⟩:=wc9 hd
  rw [Zo c1] at t8
  exact⟨.word z,out (.word z) ((aO s1).trans (eA ((bO t8).trans (cH (eZ (aD rfl (aD (aS (aD rfl rfl) q) rfl)) rfl (Za rfl)))))),hz⟩
 ·rw [Zh c1] at t8
  by_cases c2:m % 16<13
  ·obtain⟨x,q,hx⟩:=wi3 (m/16)
   rw [Zo c2] at t13
   exact⟨.gap x,out (.gap x) ((aO s1).trans ((aO (bD t8)).trans (eA ((bO t13).trans (cH (eZ (aD rfl (aD (aR (fO rfl (Za rfl)) (aR rfl rfl ((dC _ _).trans (if_pos (by decide)))) q) rfl)) rfl (Za rfl))))))),hx⟩
  ·rw [Zh c2] at t13
   have te:fB (f2 dEq (f2 dX (aA 0) (fC (.int 16))) (fC (.int 13))) [some (.int m),some (.int (m/16))]=some (decide (m % 16=13)):=eP (aR md rfl rfl)
   by_cases c3:m % 16=13
   ·rw [Zo c3] at te
    exact⟨.fin,out .fin ((aO s1).trans ((aO (bD t8)).trans ((aO (bD t13)).trans (eA ((bO te).trans (cH rfl)))))),trivial⟩
   ·rw [Zh c3] at te
    have ha:=ZE (m/16/2) (show(10:Int)≠0 by decide)
    have hb:=Zz (m/16/2) (show(0:Int)<10 by decide)
    have hc:=ZE (m/16/2) (show(41:Int)≠0 by decide)
    have he:=Zz (m/16/2) (show(0:Int)<41 by decide)
    obtain⟨c,q,h1,h2⟩:=wb3 (m/16/2 % 10) (m/16/2 % 41) (m/16) ⟨ha,Int.le_trans (Int.le_of_lt hb) (by decide)⟩ ⟨hc,We he⟩
    have dv:f2 gI (aA 1) (fC (.int 2)) [some (.int m),some (.int (m/16))]=some (.int (m/16/2)):=aR rfl rfl ((dS _ _).trans (if_pos (by decide)))
    exact⟨.stop c,out (.stop c) ((aO s1).trans ((aO (bD t8)).trans ((aO (bD t13)).trans ((aO (bD te)).trans (cH (eZ (aD rfl (aD (aR (fO (aD (aR dv rfl ((dC _ _).trans (if_pos (by decide)))) (aD (aR dv rfl ((dC _ _).trans (if_pos (by decide)))) rfl)) (Za rfl)) (aR rfl rfl ((dC _ _).trans (if_pos (by decide)))) q) rfl)) rfl (Za rfl))))))),h1,h2⟩
theorem yi9:∀(ys:List Str),ys≠[]->(∀y∈ys,(y:Str).length<=(Str.join ⟨#[10]⟩ ys).length)/\ys.length<=(Str.join ⟨#[10]⟩ ys).length+1
 |[],h=>absurd rfl h
 |[y],_=>⟨fun z hz=>by rw [Zg.mp hz];exact Zc _,Nat.le_add_left _ _⟩
 | x::y::r,_=>by
  obtain⟨h1,h2⟩:=yi9 (y::r) (by simp)
  have e:(Str.join ⟨#[10]⟩ (x::y::r)).length=x.length+1+(Str.join ⟨#[10]⟩ (y::r)).length:=by
   show(Str.join ⟨#[10]⟩ (x::y::r)).cps.size=x.cps.size+1+(Str.join ⟨#[10]⟩ (y::r)).cps.size
   rw [<-ZS,lR,Z5,Z6,ZS,ZS];omega
  rw [e]
  refine⟨fun z hz=> ?_,by rw [Z6];omega⟩
  rcases Z2.mp hz with rfl|hz
  ·omega
  ·have:=h1 z hz;omega
theorem ys1(t:Str):(∀y∈lns t,(y:Str).length<=t.length)/\(lns t).length<=t.length+1:=by
 have:=yi9 (lns t) (za2 t)
 rwa [pQ] at this
theorem yj0{f:tz2}{p:PSt}{t:Str}(h:f p=some (.str t))(hl:t.length<=900000):fMt mZ f (aB (fC (.str "\n")) aE) p=some (.lst true (L2.eI (lns t))):=by
 unfold fMt
 rw [h,Z3,aD (f:=fC (.str "\n")) (g:=aE) (d:= .str "\n") (ds:=[]) rfl rfl,Z3,if_pos (show ze2 (.str t)=true from rfl)]
 unfold lns
 rw [<-zm0]
 exact if_pos ⟨by decide+kernel,by omega⟩
theorem za6:∀ys:List Str,D.imms (L2.eI ys)=true
 |[]=>rfl
 |y::ys=>by show((D.str y).imm&&D.imms (L2.eI ys))=true;rw [za6 ys];rfl
theorem zi5:∀ys:List Str,(∀y∈ys,(y:Str).length<=900000)->gO [none] iG (aH cW (aB (aA 0) aE)) (L2.eI ys)=some (aX (ys.map fun y=>(y.length:Int)))
 |[],_=>rfl
 |y::ys,h=>by
  have hs:sizeLine=16777216:=Y2
  have hy:y.length<=sizeLine:=by have:=h y Z0;omega
  have ih:=zi5 ys fun z hz=>h z (Z1 _ hz)
  have e:aH cW (aB (aA 0) aE) [some (.str y)]=some (.int (y.length:Int)):=aS (aD rfl rfl) (if_pos hy)
  show gO [none] iG _ (.str y::L2.eI ys)=_
  rw [gO]
  show(aH cW (aB (aA 0) aE) [some (.str y)]).bind (fun r=>(gO [none] iG (aH cW (aB (aA 0) aE)) (L2.eI ys)).bind fun rs=>some (r::rs))=_
  rw [e,ih];rfl
theorem zy9:∀{ns:List Int},ns≠[]->∃k,wB ns=some k
 |[],h=>absurd rfl h
 |n::ns,_=>by rw [wB];cases wB ns<;>exact⟨_,rfl⟩
abbrev yl4(GM:tz6):tz6:=gP 2 3 (zp0 GM)
theorem xs7{GM:tz6}{S:D}{t:Str}(hM:∀j s:Int,0<=j->j<1000->0<=s->s<1000->∃a,GM [S,.int j,.int s]=some (.int a)/\0<=a)(hl:t.length<=900000):∃W:Int,yl4 GM [S,.str t]=some (.int W)/\1<=W/\W<=40:=by
 obtain⟨a,qa,ha⟩:=hM 1 50 (by decide) (by decide) (by decide) (by decide)
 have hs:sizeLine=16777216:=Y2
 obtain⟨hy,hn⟩:=ys1 t
 obtain⟨M,hm⟩:=zy9 (ns:=(lns t).map fun y=>(y.length:Int)) (by simpa using za2 t)
 have s1:aW 2 (aI (aH GM (aB (aA 0) (aB (fC (.int 1)) (aB (fC (.int 50)) aE))))) [some S,some (.str t),none,none,none]=some (.nx,[some S,some (.str t),some (.int a),none,none]):=bH (aS (aD rfl (aD rfl (aD rfl rfl))) qa)
 have e2:iD [none] (cP (fMt mZ (aA 1) (aB (fC (.str "\n")) aE))) iG (aH cW (aB (aA 0) aE)) [some S,some (.str t),some (.int a),none,none]=some (.lst true (aX ((lns t).map fun y=>(y.length:Int)))):=by
  have sp:=yj0 (f:=aA 1) (p:=[some S,some (.str t),some (.int a),none,none]) (t:=t) rfl hl
  unfold iD cP
  rw [sp,Z3,show lC (.lst true (L2.eI (lns t)))=some (L2.eI (lns t)) from if_pos (za6 _),Z3]
  rw [if_pos (by unfold L2.eI;rw [Z8];omega)]
  show(gO [none] iG (aH cW (aB (aA 0) aE)) (L2.eI (lns t))).bind _=_
  rw [zi5 _ fun y h=>Zv (hy y h) hl];rfl
 have s2:aW 3 (aI (aH ze5 (aB (iD [none] (cP (fMt mZ (aA 1) (aB (fC (.str "\n")) aE))) iG (aH cW (aB (aA 0) aE))) aE))) [some S,some (.str t),some (.int a),none,none]=some (.nx,[some S,some (.str t),some (.int a),some (.int M),none]):=by
  refine bH (aS (aD e2 rfl) ?_)
  show(D.ints (aX _)).bind _=_
  rw [za1,Z3,hm];rfl
 have dv:f2 gI (aA 2) (fC (.int 4)) [some S,some (.str t),some (.int a),some (.int M),none]=some (.int (a/4)):=aR rfl rfl ((dS _ _).trans (if_pos (by decide)))
 have md:∀c:Int,0<c->f2 dX (f2 gI (aA 2) (fC (.int 4))) (fC (.int c)) [some S,some (.str t),some (.int a),some (.int M),none]=some (.int (a/4 % c)):=fun c hc=>aR dv rfl ((dC _ _).trans (if_pos hc))
 have m0:=ZE a (show(4:Int)≠0 by decide)
 have m1:=Zz a (show(0:Int)<4 by decide)
 obtain⟨v,qv⟩:∃v:Int,atI [D.int M,.int (M+a/4 % 4),.int (8+a/4 % 20),.int (1+a/4 % 40)] (a % 4)=some (.int v):=by
  have:a % 4=0\/a % 4=1\/a % 4=2\/a % 4=3:=by omega
  rcases this with h|h|h|h<;>rw [h]<;>exact⟨_,rfl⟩
 have s3:aW 4 (aI (f2 dIx (cV (aB (aY (aA 3)) (aB (f2 cJ (aA 3) (f2 dX (f2 gI (aA 2) (fC (.int 4))) (fC (.int 4)))) (aB (f2 cJ (fC (.int 8)) (f2 dX (f2 gI (aA 2) (fC (.int 4))) (fC (.int 20)))) (aB (f2 cJ (fC (.int 1)) (f2 dX (f2 gI (aA 2) (fC (.int 4))) (fC (.int 40)))) aE))))) (f2 dX (aA 2) (fC (.int 4))))) [some S,some (.str t),some (.int a),some (.int M),none]=some (.nx,[some S,some (.str t),some (.int a),some (.int M),some (.int v)]):=
  bH (aR (fO (aD (bW rfl rfl) (aD (aR rfl (md 4 (by decide)) rfl) (aD (aR rfl (md 20 (by decide)) rfl) (aD (aR rfl (md 40 (by decide)) rfl) rfl)))) (Za rfl)) (aR rfl rfl ((dC _ _).trans (if_pos (by decide)))) qv)
 refine⟨_,gF rfl ((aO s1).trans ((aO s2).trans ((aO s3).trans (cH (aS (aD rfl (aD (aS (aD rfl (aD rfl rfl)) rfl) rfl)) rfl))))),?_,?_⟩
 ·split<;>(try split)<;>omega
 ·split<;>(try split)<;>omega
def nb(y x:Way):Prop:=ltW x y=false
theorem wT:∀a:List Int,HT.lexLt a a=false
 |[]=>rfl
 |x::a=>by show(if x=x then HT.lexLt a a else _)=_;rw [if_pos rfl];exact wT a
theorem ys2:∀{a b c:List Int},HT.lexLt a b=false->HT.lexLt b c=false->HT.lexLt a c=false
 |[],[],c,_,h=>h
 |[],_::_,_,h,_=>by cases h
 |x::a,b,[],_,_=>rfl
 |x::a,[],z::c,_,h=>by cases h
 | x::a,y::b,z::c,h1,h2=>by
  have h1':(if x=y then HT.lexLt a b else decide (x<y))=false:=h1
  have h2':(if y=z then HT.lexLt b c else decide (y<z))=false:=h2
  show(if x=z then HT.lexLt a c else decide (x<z))=false
  by_cases e1:x=y
  ·subst e1
   rw [if_pos rfl] at h1'
   by_cases e2:x=z
   ·subst e2
    rw [if_pos rfl] at h2'|-
    exact ys2 h1' h2'
   ·rw [if_neg e2] at h2'|-;exact h2'
  ·rw [if_neg e1] at h1'
   have g1:=Y5 h1'
   by_cases e2:y=z
   ·subst e2
    rw [if_neg e1];exact h1'
   ·rw [if_neg e2] at h2'
    have g2:=Y5 h2'
    rw [if_neg (by omega)]
    exact Zh (by omega)
theorem wk1(a b a' b':Int):HT.lexLt [a,b] [a',b']=(if a=a' then(if b=b' then false else decide (b<b')) else decide (a<a')):=rfl
theorem zn5{y x:Way}:nb y x↔y.1.1<x.1.1\/(y.1.1=x.1.1/\(y.1.2<x.1.2\/(y.1.2=x.1.2/\HT.lexLt x.2 y.2=false))):=by
 have e:ltW x y=(if [x.1.1,x.1.2]=[y.1.1,y.1.2] then(if x.2=y.2 then false else HT.lexLt x.2 y.2) else HT.lexLt [x.1.1,x.1.2] [y.1.1,y.1.2]):=rfl
 have e2:(if x.2=y.2 then false else HT.lexLt x.2 y.2)=HT.lexLt x.2 y.2:=by
  by_cases c:x.2=y.2
  ·rw [if_pos c,c,wT]
  ·rw [if_neg c]
 unfold nb
 rw [e,e2,wk1]
 by_cases c1:x.1.1=y.1.1
 ·by_cases c2:x.1.2=y.1.2
  ·rw [if_pos (by rw [c1,c2])]
   constructor
   ·exact fun h=> .inr ⟨c1.symm,.inr ⟨c2.symm,h⟩⟩
   ·rintro(h|⟨_,h|⟨_,h⟩⟩)
    ·omega
    ·omega
    ·exact h
  ·rw [if_neg (by simp [c1,c2]),if_pos c1,if_neg c2]
   constructor
   ·intro h
    have:=Y5 h
    exact .inr ⟨c1.symm,.inl (by omega)⟩
   ·rintro(h|⟨_,h|⟨h,_⟩⟩)
    ·omega
    ·exact Zh (by omega)
    ·omega
 ·rw [if_neg (by simp [c1]),if_neg c1]
  constructor
  ·intro h
   have:=Y5 h
   exact .inl (by omega)
  ·rintro(h|⟨h,_⟩)
   ·exact Zh (by omega)
   ·omega
theorem wU(x:Way):nb x x:=zn5.mpr (.inr ⟨rfl,.inr ⟨rfl,wT _⟩⟩)
theorem zi6{z y x:Way}(h1:nb z y)(h2:nb y x):nb z x:=by
 rw [zn5] at*
 rcases h1 with a|⟨a,a'|⟨a',a''⟩⟩<;>rcases h2 with b|⟨b,b'|⟨b',b''⟩⟩
 ·exact .inl (by omega)
 ·exact .inl (by omega)
 ·exact .inl (by omega)
 ·exact .inl (by omega)
 ·exact .inr ⟨by omega,.inl (by omega)⟩
 ·exact .inr ⟨by omega,.inl (by omega)⟩
 ·exact .inl (by omega)
 ·exact .inr ⟨by omega,.inl (by omega)⟩
 ·exact .inr ⟨by omega,.inr ⟨by omega,ys2 b'' a''⟩⟩
theorem xs8:∀{a b:List Int},HT.lexLt a b=true->HT.lexLt b a=false:=fun {a b} h=>by
 cases e:HT.lexLt b a with
 |false=>rfl
 | true =>
  cases e2:HT.lexLt a a with
  | false=>
   exact absurd h (by
    intro _
    have:∀{a b:List Int},HT.lexLt a b=true->HT.lexLt b a=true->False:=by
     intro a
     induction a with
     |nil=>intro b _ h2;cases b<;>cases h2
     | cons x a ih=>
      intro b h1 h2
      cases b with
      |nil=>cases h1
      | cons y b=>
       have h1':(if x=y then HT.lexLt a b else decide (x<y))=true:=h1
       have h2':(if y=x then HT.lexLt b a else decide (y<x))=true:=h2
       by_cases c:x=y
       ·subst c
        rw [if_pos rfl] at h1' h2'
        exact ih h1' h2'
       ·rw [if_neg c] at h1'
        rw [if_neg (fun z=>c z.symm)] at h2'
        have:=Xk h1'
        have:=Xk h2'
        omega
    exact this h e)
  |true=>rw [wT] at e2;cases e2
theorem yj1{x y:Way}(h:ltW x y=true):nb x y:=by
 have h':¬nb y x:=fun z=>by unfold nb at z;rw [h] at z;cases z
 rw [zn5] at h'|-
 by_cases c1:x.1.1<y.1.1
 ·exact .inl c1
 ·by_cases c2:x.1.1=y.1.1
  ·refine .inr ⟨c2,?_⟩
   by_cases c3:x.1.2<y.1.2
   ·exact .inl c3
   ·by_cases c4:x.1.2=y.1.2
    ·refine .inr ⟨c4,?_⟩
     cases e:HT.lexLt x.2 y.2 with
     |false=>exact absurd (.inr ⟨c2.symm,.inr ⟨c4.symm,e⟩⟩) h'
     |true=>exact xs8 e
    ·exact absurd (.inr ⟨c2.symm,.inl (by omega)⟩) h'
  ·exact absurd (.inl (by omega)) h'
def sX(a b:List Int):Prop:=(∀x,b=a++x->x=[])/\(∀x,a=b++x->x=[])
theorem xX:∀C:List Int,D.datas (aX C)=some (C.map PyData.int)
 |[]=>rfl
 |c::C=>by
  show(D.data (.int c)).bind (fun p=>(D.datas (aX C)).map (p::·))=_
  rw [xX C];rfl
theorem zi7:∀C:List Int,PyData.canLayAll0 (C.map PyData.int)=true
 |[]=>rfl
 |c::C=>by show(PyData.canLay0 (.int c)&&PyData.canLayAll0 (C.map PyData.int))=true;rw [zi7 C];rfl
theorem xY:∀C:List Int,PyData.depthAll (C.map PyData.int)=0
 |[]=>rfl
 |c::C=>by show max (PyData.depth (.int c)) (PyData.depthAll (C.map PyData.int))=0;rw [xY C];rfl
theorem ys3(i:Int):mU [.int i,.ty "int"]=some (.bl true)/\mU [.int i,.ty "bool"]=some (.bl false):=by
 constructor<;>simp [mU,dTy,yF]
theorem ys4(xs:List D):mU [.tup xs,.ty "tuple"]=some (.bl true):=by simp [mU,dTy,yF]
theorem zz0(q:Nat×Way):∃p,(bJ q).data=some p/\p.canLay0=true/\p.depth<=2:=by
 refine⟨.tuple [.int q.1,.int q.2.1.1,.int q.2.1.2,.tuple (q.2.2.map PyData.int)],?_,?_,?_⟩
 ·unfold bJ
  simp [D.data,D.datas,xX]
 ·show(true&&(true&&(true&&(PyData.canLayAll0 (q.2.2.map PyData.int)&&true))))=true
  rw [zi7];rfl
 ·show max 0 (max 0 (max 0 (max (PyData.depthAll (q.2.2.map PyData.int)+1) 0)))+1<=2
  rw [xY];decide
theorem zn6:∀Q:List (Nat×Way),∃ps,D.datas (Q.map bJ)=some ps/\PyData.canLayAll0 ps=true/\PyData.depthAll ps<=2
 |[]=>⟨[],rfl,rfl,by decide⟩
 | q::Q=>by
  obtain⟨p,a1,a2,a3⟩:=zz0 q
  obtain⟨ps,b1,b2,b3⟩:=zn6 Q
  refine⟨p::ps,?_,?_,?_⟩
  ·show((bJ q).data).bind (fun p=>(D.datas (Q.map bJ)).map (p::·))=_
   rw [a1,b1];rfl
  ·show(PyData.canLay0 p&&PyData.canLayAll0 ps)=true
   rw [a2,b2];rfl
  ·show max (PyData.depth p) (PyData.depthAll ps)<=2
   omega
def bh:List Int->List Int->Bool
 |x::a,y::b=>if x=y then bh a b else decide (y<x)
 |_,_=>false
theorem yj2:∀A B:List Int,PyData.eqvAll (A.map PyData.int) (B.map PyData.int)=decide (A=B)
 |[],[]=>rfl
 |[],_::_=>rfl
 |_::_,[]=>rfl
 |a::A,b::B=>by
  show(PyData.eqv (.int a) (.int b)&&PyData.eqvAll (A.map PyData.int) (B.map PyData.int))=_
  rw [yj2 A B]
  show((a==b)&&decide (A=B))=_
  rw [Yl]
  simp
theorem yj3(A B:List Int):eqB (.tup (aX A)) (.tup (aX B))=some (decide (A=B)):=by
 have e:∀c:List Int,D.data (.tup (aX c))=some (.tuple (c.map PyData.int)):=fun c=>by rw [D.data,xX];rfl
 have c1:∀c:List Int,PyData.canLay0 (.tuple (c.map PyData.int))=true:=zi7
 have d:PyData.depth (.tuple (A.map PyData.int))<=60:=by
  show PyData.depthAll (A.map PyData.int)+1<=60
  rw [xY];decide
 have q:PyData.eqv (.tuple (A.map PyData.int)) (.tuple (B.map PyData.int))=decide (A=B):=yj2 A B
 show uL (.tup (aX A)) (.tup (aX B))=_
 unfold uL
 rw [e,e]
 show(if (PyData.canLay0 _&&PyData.canLay0 _&&decide (PyData.depth _<=60))=true then some (PyData.eqv _ _) else none)=_
 rw [c1,c1,Zo d,q];rfl
def pI:tz1:=fIf (aU (fB (f2 dNe (f2 dIx (aA 0) (aA 2)) (f2 dIx (aA 1) (aA 2))))) (bS (aI (f2 dGt (f2 dIx (aA 0) (aA 2)) (f2 dIx (aA 1) (aA 2))))) bN
abbrev yU:tz6:=gP 2 1 zg3
theorem yj4:∀(a b p q:List Int) (x2:Option D),p.length=q.length->∃z,(bh a b=false/\cT 2 pI (gD (p.length:Int) (min a.length b.length)) [some (.tup (aX (p++a))),some (.tup (aX (q++b))),x2]=some (.nx,z))\/cT 2 pI (gD (p.length:Int) (min a.length b.length)) [some (.tup (aX (p++a))),some (.tup (aX (q++b))),x2]=some (.ret (.bl (bh a b)),z)
 |[],b,p,q,x2,_=>by
  rw [show min ([]:List Int).length b.length=0 by simp]
  exact⟨_,.inl ⟨by rw [bh];simp,rfl⟩⟩
 |x::a,[],p,q,x2,_=>by
  rw [show min (x::a).length ([]:List Int).length=0 by simp]
  exact⟨_,.inl ⟨by rw [bh];simp,rfl⟩⟩
 | x::a,y::b,p,q,x2,h=>by
  rw [show min (x::a).length (y::b).length=min a.length b.length+1 by simp,yw8]
  have ga:atI (aX (p++x::a)) (p.length:Int)=some (.int x):=kU (by unfold aX;rw [Zd];simp)
  have gb:atI (aX (q++y::b)) (p.length:Int)=some (.int y):=kU (by unfold aX;rw [Zd,h];simp)
  have ia:f2 dIx (aA 0) (aA 2) [some (.tup (aX (p++x::a))),some (.tup (aX (q++y::b))),some (.int (p.length:Int))]=some (.int x):=aR rfl rfl ga
  have ib:f2 dIx (aA 1) (aA 2) [some (.tup (aX (p++x::a))),some (.tup (aX (q++y::b))),some (.int (p.length:Int))]=some (.int y):=aR rfl rfl gb
  have t1:fB (f2 dNe (f2 dIx (aA 0) (aA 2)) (f2 dIx (aA 1) (aA 2))) [some (.tup (aX (p++x::a))),some (.tup (aX (q++y::b))),some (.int (p.length:Int))]=some (!decide (x=y)):=eP (aR ia ib rfl)
  have st:∀Y,pI [some (.tup (aX (p++x::a))),some (.tup (aX (q++y::b))),some (.int (p.length:Int))]=some Y->cT 2 pI (.int (p.length:Int)::gD ((p.length+1:Nat):Int) (min a.length b.length)) [some (.tup (aX (p++x::a))),some (.tup (aX (q++y::b))),x2]=(match Y with
    |(.nx,p')=>cT 2 pI (gD ((p.length+1:Nat):Int) (min a.length b.length)) p'
    |(.ct,p')=>cT 2 pI (gD ((p.length+1:Nat):Int) (min a.length b.length)) p'
    |(.bk,p')=>some (.nx,p')
    |(.ret d,p')=>some (.ret d,p')):=fun Y hY=>by
   rw [cT]
   show((pI [some (.tup (aX (p++x::a))),some (.tup (aX (q++y::b))),some (.int (p.length:Int))]).bind _)=_
   rw [hY];rfl
  by_cases c:x=y
  ·subst c
   rw [Zo rfl] at t1
   obtain⟨z,hz⟩:=yj4 a b (p++[x]) (q++[x]) (some (.int (p.length:Int))) (by simp [h])
   rw [Z5,Zt,Zt] at hz
   have e:bh (x::a) (x::b)=bh a b:=by show(if x=x then bh a b else _)=_;rw [if_pos rfl]
   rw [e]
   refine⟨z,?_⟩
   rw [st _ (bD t1)]
   exact hz
  ·rw [Zh c] at t1
   have e:bh (x::a) (y::b)=decide (y<x):=by show(if x=y then bh a b else _)=_;rw [if_neg c]
   rw [e]
   exact⟨[some (.tup (aX (p++x::a))),some (.tup (aX (q++y::b))),some (.int (p.length:Int))],.inr (st _ ((bO t1).trans (cH (aR ia ib rfl))))⟩
theorem zn7(a b:List Int)(ha:a.length<=1000):yU [.tup (aX a),.tup (aX b)]=some (.bl (bh a b)):=by
 obtain⟨z,hz⟩:=yj4 a b [] [] none rfl
 rw [Y8,Y8] at hz
 have er:qF (aB (aH mP (aB (aH cW (aB (aA 0) aE)) (aB (aH cW (aB (aA 1) aE)) aE))) aE) [some (.tup (aX a)),some (.tup (aX b)),none]=some (gD 0 (min a.length b.length)):=by
  unfold qF
  rw [aD (d:= .int ((min a.length b.length:Nat):Int)) (aS (aD (aS (aD rfl rfl) rfl) (aD (aS (aD rfl rfl) rfl) rfl)) (by
   show some (D.int (if ((aX b).length:Int)<((aX a).length:Int) then((aX b).length:Int) else((aX a).length:Int)))=_
   rw [qZ,qZ]
   congr 2
   split<;>omega)) rfl,Z3]
  exact wb5 (j:=((min a.length b.length:Nat):Int)) (by omega) (by omega)
 have lp:∀Y,cT 2 pI (gD 0 (min a.length b.length)) [some (.tup (aX a)),some (.tup (aX b)),none]=Y->fV 2 (qF (aB (aH mP (aB (aH cW (aB (aA 0) aE)) (aB (aH cW (aB (aA 1) aE)) aE))) aE)) pI [some (.tup (aX a)),some (.tup (aX b)),none]=Y:=fun Y h=>by
  unfold fV
  rw [er];exact h
 rcases hz with ⟨h1,h2⟩|h2
 ·rw [h1]
  exact gF rfl ((aO (lp _ h2)).trans rfl)
 ·exact gF rfl (eA (lp _ h2))
theorem yj5:∀{a b:List Int},HT.lexLt a b=false->HT.lexLt b a=false->a=b
 |[],[],_,_=>rfl
 |[],_::_,h,_=>by cases h
 |_::_,[],_,h=>by cases h
 | x::a,y::b,h1,h2=>by
  have h1':(if x=y then HT.lexLt a b else decide (x<y))=false:=h1
  have h2':(if y=x then HT.lexLt b a else decide (y<x))=false:=h2
  by_cases e:x=y
  ·subst e
   rw [if_pos rfl] at h1' h2'
   rw [yj5 h1' h2']
  ·rw [if_neg e] at h1'
   rw [if_neg (fun z=>e z.symm)] at h2'
   have:=Y5 h1'
   have:=Y5 h2'
   omega
theorem wd1{x y:Way}(h1:nb x y)(h2:nb y x):x=y:=by
 rw [zn5] at h1 h2
 obtain⟨⟨a,b⟩,c⟩:=x
 obtain⟨⟨a',b'⟩,c'⟩:=y
 simp only at h1 h2
 have key:a=a'/\b=b'/\c=c':=by
  rcases h1 with h|⟨e1,h|⟨e2,h⟩⟩<;>rcases h2 with k|⟨f1,k|⟨f2,k⟩⟩
  all_goals first
   |omega
   |exact⟨e1,e2,yj5 k h⟩
 obtain⟨rfl,rfl,rfl⟩:=key
 rfl
theorem sX.tail{x:Int}{a b:List Int}(h:sX (x::a) (x::b)):sX a b:=⟨fun z e=>h.1 z (by rw [e];rfl),fun z e=>h.2 z (by rw [e];rfl)⟩
theorem yy0:∀{a b:List Int},sX a b->bh a b=HT.lexLt b a
 |[],[],_=>by rw [bh];rfl;simp
 |[],y::b,h=>by have:=h.1 (y::b) rfl;cases this
 |x::a,[],h=>by have:=h.2 (x::a) rfl;cases this
 | x::a,y::b,h=>by
  show(if x=y then bh a b else decide (y<x))=(if y=x then HT.lexLt b a else decide (y<x))
  by_cases c:x=y
  ·subst c
   rw [if_pos rfl,if_pos rfl]
   exact yy0 h.tail
  ·rw [if_neg c,if_neg (fun z=>c z.symm)]
theorem wk2(a b c d:Int):sX [a,b] [c,d]:=⟨fun x e=>by
 have:=ZK List.length e
 simp at this;exact this,fun x e=>by
 have:=ZK List.length e
 simp at this;exact this⟩
theorem wq0{x y:Way}(h:[x.1.1,x.1.2]≠[y.1.1,y.1.2]):ltW x y=bh [y.1.1,y.1.2] [x.1.1,x.1.2]:=by
 rw [yy0 (wk2 _ _ _ _)]
 show(if [x.1.1,x.1.2]=[y.1.1,y.1.2] then _ else HT.lexLt [x.1.1,x.1.2] [y.1.1,y.1.2])=_
 rw [if_neg h]
theorem wq1{x y:Way}(h:[x.1.1,x.1.2]=[y.1.1,y.1.2])(ha:sX y.2 x.2):ltW x y=bh y.2 x.2:=by
 rw [yy0 ha]
 show(if [x.1.1,x.1.2]=[y.1.1,y.1.2] then(if x.2=y.2 then _ else HT.lexLt x.2 y.2) else _)=_
 rw [if_pos h]
 by_cases c:x.2=y.2
 ·rw [if_pos c,c,wT];rfl
 ·rw [if_neg c]
abbrev xC:tz6:=gP 1 0 zo8
theorem xk7(i:Int):xC [.int i]=some (.bl true):=by
 refine gF rfl (cH ?_)
 unfold oN
 rw [aS (aD rfl (aD rfl rfl)) (ys3 i).1,Z3]
 unfold yy7
 show((aH mU (aB (aA 0) (aB (fC (.ty "bool")) aE)) [some (.int i)]).bind _)=_
 rw [aS (aD rfl (aD rfl rfl)) (ys3 i).2];rfl
abbrev xw7:tz6:=gP 1 1 (vQ xC)
theorem zz1(x:Option D):∀(C:List Int) (x1:Option D),∃z,cT 1 (fIf (aU (fA (fT (aH xC (aB (aA 1) aE))))) (bS (aI (fC (.bl false)))) bN) (aX C) [x,x1]=some (.nx,[x,z])
 |[],x1=>⟨x1,rfl⟩
 |c::C,x1=>by
  obtain⟨z,q⟩:=zz1 x C (some (.int c))
  refine⟨z,?_⟩
  show cT 1 _ (.int c::aX C) _=_
  rw [cT]
  show((fIf (aU (fA (fT (aH xC (aB (aA 1) aE))))) (bS (aI (fC (.bl false)))) bN [x,some (.int c)]).bind _)=_
  rw [bD (iC (b:=true) (mL (aS (aD rfl rfl) (xk7 c))))]
  exact q
theorem wd2(C:List Int):xw7 [.tup (aX C)]=some (.bl true):=by
 obtain⟨z,q⟩:=zz1 (some (.tup (aX C))) C none
 have lp:fV 1 (cP (aA 0)) (fIf (aU (fA (fT (aH xC (aB (aA 1) aE))))) (bS (aI (fC (.bl false)))) bN) [some (.tup (aX C)),none]=some (.nx,[some (.tup (aX C)),z]):=q
 exact gF rfl ((aO (bD (iC (b:=true) (mL (aS (aD rfl (aD rfl rfl)) (ys4 _)))))).trans ((aO lp).trans rfl))
def nnW(x:Way):List (List Int):=[[x.1.1,x.1.2],x.2]
theorem za7:∀F:Frt,D.intsss (dU F)=some (F.map fun q=>nnW q.2)
 |[]=>rfl
 |q::F=>by
  show(D.intss [.tup [.int q.2.1.1,.int q.2.1.2],.tup (aX q.2.2)]).bind (fun n=>(D.intsss (dU F)).map (n::·))=_
  rw [za7 F]
  have:D.intss [.tup [.int q.2.1.1,.int q.2.1.2],.tup (aX q.2.2)]=some (nnW q.2):=by simp [D.intss,D.ints,za1,nnW]
  rw [this];rfl
theorem zn8{F:Frt}:∀k:Nat,k<F.length->∃q,F[PySem.argBest (ltN (F.map fun q=>nnW q.2)) k]? =some q/\∀i x,i<=k->F[i]? =some x->nb q.2 x.2
 |0,h=>by
  obtain⟨q,hq⟩:∃q,F[0]? =some q:=⟨F[0],by simp⟩
  refine⟨q,hq,fun i x hi hx=> ?_⟩
  have:i=0:=by omega
  subst this
  rw [hq] at hx
  cases hx
  exact wU _
 | k+1,h=>by
  obtain⟨q,hq,hn⟩:=zn8 (F:=F) k (by omega)
  obtain⟨y,hy⟩:∃y,F[k+1]? =some y:=⟨F[k+1],by simp [h]⟩
  have e:ltN (F.map fun q=>nnW q.2) (k+1) (PySem.argBest (ltN (F.map fun q=>nnW q.2)) k)=ltW y.2 q.2:=by
   generalize PySem.argBest (ltN (F.map fun q=>nnW q.2)) k=z at hq
   unfold ltN
   rw [YM,YM,Zd,Zd,hy,hq];rfl
  rw [PySem.argBest,e]
  by_cases c:ltW y.2 q.2=true
  ·rw [if_pos c]
   refine⟨y,hy,fun i x hi hx=> ?_⟩
   by_cases z:i=k+1
   ·subst z
    rw [hy] at hx
    cases hx
    exact wU _
   ·exact zi6 (yj1 c) (hn i x (by omega) hx)
  ·rw [if_neg c]
   refine⟨q,hq,fun i x hi hx=> ?_⟩
   by_cases z:i=k+1
   ·subst z
    rw [hy] at hx
    cases hx
    unfold nb
    rwa [YA] at c
   ·exact hn i x (by omega) hx
abbrev yl5:tz6:=gP 1 0 sF
theorem wd3{W:Int}{F:Frt}(h:F≠[]):∃q∈F,(∀x∈F,nb q.2 x.2)/\yl5 [aK false W F]=some (.tup (aX q.2.2)):=by
 have hl:0<F.length:=List.length_pos_iff.mpr h
 obtain⟨q,hq,hn⟩:=zn8 (F:=F) (F.length-1) (by omega)
 refine⟨q,ZM hq,fun x hx=> ?_,?_⟩
 ·obtain⟨i,hi,e⟩:=List.mem_iff_getElem.mp hx
  exact hn i x (by omega) (by simp [hi,e])
 ·have fb:cL "Front" "best" (aA 0) [some (aK false W F)]=some (.dic false (dG F) (dU F)):=xW rfl
  have t:fTK (cL "Front" "best" (aA 0)) [some (aK false W F)]=some true:=by
   unfold fTK
   rw [fb]
   show some (!(dG F).isEmpty)=_
   cases F with
   |nil=>exact absurd rfl h
   |cons q F=>rfl
  have m:yc1 (cL "Front" "best" (aA 0)) [some (aK false W F)]=some (wyD q.2):=by
   unfold yc1
   rw [fb]
   show(D.intsss (dU F)).bind _=_
   rw [za7,Z3]
   show(dU F)[PySem.argBest (ltN (F.map fun q=>nnW q.2)) ((F.map fun q=>nnW q.2).length-1)]? =_
   rw [Z8]
   unfold dU
   rw [Zd,hq];rfl
  exact jO rfl (cY (bD (iC t)) ⟨_,cH (aR (bW m (uI _)) rfl (iF _ _ _))⟩)
abbrev yl6:List D->Bool:=gX 1 0 rJ
theorem xs9(W:Int):yl6 [aK false W []]=true:=rfl
abbrev yl7(n m:Nat):tz6:=gP 2 1 (zb3 yl5 (qA n) uT (yk6 m))
theorem xt0{W:Int}{n m:Nat}{r:List Pc}(hW0:0<=W)(hW1:W<=40)(hd:depR r<n)(hdm:depR r<m)(h8:depR r<=16)(ho:okR r)(hl:(toksR r).length<=800)(hne:dN W n r≠[]):
  ∃q∈dN W n r,(∀x∈dN W n r,nb q.2 x.2)/\∃t,setR true 0 r q.2.2 ⟨#[]⟩=some ([],t)/\uR W t q.1 q.2.1.1 q.2.1.2/\yl7 n m [.tup (pcsD r),.int W]=some (.tup [.str t,.tup (aX q.2.2)]):=by
 have g:Good W (fun cs t=>setR true 0 r cs ⟨#[]⟩=some ([],t)) (dN W n r):=xT (n:=n) hW0 hd ho (by omega)
 obtain⟨q,hq,hn,e⟩:=wd3 (W:=W) hne
 obtain⟨t,hs,hc⟩:=g.hit q hq
 refine⟨q,hq,hn,t,hs,hc,?_⟩
 have s1:aW 2 (aI (aH yl5 (aB (aH (qA n) (aB (jQ (aH uT (aB (aA 1) aE))) (aB (aA 0) aE))) aE))) [some (.tup (pcsD r)),some (.int W),none]=some (.nx,[some (.tup (pcsD r)),some (.int W),some (.tup (aX q.2.2))]):=
  bH (aS (aD (aS (aD (wS (aS (aD rfl rfl) (zi4 hW0))) (aD rfl rfl)) (za5 hW0 hW1 hd h8 ho hl)) rfl) e)
 have im:=gV q.2.2
 exact jO rfl (cY s1 ⟨_,cH (eZ (aD (aS (aD rfl (aD rfl rfl)) (zx9 hdm h8 ho hl hs)) (aD (bW (d:= .tup (aX q.2.2)) rfl im) rfl)) (by simp [D.imms,D.imm,im]) (by simp))⟩)
abbrev ys6(n:Nat):List D->Bool:=gX 2 1 (zE yl6 (qA n) uT)
theorem xk8{W:Int}{n:Nat}{r:List Pc}(hW0:0<=W)(hW1:W<=40)(hd:depR r<n)(h8:depR r<=16)(ho:okR r)(hl:(toksR r).length<=800)(he:dN W n r=[]):ys6 n [.tup (pcsD r),.int W]=true:=by
 have q:=za5 hW0 hW1 hd h8 ho hl
 rw [he] at q
 have e:aB (aH (qA n) (aB (jQ (aH uT (aB (aA 1) aE))) (aB (aA 0) aE))) aE [some (.tup (pcsD r)),some (.int W),none]=some [aK false W []]:=aD (aS (aD (wS (aS (aD rfl rfl) (zi4 hW0))) (aD rfl rfl)) q) rfl
 show yk0 yl6 _ [some (.tup (pcsD r)),some (.int W),none]=true
 unfold yk0
 rw [e]
 exact xs9 W
theorem zi8(q:Nat×Way):(bJ q).imm=true:=by
 have:=gV q.2.2
 simp [bJ,D.imm,D.imms,this]
theorem zt4:∀A:Frt,D.imms (A.map bJ)=true
 |[]=>rfl
 |q::A=>by
  show((bJ q).imm&&D.imms (A.map bJ))=true
  rw [zt4 A,zi8];rfl
theorem zt5{p:PSt}{i:Nat}{q:Nat×Way}(h:aA i p=some (bJ q)):f2 dIx (aA i) (fC (.int 0)) p=some (.int (q.1:Int))/\f2 dIx (aA i) (fC (.int 3)) p=some (.tup (aX q.2.2))/\cK (aB (aY (f2 dIx (aA i) (fC (.int 1)))) (aB (aY (f2 dIx (aA i) (fC (.int 2)))) aE)) p=some (.tup (aX [q.2.1.1,q.2.1.2])):=by
 have ix:∀(j:Nat) (d:D),([.int (q.1:Int),.int q.2.1.1,.int q.2.1.2,.tup (aX q.2.2)]:List D)[j]? =some d->f2 dIx (aA i) (fC (.int (j:Int))) p=some d:=fun j d e=>aR h rfl (kU e)
 exact⟨ix 0 _ rfl,ix 3 _ rfl,eZ (aD (bW (ix 1 _ rfl) rfl) (aD (bW (ix 2 _ rfl) rfl) rfl)) rfl (Za rfl)⟩
def zq0:tz1:=fIf (aU (fB (f2 dNe (cK (aB (aY (f2 dIx (aA 4) (fC (.int 1)))) (aB (aY (f2 dIx (aA 4) (fC (.int 2)))) aE))) (cK (aB (aY (f2 dIx (aA 3) (fC (.int 1)))) (aB (aY (f2 dIx (aA 3) (fC (.int 2)))) aE))))))
   (fIf (aU (fT (aH yU (aB (cK (aB (aY (f2 dIx (aA 3) (fC (.int 1)))) (aB (aY (f2 dIx (aA 3) (fC (.int 2)))) aE))) (aB (cK (aB (aY (f2 dIx (aA 4) (fC (.int 1)))) (aB (aY (f2 dIx (aA 4) (fC (.int 2)))) aE))) aE)))))
   (aW 3 (aI (aY (aA 4))))
   bN)
   (fIf (aU (fT (aH yU (aB (f2 dIx (aA 3) (fC (.int 3))) (aB (f2 dIx (aA 4) (fC (.int 3))) aE)))))
   (aW 3 (aI (aY (aA 4))))
   bN)
theorem yy1{x0 x1 x2 x5:Option D}{g y:Nat×Way}(ha:sX y.2.2 g.2.2)(hy:y.2.2.length<=1000):zq0 [x0,x1,x2,some (bJ y),some (bJ g),x5]=some (.nx,[x0,x1,x2,some (bJ (if ltW g.2 y.2=true then g else y)),some (bJ g),x5]):=by
 obtain⟨a0,a3,ap⟩:=zt5 (p:=[x0,x1,x2,some (bJ y),some (bJ g),x5]) (i:=4) (q:=g) rfl
 obtain⟨b0,b3,bp⟩:=zt5 (p:=[x0,x1,x2,some (bJ y),some (bJ g),x5]) (i:=3) (q:=y) rfl
 have st:aW 3 (aI (aY (aA 4))) [x0,x1,x2,some (bJ y),some (bJ g),x5]=some (.nx,[x0,x1,x2,some (bJ g),some (bJ g),x5]):=bH (bW (d:=bJ g) rfl (zi8 g))
 have t1:=eP (aR (g:=dNe) ap bp (d:= .bl (!decide ([g.2.1.1,g.2.1.2]=[y.2.1.1,y.2.1.2]))) (by unfold dNe;rw [yj3];rfl))
 have fin:∀{c:tz4},c [x0,x1,x2,some (bJ y),some (bJ g),x5]=some (ltW g.2 y.2)->fIf (aU c) (aW 3 (aI (aY (aA 4)))) bN [x0,x1,x2,some (bJ y),some (bJ g),x5]=some (.nx,[x0,x1,x2,some (bJ (if ltW g.2 y.2=true then g else y)),some (bJ g),x5]):=fun {c} l=>by
  by_cases z:ltW g.2 y.2=true
  ·rw [z] at l
   rw [if_pos z]
   exact(bO l).trans st
  ·rw [YA] at z
   rw [z] at l
   rw [if_neg (by rw [z];exact Zb)]
   exact bD l
 by_cases c:[g.2.1.1,g.2.1.2]=[y.2.1.1,y.2.1.2]
 ·rw [Zo c] at t1
  have l:=mL (aS (aD b3 (aD (g:=aE) a3 rfl)) (zn7 y.2.2 g.2.2 hy))
  rw [<-wq1 c ha] at l
  exact(fU (dR t1)).trans (fin l)
 ·rw [Zh c] at t1
  have l:=mL (aS (aD bp (aD (g:=aE) ap rfl)) (zn7 [y.2.1.1,y.2.1.2] [g.2.1.1,g.2.1.2] (Za rfl)))
  rw [<-wq0 c] at l
  exact(bO t1).trans (fin l)
theorem zn9{x0 x1 x2 x5:Option D}{R:List Int->Prop}(hR:∀a b,R a->R b->sX a b)(hR1:∀a,R a->a.length<=1000):∀(Q:List (Nat×Way)) (y:Nat×Way) (x4:Option D),R y.2.2->(∀q∈Q,R q.2.2)->
  ∃(b:Nat×Way) (y4:Option D),cT 4 zq0 (Q.map bJ) [x0,x1,x2,some (bJ y),x4,x5]=some (.nx,[x0,x1,x2,some (bJ b),y4,x5])/\(b=y\/b∈Q)/\nb b.2 y.2/\∀q∈Q,nb b.2 q.2
 |[],y,x4,_,_=>⟨y,x4,rfl,.inl rfl,wU _,fun q h=>absurd h Zm⟩
 | g ::Q,y,x4,hy,hQ=>by
  have hg:=hQ g Z0
  have e:=yy1 (x0:=x0) (x1:=x1) (x2:=x2) (x5:=x5) (hR _ _ hy hg) (hR1 _ hy)
  obtain⟨b,y4,e2,h1,h2,h3⟩:=zn9 (x0:=x0) (x1:=x1) (x2:=x2) (x5:=x5) hR hR1 Q (if ltW g.2 y.2=true then g else y) (some (bJ g)) (by split<;>assumption) (fun q hq=>hQ q (Z1 _ hq))
  refine⟨b,y4,?_,?_,?_,?_⟩
  ·show cT 4 zq0 (bJ g::Q.map bJ) _=_
   rw [cT]
   show((zq0 [x0,x1,x2,some (bJ y),some (bJ g),x5]).bind _)=_
   rw [e]
   exact e2
  ·rcases h1 with z|z
   ·rw [z]
    split
    ·exact .inr Z0
    ·exact .inl rfl
   ·exact .inr (Z1 _ z)
  ·refine zi6 h2 ?_
   split
   ·rename_i c;exact yj1 c
   ·exact wU _
  ·intro q hq
   rcases Z2.mp hq with z|z
   ·rw [z]
    refine zi6 h2 ?_
    split
    ·exact wU _
    ·rename_i c
     unfold nb
     rwa [YA] at c
   ·exact h3 q z
abbrev xw8(n:Nat):tz6:=gP 2 2 (zb7 (ys6 n))
theorem wd4{W:Int}{n:Nat}{r:List Pc}(hW0:0<=W)(hW1:W<=40)(hd:depR r<n)(h8:depR r<=16)(ho:okR r)(hl:(toksR r).length<=800)(he:dN W n r=[]):xw8 n [.tup (pcsD r),.int W]=some (.bl true):=by
 have q:=xk8 hW0 hW1 hd h8 ho hl he
 have s1:aW 2 (aI (fC .non)) [some (.tup (pcsD r)),some (.int W),none,none]=some (.nx,[some (.tup (pcsD r)),some (.int W),some .non,none]):=rfl
 refine jO rfl (cY s1 ?_)
 unfold xu3
 rw [aD (d:= .tup (pcsD r)) rfl (aD (d:= .int W) rfl (show aE _=some [] from rfl))]
 simp only [Z3,q,Y9]
 exact⟨_,rfl⟩
theorem xk9{f g:tz2}{p:PSt}{d:D}(h:f p=some (.bl true))(h2:g p=some d):oN f g p=some d:=by unfold oN;rw [h];exact h2
theorem wd5{x0 x1 x3 x4 x5:Option D}(y:Nat×Way)(Q:List (Nat×Way)):cP (fSl (aA 2) (jP (fC (.int 1))) gB) [x0,x1,some (.lst true ((y::Q).map bJ)),x3,x4,x5]=some (Q.map bJ):=by
 have e:fSl (aA 2) (jP (fC (.int 1))) gB [x0,x1,some (.lst true ((y::Q).map bJ)),x3,x4,x5]=some (.lst true (Q.map bJ)):=by
  show(if D.imms ((y::Q).map bJ)=true then some (D.lst true (L2.yj6 ((y::Q).map bJ) (some ((1:Nat):Int)) none)) else none)=_
  rw [if_pos (zt4 _)]
  unfold L2.yj6
  rw [HT.sIx_nat,HT.sIx_none,Z8,Z6,show min 1 (Q.length+1)=1 by omega]
  show some (D.lst true ((Q.map bJ).take (Q.length+1-1)))=_
  rw [XZ (by rw [Z8];omega)]
 unfold cP
 rw [e]
 exact if_pos (zt4 Q)
theorem yy2{x:PSt}{i:Nat}{t:Str}(h:aA i x=some (.str t))(hl:t.length<=900000):∃M:Int,aH ze5 (aB (iD [none] (cP (fMt mZ (aA i) (aB (fC (.str "\n")) aE))) iG (aH cW (aB (aA 0) aE))) aE) x=some (.int M):=by
 have hs:sizeLine=16777216:=Y2
 obtain⟨hy,hn⟩:=ys1 t
 obtain⟨M,hm⟩:=zy9 (ns:=(lns t).map fun y=>(y.length:Int)) (by simpa using za2 t)
 have e2:iD [none] (cP (fMt mZ (aA i) (aB (fC (.str "\n")) aE))) iG (aH cW (aB (aA 0) aE)) x=some (.lst true (aX ((lns t).map fun y=>(y.length:Int)))):=by
  have sp:=yj0 (f:=aA i) (p:=x) (t:=t) h hl
  unfold iD cP
  rw [sp,Z3,show lC (.lst true (L2.eI (lns t)))=some (L2.eI (lns t)) from if_pos (za6 _),Z3]
  rw [if_pos (by unfold L2.eI;rw [Z8];omega)]
  show(gO [none] iG (aH cW (aB (aA 0) aE)) (L2.eI (lns t))).bind _=_
  rw [zi5 _ fun y h=>Zv (hy y h) hl];rfl
 refine⟨M,aS (aD e2 rfl) ?_⟩
 show(D.ints (aX _)).bind _=_
 rw [za1,Z3,hm];rfl
abbrev zq1(n m:Nat):tz6:=gP 2 4 (zp1 (yl0 n) (xw8 n) yU (yl7 n m) xw7 (yk6 m))
theorem wk3(Q:List (Nat×Way)):dEq (.lst true (Q.map bJ)) (.lst true [])=some (.bl Q.isEmpty):=by
 obtain⟨ps,b1,b2,b3⟩:=zn6 Q
 have e:eqB (.lst true (Q.map bJ)) (.lst true [])=some Q.isEmpty:=by
  show uL (.lst true (Q.map bJ)) (.lst true [])=_
  unfold uL
  rw [D.data,b1]
  show(if (PyData.canLay0 (.list ps)&&PyData.canLay0 (.list [])&&decide (PyData.depth (.list ps)<=60))=true then some (PyData.eqv (.list ps) (.list [])) else none)=_
  rw [show PyData.canLay0 (.list ps)=true from b2,Zo (show PyData.depth (.list ps)<=60 by show PyData.depthAll ps+1<=60;omega)]
  show some (PyData.eqvAll ps [])=_
  cases Q with
  |nil=>
   have:D.datas ([]:List D)=some ps:=b1
   cases this
   rfl
  | cons q Q=>
   cases ps with
   |nil=>
    obtain⟨p,a1,_,_⟩:=zz0 q
    have h:((bJ q).data).bind (fun p=>(D.datas (Q.map bJ)).map (p::·))=some []:=b1
    rw [a1,Z3] at h
    cases hd:D.datas (Q.map bJ)<;>rw [hd] at h<;>simp at h
   |cons p ps=>rfl
 unfold dEq
 rw [e];rfl
theorem wq2(C:List Int):dEq (.tup (aX C)) (.tup (aX C))=some (.bl true):=by
 unfold dEq
 rw [yj3,Zo rfl];rfl
theorem xt1{W:Int}{n m:Nat}{r:List Pc}(hW0:0<=W)(hW1:W<=40)(hd:depR r<n)(hdm:depR r<m)(h8:depR r<=16)(ho:okR r)(hl:(toksR r).length<=800):zq1 n m [.tup (pcsD r),.int W]=some (.bl true):=by
 have qr:=xr6 (W:=W) (n:=n) (r:=r) hW0 hW1 hd h8 ho hl
 have gd:Good W (fun cs t=>setR true 0 r cs ⟨#[]⟩=some ([],t)) (dN W n r):=xT (n:=n) hW0 hd ho (by omega)
 have hm:∀q,q∈rdL (dN W n r)↔q∈dN W n r:=fun q=>wc3 gd.nd
 have hR:∀a b,(∃t,setR true 0 r a ⟨#[]⟩=some ([],t))->(∃t,setR true 0 r b ⟨#[]⟩=some ([],t))->sX a b:=fun a b ⟨s,ha⟩ ⟨t,hb⟩=>by
  refine⟨fun x e=> ?_,fun x e=> ?_⟩
  ·subst e
   rw [setR_more x ha] at hb
   simpa using ZK (fun o=>o.map Prod.fst) hb
  ·subst e
   rw [setR_more x hb] at ha
   simpa using ZK (fun o=>o.map Prod.fst) ha
 have hR1:∀a,(∃t,setR true 0 r a ⟨#[]⟩=some ([],t))->a.length<=1000:=fun a ⟨s,ha⟩=>by
  have:=setR_len ha
  simp at this
  omega
 have hQR:∀q∈rdL (dN W n r),∃t,setR true 0 r q.2.2 ⟨#[]⟩=some ([],t):=fun q hq=>by
  obtain⟨t,e,_⟩:=gd.hit q ((hm q).mp hq)
  exact⟨t,e⟩
 have hQl:(rdL (dN W n r)).length<=60:=by
  have:=gd.len hW1
  unfold rdL
  refine Zv (List.length_filterMap_le _ _) ?_
  rw [(Yf _).length_eq]
  unfold qN
  rw [Z8];omega
 generalize hQ:rdL (dN W n r)=Q at qr hm hQR hQl
 have s1:aW 2 (aI (aH (yl0 n) (aB (aA 0) (aB (aA 1) aE)))) [some (.tup (pcsD r)),some (.int W),none,none,none,none]=some (.nx,[some (.tup (pcsD r)),some (.int W),some (.lst true (Q.map bJ)),none,none,none]):=bH (aS (aD rfl (aD rfl rfl)) qr)
 have t1:fB (f2 dEq (aA 2) (cV aE)) [some (.tup (pcsD r)),some (.int W),some (.lst true (Q.map bJ)),none,none,none]=some Q.isEmpty:=eP (aR (y:= .lst true []) rfl rfl (wk3 Q))
 cases Q with
 | nil=>
  have he:dN W n r=[]:=by
   cases e:dN W n r with
   |nil=>rfl
   |cons q F=>have:=(hm q).mpr (by rw [e];exact Z0);cases this
  exact jO rfl (cY s1 (zn0 ⟨_,(bO t1).trans (cH (aS (aD rfl (aD rfl rfl)) (wd4 hW0 hW1 hd h8 ho hl he)))⟩))
 | cons y Q=>
  have hne:dN W n r≠[]:=fun e=>by
   have:=(hm y).mp Z0
   rw [e] at this;cases this
  obtain⟨q,hq,hn,t,hs,hc,qp⟩:=xt0 hW0 hW1 hd hdm h8 ho hl hne
  have s3:aW 3 (aI (aY (f2 dIx (aA 2) (fC (.int 0))))) [some (.tup (pcsD r)),some (.int W),some (.lst true ((y::Q).map bJ)),none,none,none]=some (.nx,[some (.tup (pcsD r)),some (.int W),some (.lst true ((y::Q).map bJ)),some (bJ y),none,none]):=bH (bW (aR (x:= .lst true ((y::Q).map bJ)) rfl rfl (kZ _ _)) (zi8 y))
  obtain⟨b,y4,lp,hb,hby,hbn⟩:=zn9 (x0:=some (.tup (pcsD r))) (x1:=some (.int W)) (x2:=some (.lst true ((y::Q).map bJ))) (x5:=none) hR hR1 Q y none (hQR y Z0) (fun q hq=>hQR q (Z1 _ hq))
  have sl:cP (fSl (aA 2) (jP (fC (.int 1))) gB) [some (.tup (pcsD r)),some (.int W),some (.lst true ((y::Q).map bJ)),some (bJ y),none,none]=some (Q.map bJ):=wd5 y Q
  have s4:=tL sl lp
  have bm:b∈dN W n r:=(hm b).mp (by
   rcases hb with z|z
   ·rw [z];exact Z0
   ·exact Z1 _ z)
  have e1:nb b.2 q.2:=by
   rcases Z2.mp ((hm q).mpr hq) with z|z
   ·rw [z];exact hby
   ·exact hbn q z
  have e2:b.2=q.2:=wd1 e1 (hn b bm)
  have s5:aW 5 (aI (aH (yl7 n m) (aB (aA 0) (aB (aA 1) aE)))) [some (.tup (pcsD r)),some (.int W),some (.lst true ((y::Q).map bJ)),some (bJ b),y4,none]=some (.nx,[some (.tup (pcsD r)),some (.int W),some (.lst true ((y::Q).map bJ)),some (bJ b),y4,some (.tup [.str t,.tup (aX q.2.2)])]):=bH (aS (aD rfl (aD rfl rfl)) qp)
  refine jO rfl (cY s1 (cY (bD t1) (cY s3 (cY s4 (cY s5 ?_)))))
  generalize hp:[some (D.tup (pcsD r)),some (D.int W),some (D.lst true ((y::Q).map bJ)),some (bJ b),y4,some (D.tup [.str t,.tup (aX q.2.2)])]=p
  have v0:aA 0 p=some (.tup (pcsD r)):=by rw [<-hp];rfl
  have v3:aA 3 p=some (bJ b):=by rw [<-hp];rfl
  have v5:aA 5 p=some (.tup [.str t,.tup (aX q.2.2)]):=by rw [<-hp];rfl
  have i0:f2 dIx (aA 5) (fC (.int 0)) p=some (.str t):=aR v5 rfl (kZ _ _)
  have i1:f2 dIx (aA 5) (fC (.int 1)) p=some (.tup (aX q.2.2)):=aR v5 rfl (iF _ _ _)
  have b3:f2 dIx (aA 3) (fC (.int 3)) p=some (.tup (aX q.2.2)):=by rw [<-e2];exact(zt5 v3).2.1
  have k1:fT (aH mU (aB (aA 5) (aB (fC (.ty "tuple")) aE))) p=some true:=mL (aS (aD v5 (aD rfl rfl)) (ys4 _))
  have k2:fB (f2 dNe (aH cW (aB (aA 5) aE)) (fC (.int 2))) p=some false:=eP (aR (x:= .int 2) (aS (aD v5 rfl) rfl) rfl rfl)
  have k3:fT (aH mU (aB (f2 dIx (aA 5) (fC (.int 0))) (aB (fC (.ty "str")) aE))) p=some true:=mL (aS (aD i0 (aD rfl rfl)) (by simp [mU,dTy,yF]))
  refine cY (bD (zd2 (iC k1) (zd2 k2 (iC k3)))) ⟨_,cH (xk9 (aS (aD i1 rfl) (wd2 _)) (xk9 (aR i1 b3 (wq2 _)) (aR i0 (aS (aD v0 (aD b3 rfl)) (zx9 hdm h8 ho hl hs)) ?_)))⟩
  show some (D.bl (decide (t=t)))=_
  rw [Zo rfl]
section
variable{GM GC:tz6}{S:D}
def zc1(GR:tz6):tz1:=fIf (aU (fA (fT (aH GR (aB (aA 1) (aB (aH mP (aB (fC (.int 40)) (aB (aH qE (aB (fC (.int 1)) (aB (aA 4) aE))) aE))) aE)))))) (bS (aI (fC (.bl false)))) bN
theorem xl0{GR:tz6}{R:D}(hb:∀W:Int,1<=W->W<=40->GR [R,.int W]=some (.bl true)){x0 x2 x3:Option D}:∀(js:List Int) (x4:Option D),∃z,cT 4 (zc1 GR) (js.map .int) [x0,some R,x2,x3,x4]=some (.nx,z)
 |[],_=>⟨_,rfl⟩
 | j::js,x4=>by
  obtain⟨z,e⟩:=xl0 hb (x0:=x0) (x2:=x2) (x3:=x3) js (some (.int j))
  refine⟨z,?_⟩
  show cT 4 (zc1 GR) (.int j::js.map .int) _=_
  rw [cT]
  show((zc1 GR [x0,some R,x2,x3,some (.int j)]).bind _)=_
  obtain⟨W,w0,w1,hw⟩:∃W:Int,1<=W/\W<=40/\aH mP (aB (fC (.int 40)) (aB (aH qE (aB (fC (.int 1)) (aB (aA 4) aE))) aE)) [x0,some R,x2,x3,some (.int j)]=some (.int W):=by
   refine⟨_,?_,?_,aS (aD rfl (aD (aS (aD rfl (aD rfl rfl)) rfl) rfl)) rfl⟩
   ·split<;>split<;>omega
   ·split<;>omega
  rw [show zc1 GR [x0,some R,x2,x3,some (.int j)]=some (.nx,[x0,some R,x2,x3,some (.int j)]) from bD (iC (b:=true) (mL (aS (aD rfl (aD hw rfl)) (hb W w0 w1))))]
  exact e
abbrev wn3(k1 k2 k3:Nat)(GM GC:tz6):tz6:=gP 1 4 (xl4 (xu7 GM zp9) GM (yl3 (sW (yS GM GC) k1)) (yl4 GM) (zq1 k2 k3))
theorem yy3{k1 k2 k3:Nat}(hk1:12<k1)(hk2:12<k2)(hk3:12<k3)(hS:S.imm=true)(hM:∀j s:Int,0<=j->j<1000->0<=s->s<1000->∃a,GM [S,.int j,.int s]=some (.int a)/\0<=a)(hC:∀j:Int,0<=j->j<1000->∃a,GC [S,.int j]=some (.int a)):wn3 k1 k2 k3 GM GC [S]=some (.bl true):=by
 obtain⟨a,qa,ha⟩:=hM 0 51 (by decide) (by decide) (by decide) (by decide)
 have m0:=ZE a (show(25:Int)≠0 by decide)
 have m1:=Zz a (show(0:Int)<25 by decide)
 obtain⟨mr,hmr⟩:∃mr:Nat,a % 25=(mr:Int):=⟨(a % 25).toNat,by omega⟩
 obtain⟨r,q0,hr⟩:=wk0 (GM:=GM) (GL:=zp9) (S:=S) (nest:=3) (a:=8) (many:=mr) (fun m hm=>wd0 hm) (fun j s hj hs=>hM j s (by omega) (by omega) (by omega) (by omega)) (by decide) (by omega) (by decide)
 have s1:aW 1 (aI (aH (xu7 GM zp9) (aB (aA 0) (aB (fC (.int 8)) (aB (f2 dX (aH GM (aB (aA 0) (aB (fC (.int 0)) (aB (fC (.int 51)) aE)))) (fC (.int 25))) (aB (fC (.int 3)) aE)))))) [some S,none,none,none,none]=some (.nx,[some S,some (.tup (pcsD r)),none,none,none]):=by
  refine bH (aS (ds:=[S,.int ((8:Nat):Int),.int (mr:Int),.int ((3:Nat):Int)]) (aD rfl (aD rfl (aD ?_ (aD rfl rfl)))) q0)
  refine aR (aS (aD rfl (aD rfl (aD rfl rfl))) qa) rfl ?_
  rw [<-hmr]
  exact(dC _ _).trans (if_pos (by decide))
 have hdr:zf2 S (yS GM GC):=fun t cs n many salt h1 h2 h3 h4 h5=>wc4 hM hC h1 h2 h3 h4 h5
 have hd3:depR r<=3:=hr.dep
 have l8:(toksR r).length<=800:=Zv hr.len (by omega)
 obtain⟨C,t,qd,hs,_,ht,_⟩:=xs4 (salt:=1) hS (yr5 hS hdr k1 r (by omega) hr.ok) (by omega) (by omega) (by decide) (by decide)
 obtain⟨W,qw,w0,w1⟩:=xs7 (GM:=GM) (S:=S) hM ht
 have s2:aW 2 (aI (f2 dIx (aH (yl3 (sW (yS GM GC) k1)) (aB (aA 0) (aB (aA 1) (aB (fC (.int 1)) aE)))) (fC (.int 0)))) [some S,some (.tup (pcsD r)),none,none,none]=some (.nx,[some S,some (.tup (pcsD r)),some (.str t),none,none]):=bH (aR (aS (aD rfl (aD rfl (aD rfl rfl))) qd) rfl (kZ _ _))
 obtain⟨k,hk⟩:=yy2 (x:=[some S,some (.tup (pcsD r)),some (.str t),none,none]) (i:=2) (t:=t) rfl ht
 have s3:=bH (i:=3) hk
 obtain⟨z,lp⟩:=xl0 (GR:=zq1 k2 k3) (R:= .tup (pcsD r)) (x0:=some S) (x2:=some (.str t)) (x3:=some (.int k)) (fun W h0 h1=>xt1 (by omega) h1 (by omega) (by omega) (by omega) hr.ok l8) [W,k,k-1] none
 have s4:fV 4 (cP (cV (aB (aH (yl4 GM) (aB (aA 0) (aB (aA 2) aE))) (aB (aY (aA 3)) (aB (f2 lB (aA 3) (fC (.int 1))) aE))))) (zc1 (zq1 k2 k3)) [some S,some (.tup (pcsD r)),some (.str t),some (.int k),none]=some (.nx,z):=by
  refine tL (ds:=[.int W,.int k,.int (k-1)]) ?_ lp
  unfold cP
  rw [fO (aD (aS (aD rfl (aD rfl rfl)) qw) (aD (bW (d:= .int k) rfl rfl) (aD (aR rfl rfl rfl) (show aE _=some [] from rfl)))) (Za rfl)]
  rfl
 exact jO rfl (cY s1 (cY s2 (cY s3 (cY s4 ⟨_,cH rfl⟩))))
end
end My
namespace My
open PySem PySem.Spec PyProof.Rows L2 L3
variable{P:Program}{w:World}{K:tz0}{mg:tzA}{base:Heap}{U:tz9}
abbrev zc2:List D->Option (List Int):=D.ints
theorem xZ:∀ns:List Int,zc2 (ns.map .int)=some ns
 |[]=>rfl
 |n::ns=>by show(D.ints (ns.map .int)).map (n::·)=_;rw [show D.ints (ns.map .int)=some ns from xZ ns];rfl
def yz6:tz6
 |[.con xs,.int k,.int s]=>match zc2 xs with
  |some ns=>if ns.length<=63/\(0<=k/\k<1000000)/\(0<=s/\s<1000000) then some (.int (yJ ns k s)) else none
  |none=>none
 |_=>none
theorem xt2{ns:List Int}(h:ns.length<=63)(k s:Int)(hk:0<=k)(hk1:k<1000)(hs:0<=s)(hs1:s<1000):∃m,yz6 [.con (ns.map .int),.int k,.int s]=some (.int m)/\0<=m:=by
 refine⟨yJ ns k s,?_,(ym6 ns k s).1⟩
 show(match zc2 (ns.map .int) with|some ns=>if ns.length<=63/\(0<=k/\k<1000000)/\(0<=s/\s<1000000) then some (D.int (yJ ns k s)) else none|none=>none)=_
 rw [xZ]
 exact if_pos ⟨h,⟨hk,by omega⟩,hs,by omega⟩
theorem ws6{k:Nat}{f:Addr}{fd:FuncData}{ps:List Str}(F:FnOk P w K mg base CX0 k f fd ps (ys5 K)):FnOk P w K mg base CX0 k f fd ps (SpP 3 K U yz6):=by
 refine F.imp fun vs H Q E ⟨_,ds,fp,d,r,e,q⟩=> ?_
 unfold yz6 at e
 split at e
 ·rename_i xs k s
  split at e
  ·rename_i ns hns
   obtain⟨hc,e⟩:=bV e
   cases e
   obtain⟨v1,us,f,g,rfl,r1,r2,rfl⟩:=r.split
   obtain⟨v2,us2,f2,g2,rfl,r3,r4,rfl⟩:=r2.split
   obtain⟨v3,rfl,r5⟩:=r4.one_inv
   rw [r3.is_int,r5.is_int]
   obtain⟨a,vs,rfl,hS,hs⟩:=r1.con_inv
   rw [sZ hs hns] at hS
   exact⟨a,ns,k,s,rfl,hS.l,hc.1,hc.2.1,hc.2.2,q _ H [] (SameK.refl H) (fun _ ha=>absurd ha (by simp)) Zr (.int _)⟩
  ·cases e
 ·cases e
def yc6(K:tz0):Sp:=fun vs H Q _=>∃(a:Addr) (ns:List Int),vs=[.ref a]/\SqF K H a (ns.map V.int)/\ns.length<=63/\∀H',Q (.bl true) H'
theorem zz2{H:Hp}:∀ns:List Int,Reps K U H (ns.map V.int) (ns.map .int) []
 |[]=> .nil
 |n::ns=> .cons (f:=[]) (g:=[]) (.int n) (zz2 ns)
theorem ws7{k:Nat}{f:Addr}{fd:FuncData}{ps:List Str}{g:tz6}(F:FnOk P w K mg base CX0 k f fd ps (SpP 1 K U g))(h:∀ns:List Int,ns.length<=63->g [.con (ns.map .int)]=some (.bl true)):FnOk P w K mg base CX0 k f fd ps (yc6 K):=
 F.imp fun vs H Q E ⟨a,ns,e,hS,hl,q⟩=>e▸⟨rfl,[.con (ns.map .int)],[],.bl true,.cons (f:=[]) (g:=[]) (.con hS (zz2 ns)) .nil,h ns hl,fun v H' fv _ _ _ r=>by cases r;exact q H'⟩
def Cur:Nat->(List Value->Prop)->Prop
 |0,P=>P []
 |n+1,P=>∀a,Cur n fun us=>P (a::us)
theorem zt6{n:Nat}:∀{P:List Value->Prop},Cur n P->∀us:List Value,us.length=n->P us:=by
 induction n with
 |zero=>intro P h us hl;cases Xv hl;exact h
 |succ n ih=>
  intro P h us hl
  cases us with
  |nil=>cases hl
  |cons a us=>exact ih (h a) us (Nat.succ.inj hl)
structure FzT(K:tz0)(x:Str)(st:Stmt)(f:Addr)(fd:FuncData):Prop where
 a:PySem.W.nsIn K mainGlobals x=some (some (.ref f))
 F:Fun K x x st f fd
structure MzT(K:tz0)(C:Addr)(m q:Str)(st:Stmt)(f:Addr)(fd:FuncData):Prop where
 i:PySem.W.findIn K (.ref C) m=some (some (.ref f))
 s:PySem.W.isFn K (.ref f)=true
 F:Fun K m q st f fd
structure CzT(K:tz0)(x:Str)(C:Addr):Prop where
 a:PySem.W.nsIn K mainGlobals x=some (some (.ref C))
 g:PySem.W.plainGet K C Str.empty=true
 d:PySem.W.hasDictIn K C=true
 o:PySem.W.plainOver K C=true
 s:PySem.W.findIn K (.ref C) "__setattr__"=some (some (.builtin "object.__setattr__"))
 m:PySem.W.makesIn K C=true
 k:PySem.W.keepIn K (.ref C)=true
abbrev BiT(x q:Str)(st:Stmt)(ps:List Str):Prop:=∀(kV doc pm:Value) (an:Option Addr) (cdv ct:Value) (us:List Value),us.length=ps.length->bindArgs (PySem.W.fnOf x q (wW st) (mM st) (aT st) .none kV doc pm an cdv ct) ⟨us,[]⟩=pure (ps.zip us)
theorem eB{N ps:List Str}{h:Heap}{x:Str}{st:Stmt}{f:Addr}{fd:FuncData}(_:FnScope N ps (aT st))(X:K.In h)(G:h.Ns mainGlobals mg)(a:FzT K x st f fd)(hb:BiT x x st ps:=by exact fun _ _ _ _ _ _=>zt6 (by(repeat intro _);exact rfl)):Dn K mg x st ps f fd:=
 ⟨a.F,a.F.binds hb,Yh X G a.a⟩
theorem zo0{x:Str}{C:Addr}(e:U x=C)(c:CzT K x C):Cls K (U x):=by rw [e];exact⟨c.g,c.d,c.o,c.s⟩
theorem yA{x y:Str}{C:Addr}(e:U x=C)(h:PySem.W.findIn K (.ref C) y=some none):cF K (U x) y:=by rw [e];exact h
theorem yB{N ps:List Str}{x m q:Str}{C:Addr}{st:Stmt}{f:Addr}{fd:FuncData}(_:FnScope N ps (aT st))(e:U x=C)(c:CzT K x C)(a:MzT K C m q st f fd)(hb:BiT m q st ps:=by exact fun _ _ _ _ _ _=>zt6 (by(repeat intro _);exact rfl)):Mn K U x m q st ps f fd:=
 ⟨a.F,a.F.binds hb,zo0 e c,by rw [e];exact⟨a.i,a.s,a.F.kp⟩⟩
theorem yy4{N ps:List Str}{h:Heap}{x q:Str}{C:Addr}{st:Stmt}{f:Addr}{fd:FuncData}(_:FnScope N ps (aT st))(X:K.In h)(G:h.Ns mainGlobals mg)(e:U x=C)(c:CzT K x C)(a:MzT K C "__init__" q st f fd)(hb:BiT "__init__" q st ps:=by exact fun _ _ _ _ _ _=>zt6 (by(repeat intro _);exact rfl)):Kn K mg U x q st ps f fd:=
 ⟨a.F,a.F.binds hb,by rw [e];exact⟨c.m,a.i,a.s,c.k⟩,by rw [e];exact Yh X G c.a⟩
theorem _root_.L2.FnOk.up{CX:CXT}{k k':Nat}{f:Addr}{fd:FuncData}{ps:List Str}{sp:Sp}(h:FnOk P w K mg base CX k f fd ps sp)(hk:k<=k':=by decide):FnOk P w K mg base CX k' f fd ps sp:=h.mono hk
theorem ws8{l:PySem.W.OpenLaw}{q:Program}{loose:List Str}{XP:(tzA)->Heap->Prop}{YP:World->Heap->Prop}{d:DefRec}{K:Params->tz0}{lev:Nat}(hn:l.most=some 63)(hdf:d.params.defaults=[])(hr:Room lev callerA)
  (hY:∀(w:World) (h:Heap),YP w h->(K w.params).In h)
  (F:∀(w:World) (mg:tzA) (fa:Addr) (h:Heap),(K w.params).In h->h.Ns mainGlobals mg->mg d.name=some (.ref fa)->
   ∃fd:FuncData,(∀(s:Shared) (u:Value),BindsTo s fd ⟨[u],[]⟩ [("_law_script",u)])/\∀base:Heap,(K w.params).In base->base.Ns mainGlobals mg->FnOk l.prog w (K w.params) mg base CX0 lev fa fd ["_law_script"] (yc6 (K w.params))):
  PySem.W.WalkO q loose XP YP l.row.toRowW d [] (fun f vs=>PySem.call f vs):=
 L2.xy0 (n:=63) (k:=lev) (x:="_law_script") (CX:=fun _=>CX0) (sp:=fun w=>yc6 (K w.params)) hn (by decide) hdf hr hY F (fun _ H a ns hl hO hS=>⟨a,ns,rfl,by
  rcases hS with (h|h)|h
  ·rcases hO a with z|⟨o,xs,z⟩<;>rw [h] at z<;>cases z
  ·exact .inl h
  ·exact .inr h,hl,fun _=>rfl⟩) fun _ _ _ _ _ z=>z
end My
namespace My
open PySem PySem.Spec PyProof.Rows L2 L3
variable{P:Program}{w:World}{K:tz0}{mg:tzA}{base:Heap}{U:tz9}
def yc7:tz6
 |[.con xs,.int k]=>match zc2 xs with
  |some ns=>some (.int (rD ns k))
  |none=>none
 |_=>none
theorem xl1(ns:List Int)(k:Int):yc7 [.con (ns.map .int),.int k]=some (.int (rD ns k)):=by
 show(match zc2 (ns.map .int) with|some ns=>some (D.int (rD ns k))|none=>none)=_
 rw [xZ]
theorem wq3{k:Nat}{f:Addr}{fd:FuncData}{ps:List Str}(F:FnOk P w K mg base CX0 k f fd ps (yk2 K)):FnOk P w K mg base CX0 k f fd ps (SpP 2 K U yc7):=by
 refine F.imp fun vs H Q E ⟨_,ds,fp,d,r,e,q⟩=> ?_
 unfold yc7 at e
 split at e
 ·rename_i xs k
  split at e
  ·rename_i ns hns
   cases e
   obtain⟨v1,us,f,g,rfl,r1,r2,rfl⟩:=r.split
   obtain⟨v3,rfl,r5⟩:=r2.one_inv
   rw [r5.is_int]
   obtain⟨a,vs,rfl,hS,hs⟩:=r1.con_inv
   rw [sZ hs hns] at hS
   exact⟨a,ns,k,rfl,hS.l,q _ H [] (SameK.refl H) (fun _ ha=>absurd ha (by simp)) Zr (.int _)⟩
  ·cases e
 ·cases e
end My
namespace My
open PySem PySem.Spec PyProof.Rows L2 L3
theorem wk4{l:PySem.W.OpenLaw}{w:World}{K:tz0}{h:Heap}{mg:tzA}{fa:Addr}(X:K.In h)(G:h.Ns mainGlobals mg)(hfa:mg "law"=some (.ref fa))
  (rm:FzT K "first_place" iW ir gm)
  (sr:FzT K "holds_rows" jH i7 iq)
  (qi:FzT K "takes_choice" iJ gl fj)
  (wc:FzT K "ways" nX n8 mz)
  (ud:FzT K "new_line" nI o6 ot)
  (uu:FzT K "writing" lY lr km)
  (sy:FzT K "ends_line" jZ ji i5)
  (qc:FzT K "column_behind" hV fz et)
  (rn:FzT K "with_choice" kL m6 ml)
  (qj:FzT K "behind_plain" jR mn l7)
  (qe:FzT K "behind_holder" jI l6 lw)
  (ss:FzT K "behind_row" st_p_behind_row i6 il)
  (qf:FzT K "behind_pieces" fQ ce b7)
  (ue:FzT K "lines_of" kQ ki jj)
  (wd:FzT K "fits" rG ui tq)
  (vj:FzT K "price" oX tu r9)
  (rq:FzT K "roads_begin" gK db cr)
  (vk:FzT K "roads" oZ t7 sh)
  (u7:FzT K "set_by" nB l9 lm)
  (qk:FzT K "best_choices" gC gu fm)
  (uv:FzT K "pressed" kA lq kl)
  (uw:FzT K "_law_cell_at" lV qm o9)
  (vm:FzT K "_law_mixed" kK gi eo)
  (vn:FzT K "_law_whole" sQ t6 sf)
  (we:FzT K "_law_word" vJ uk tw)
  (wf:FzT K "_law_leaf" vK um tz)
  (wg:FzT K "_law_shut" vL ul tx)
  (wv:FzT K "_law_row" yL ve ut)
  (wj:FzT K "_law_next" vN uq t5)
  (wk:FzT K "_law_line" rP og m9)
  (u9:FzT K "_law_column" qJ sd qo)
  (wm:FzT K "_law_stop" vP uo t4)
  (uf:FzT K "_law_leaf_set" nK pb ox)
  (ww:FzT K "_law_set" yN vd ur)
  (vo:FzT K "_law_drawn" sR t9 sj)
  (va:FzT K "_law_behind" qK si qt)
  (vp:FzT K "_law_width" pD ua sk)
  (su:FzT K "_law_is_choices" lH nz ng)
  (ux:FzT K "_law_refused" pF qq pr)
  (vq:FzT K "_law_right" sS ub so)
  (uy:FzT K "law" zp2 xk xa)
  (z0:PySem.W.nsIn K mainGlobals "len"=some none)
  (z1:PySem.W.nsIn K mainGlobals "enumerate"=some none)
  (z2:PySem.W.nsIn K mainGlobals "all"=some none)
  (z3:PySem.W.nsIn K mainGlobals "sum"=some none)
  (z4:PySem.W.nsIn K mainGlobals "sorted"=some none)
  (z5:PySem.W.nsIn K mainGlobals "min"=some none)
  (z6:PySem.W.nsIn K mainGlobals "max"=some none)
  (z7:PySem.W.nsIn K mainGlobals "isinstance"=some none)
  (z8:PySem.W.nsIn K mainGlobals "int"=some none)
  (z9:PySem.W.nsIn K mainGlobals "bool"=some none)
  (z10:PySem.W.nsIn K mainGlobals "range"=some none)
  (z11:PySem.W.nsIn K mainGlobals "tuple"=some none)
  (z12:PySem.W.nsIn K mainGlobals "ValueError"=some none)
  (z13:PySem.W.nsIn K mainGlobals "str"=some none)
  (g0:PySem.W.nsIn K mainGlobals "HOLDERS"=some (some (.ref lu)))
  (vt:K.lookup lu=some ⟨.type "tuple",xb,.seq #[.str "group" xc,.str "hang" xf,.str "either" xg] xh,xi⟩)
  (uz:CzT K "Place" n0)
  (ug:MzT K n0 "__init__" "Place.__init__" st_Place_init j9 jh)
  (wn:PySem.W.findIn K (.ref n0) "broken"=some none)
  (wo:PySem.W.findIn K (.ref n0) "margin"=some none)
  (om:CzT K "Front" lj)
  (uh:MzT K lj "__init__" "Front.__init__" st_Front_init c5 cg)
  (u0:MzT K lj "add" "Front.add" st_Front_add dk c6)
  (rz:MzT K lj "add_all" "Front.add_all" st_Front_add_all m7 mm)
  (wx:PySem.W.findIn K (.ref lj) "steps"=some none)
  (w4:PySem.W.findIn K (.ref lj) "best"=some none)
  (ja:CzT K "WithinWidth" ej)
  (oz:MzT K ej "__init__" "WithinWidth.__init__" st_WithinWidth_init lx kr)
  (l3:MzT K ej "state_behind" "WithinWidth.state_behind" st_WithinWidth_state_behind g6 gh)
  (n6:MzT K ej "rag_of" "WithinWidth.rag_of" st_WithinWidth_rag_of kn j6)
  (wy:PySem.W.findIn K (.ref ej) "width"=some none)
  (i4:CzT K "Setter" dh)
  (tj:MzT K dh "__init__" "Setter.__init__" st_Setter_init ou ny)
  (nv:MzT K dh "choice_below" "Setter.choice_below" gQ j7 jg)
  (o3:MzT K dh "set_plain" "Setter.set_plain" jD lz ky)
  (on:MzT K dh "set_holder" "Setter.set_holder" iO ku ko)
  (ql:MzT K dh "set_row" "Setter.set_row" st_Setter_set_row gn fk)
  (oo:MzT K dh "whole_text" "Setter.whole_text" st_Setter_whole_text kt kj)
  (vy:PySem.W.findIn K (.ref dh) "choices"=some none)
  (w6:PySem.W.findIn K (.ref dh) "used"=some none)
  (wq:PySem.W.findIn K (.ref dh) "column"=some none)
  (wz:PySem.W.findIn K (.ref dh) "parts"=some none)
  (u4:PySem.W.nsIn K mainGlobals "LineError"=some (some (.ref jf)))
  (u5:PySem.W.excIn K jf [.type "ValueError",.type "Exception",.type "BaseException",.type "object"] "ValueError.__new__"=true)
  (wu:PySem.W.nsIn K mainGlobals "NoRoom"=some (some (.ref ae)))
  (uc:PySem.W.excIn K ae [.type "ValueError",.type "Exception",.type "BaseException",.type "object"] "ValueError.__new__"=true)
  (ij:PySem.W.mroIn K ae (.ref jf)=some true)
  (vz:PySem.W.findIn K (.ref ae) "__getattribute__"=some (some (.builtin "BaseException.__getattribute__")))
  (v4:PySem.W.findIn K (.ref ae) "__getattr__"=some none)
  (v6:PySem.W.mroIn K ae (.type "BaseException")=some true)
  (v7:PySem.W.findIn K (.ref ae) "__class__"=some (some (.builtin "object.__class__")))
  (v8:PySem.W.specialIn K (.builtin "object.__class__") "__get__"=some (some (.builtin "getset_descriptor.__get__")))
  (v9:PySem.W.takesIn K (.builtin "object.__class__")=some true)
  (wa:PySem.W.mroIn K ae (.type "object")=some true)
  (vc:PySem.W.nsIn K mainGlobals "NoChoice"=some (some (.ref mf)))
  (wb:PySem.W.nsIn K mainGlobals "NoPiece"=some (some (.ref na)))
  (dg:PySem.W.kitAny K (.ref ae) [.ref mf,.ref na]=some false)
  (jt:PySem.W.kitOne K (.ref ae) (.ref ae)=some true)
  (gy:PySem.W.kitOne K (.ref ae) (.type "ValueError")=some true)
  :∃fd:FuncData,(∀(s:Shared) (v:Value),BindsTo s fd ⟨[v],[]⟩ [("_law_script",v)])/\∀base:Heap,K.In base->base.Ns mainGlobals mg->FnOk l.prog w K mg base CX0 48 fa fd ["_law_script"] (yc6 K):=by
 have e:=hfa.symm.trans (Yh X G uy.a)
 cases e
 have ba:=eB uE X G rm
 have bi:=eB uZ X G sr
 have ax:=eB sB X G qi
 have gk:=eB vA X G wc
 have du:=eB yX X G ud
 have cu:=eB uF X G uu
 have bz:=eB wN X G sy
 have av:=eB qT X G qc
 have c8:=eB iS X G rn
 have ck:=eB fZ X G qj
 have cc:=eB eR X G qe
 have bj:=eB iB X G ss
 have ag:=eB qU X G qf
 have cb:=eB yY X G ue
 have k7:=eB zx2 X G wd
 have ju:=eB sJ X G vj
 have al:=eB kI X G rq
 have jv:=eB xM X G vk
 have di:=eB vV X G u7
 have ai:=eB mR X G qk
 have bg:=eB lN X G uv
 have ez:=eB zS X G uw
 have bu:=eB kH X G vm
 have jw:=eB zl7 X G vn
 have k9:=eB jF X G we
 have la:=eB zX X G wf
 have jp:=eB gU X G wg
 have mj:=eB lO X G wv
 have jq:=eB qV X G wj
 have gv:=eB zx3 X G wk
 have gw:=eB zg1 X G u9
 have lb:=eB zx4 X G wm
 have f9:=eB yZ X G uf
 have g9:=eB iT X G ww
 have jy:=eB sK X G vo
 have gx:=eB vW X G va
 have jz:=eB oF X G vp
 have dq:=eB oG X G su
 have ic:=eB oH X G ux
 have j4:=eB jG X G vq
 have vi:=eB wO X G uy
 obtain⟨U,hU⟩:∃U,U=(kap [("Place",n0),("Front",lj),("WithinWidth",ej),("Setter",dh)]):=⟨_,rfl⟩
 have oq:U "Place"=n0:=by rw [hU];simp [kap,gA]
 have a9:=zo0 oq uz
 have g7:=yy4 zA X G oq uz ug
 have bq:=yA oq wn
 have dj:=yA oq wo
 have ll:U "Front"=lj:=by rw [hU];simp [kap,gA]
 have aa:=zo0 ll om
 have ci:=yy4 zB X G ll om uh
 have au:=yB zY ll om u0
 have c9:=yB nQ ll om rz
 have cj:=yA ll wx
 have ah:=yA ll w4
 have gf:U "WithinWidth"=ej:=by rw [hU];simp [kap,gA]
 have a7:=zo0 gf ja
 have d9:=yy4 pJ X G gf ja oz
 have ao:=yB fI gf ja l3
 have bn:=yB nU gf ja n6
 have fc:=yA gf wy
 have c7:U "Setter"=dh:=by rw [hU];simp [kap,gA]
 have af:=zo0 c7 i4
 have k8:=yy4 wQ X G c7 i4 tj
 have bd:=yB jK c7 i4 nv
 have b9:=yB kY c7 i4 o3
 have bx:=yB eY c7 i4 on
 have ay:=yB mS c7 i4 ql
 have bv:=yB oI c7 i4 oo
 have cw:=yA c7 vy
 have eh:=yA c7 w6
 have gj:=yA c7 wq
 have g5:=yA c7 wz
 have ac:=ZF X G z0
 have nh:=ZF X G z1
 have vf:=ZF X G z2
 have vg:=ZF X G z3
 have qz:=ZF X G z4
 have iu:=ZF X G z5
 have j8:=ZF X G z6
 have ak:=ZF X G z7
 have qg:=ZF X G z8
 have uj:=ZF X G z9
 have i9:=ZF X G z10
 have bw:=ZF X G z11
 have my:=ZF X G z12
 have vh:=ZF X G z13
 have o4:=Yh X G g0
 have o5:∀H,Rep K U H (.ref lu) (.tup [(.str "group"),(.str "hang"),(.str "either")]) []:=fun H=>xo4 (ys:=[("group",_),("hang",_),("either",_)]) vt (Za rfl) H
 obtain⟨oc,od,kV,doc,pm,an,cdv,ct,osl,el,_,_⟩:=uy.F.ex
 refine⟨xa,fun s v=>by rw [el];exact .of_eq rfl,fun base KB _=> ?_⟩
 have nk:OwnCls "LineError" jf bmV "ValueError.__new__" mg base:=⟨Yh X G u4,yp5 KB u5⟩
 have gq:OwnCls "NoRoom" ae bmV "ValueError.__new__" mg base:=⟨Yh X G wu,yp5 KB uc⟩
 have ly:KExc K ae:=⟨vz,v4,v7,v8,v9,wa,v6,yv6 uc⟩
 have ol:=Yh X G vc
 have ph:=Yh X G wb
 have H1:=yg2 (P:=l.prog) (w:=w) (base:=base) (n:=0) ez ac
 have H2:=yw0 (n:=1) bu ez H1 ac j8
 have b8:=ws6 (U:=U) H2
 have je:=wq3 (U:=U) H1
 have oa:=xg8 (P:=l.prog) (w:=w) (base:=base) (U:=U) (n:=0) jp bw ac
 have rf:=xg6 (P:=l.prog) (w:=w) (base:=base) (U:=U) (n:=0) k9 i9
 have rj:=xg7 (n:=1) la k9 rf.up
 have sx:=xp8 (n:=2) mj bu b8.up jp oa.up la rj.up i9 bw ac
 have oj:=xg9 (n:=2) jq bu b8.up ez je.up
 have me:=ym8 (P:=l.prog) (w:=w) (base:=base) (U:=U) (n:=0) gw ac
 have lc:=xh0 (P:=l.prog) (w:=w) (base:=base) (U:=U) (n:=0) gv
 have rl:=xh1 (n:=1) lb gw me.up gv lc.up
 have mq:=ya1 (n:=2) f9 lb rl.up gv lc.up
 have w8:∀n,FnOk l.prog w K mg base CX0 (n+3) _ _ ["_law_script","_law_row_here","_law_flat","_law_hang","_law_state","_law_salt"] (SpE 6 K U (bC [false,false,false,false,true,false]) (sW (yS yz6 yc7) n)):=fun n=>by
  induction n with
  |zero=>exact FnOk.noneE (ps:=["_law_script","_law_row_here","_law_flat","_law_hang","_law_state","_law_salt"])
  |succ n ih=>exact xp9 g9 jq (oj.mono (by omega)) ih f9 (mq.mono (by omega)) ac qg
 have jx:=w8 13
 have p7:=yw4 (n:=16) jy g9 jx.up bw
 have p8:=yw5 (n:=2) jz bu b8.up j8 iu ac
 have dm:=zl5 (P:=l.prog) (w:=w) (base:=base) (U:=U) (n:=0) bi o4 o5
 have az:=ya3 (P:=l.prog) (w:=w) (base:=base) (U:=U) (n:=0) ci aa cj ah
 have kc:=zz8 (P:=l.prog) (w:=w) (base:=base) (U:=U) (n:=0) du
 have ie:=yg3 (n:=1) cu du kc.up a9 bq dj
 have d8:=zs4 (P:=l.prog) (w:=w) (base:=base) (U:=U) (n:=0) bz
 have cf:=zT (n:=1) av bz d8.up ac
 have g4:=wP (P:=l.prog) (w:=w) (base:=base) (U:=U) (mg:=mg) (n:=0) bn a7 fc
 have df:=qW (n:=2) ao cu ie.up av cf.up bz d8.up bn g4.up a7 fc
 have bf:=yg6 (P:=l.prog) (w:=w) (base:=base) (U:=U) (mg:=mg) (n:=0) au aa ah
 have jm:=zf4 (n:=2) ck ci az.up ao df.up au bf.up aa ah cj
 have dt:=ya2 (P:=l.prog) (w:=w) (base:=base) (U:=U) (n:=0) g7 a9 bq dj
 have kz:=xg4 (n:=1) gk g7 dt.up a9 bq dj
 have cp:=zf3 (P:=l.prog) (w:=w) (base:=base) (U:=U) (n:=0) ax a9 bq
 have kg:=zh3 (n:=1) c8 ci az.up au bf.up aa ah cj
 have kh:=zh5 (n:=1) c9 au bf.up aa ah
 have tm:∀n,FnOk l.prog w K mg base CX0 (3*n+4) _ _ ["front","row","place"] (SpP 3 K U (yR n)):=fun n=>by
  induction n with
  |zero=>exact FnOk.noneP (ps:=["front","row","place"])
  |succ n ih=>exact zl6 (n:=3*n+6) bj bi (dm.mono (by omega)) cc (zU (n:=3*n+4) cc ci (az.mono (by omega)) gk (kz.mono (by omega)) ax (cp.mono (by omega)) c8 (kg.mono (by omega)) c9 (kh.mono (by omega)) bj (ih.mono (by omega)) aa cj nh) ck (jm.mono (by omega))
 have f7:=tm 13
 have da:=zh2 (n:=1) ba g7 dt.up
 have aw:=zV (n:=43) ag bj f7.up ba da.up
 have iy:=zG (P:=l.prog) (w:=w) (base:=base) (U:=U) (n:=0) d9 a7 fc
 have f8:=zz9 (P:=l.prog) (w:=w) (base:=base) (U:=U) (n:=0) cb
 have qy:=xg5 (n:=1) k7 cb f8.up vf ac
 have o8:=yw1 (n:=2) ju k7 qy.up cb f8.up vg ac
 have bc:=zh4 (n:=2) al ci az.up d9 iy.up ju o8.up au bf.up
 have pq:=yw2 (n:=44) jv ag aw.up al bc.up aa ah qz
 have jd:=zW (P:=l.prog) (w:=w) (base:=base) (U:=U) (n:=0) ai gq aa ah iu
 have mx:=ya0 (n:=44) bg ai jd.up ag aw.up al bc.up gq
 have nr:=yg5 (n:=45) ic bg mx.up nk gq ij ly ol ph dg jt gy ak my
 have mi:=ym9 (P:=l.prog) (w:=w) (base:=base) (U:=U) (n:=0) gx i9 iu ac
 have jo:=zf5 (P:=l.prog) (w:=w) (base:=base) (U:=U) (n:=0) ai aa ah iu
 have l5:=zs5 (P:=l.prog) (w:=w) (base:=base) (U:=U) (n:=0) k8 af cw eh gj g5
 have i3:=zH (n:=2) b9 cu ie.up av cf.up af gj g5
 have ge:=vX (P:=l.prog) (w:=w) (base:=base) (U:=U) (n:=0) bd af eh cw ac
 have r6:∀n,FnOk l.prog w K mg base CX0 (2*n+3) _ _ ["self","row","place"] (SpE 3 K U (bC [true,false,false]) (sU n)):=fun n=>by
  induction n with
  |zero=>exact FnOk.noneE (ps:=["self","row","place"])
  |succ n ih=>exact zf6 (n:=2*n+4) ay bi (dm.mono (by omega)) bx (xN (n:=2*n+3) bx gk (kz.mono (by omega)) ax (cp.mono (by omega)) bd (ge.mono (by omega)) ay ih ac) b9 (i3.mono (by omega))
 have d7:=r6 13
 have ii:=xO (P:=l.prog) (w:=w) (base:=base) (U:=U) (n:=0) bv af eh g5 cw ac
 have i8:=ym7 (n:=28) di k8 l5.up ay d7.up ba da.up bv ii.up
 have nu:=yg4 (n:=44) bg ai jo.up ag aw.up al bc.up di i8.up
 have pe:=yw3 (P:=l.prog) (w:=w) (base:=base) (U:=U) (n:=0) jw ak qg uj
 have lh:=zl8 (n:=1) dq jw pe.up ak bw
 have p9:=yw6 (n:=46) j4 jv pq.up ic nr.up gx mi.up bg nu.up dq lh.up di i8.up ak bw ac vh
 have xj:=wi1 (n:=47) vi mj sx.up bu b8.up jy p7.up jz p8.up j4 p9.up j8 ac iu
 exact ws7 xj fun ns hl=>yy3 (by decide) (by decide) (by decide) (gV ns) (fun j s h0 h1 h2 h3=>xt2 hl j s h0 h1 h2 h3) (fun j _ _=>⟨_,xl1 ns j⟩)
end My
open PySem PySem.W PyProof.Rows
set_option maxRecDepth 100000 in
set_option maxHeartbeats 0 in
theorem PySem.Challenge.cw_linepress_k21_pressed_is_a_road_holds : PySem.Challenge.rw_linepress_k21_pressed_is_a_road.Holds := by
 w_on;o_law;k_head;(case hw=>w_witness2)
 k_fill
 refine My.ws8 (lev:=48) (l:=PySem.Challenge.rw_linepress_k21_pressed_is_a_road) rfl rfl ⟨rfl,by decide,by decide⟩ (fun w h Y=>PySem.W.kIn_of Y) ?F
 case F=>
  intro w mg fa h KX G hmg
  apply My.wk4 KX G hmg
  all_goals first
   |(refine' My.FzT.mk ?a (L2.xc5 ?b ?c ?d);(case a=>k_is);(case b=>k_is);(case c=>k_is);(case d=>k_is))
   |(refine' My.MzT.mk ?a ?e (L2.xc5 ?b ?c ?d);(case a=>k_is);(case e=>k_is);(case b=>k_is);(case c=>k_is);(case d=>k_is))
   |(refine' My.CzT.mk ?a ?_ ?_ ?_ ?_ ?_ ?_;(case a=>k_is);all_goals k_is)
   |(refine' My.vz_mk ?a ?b;(case a=>k_is);(case b=>exact⟨_,rfl⟩))
   |k_is
   |rfl
   |kit_is
   |k_exc
   |kernel_rfl
#print axioms PySem.Challenge.cw_linepress_k21_pressed_is_a_road_holds

