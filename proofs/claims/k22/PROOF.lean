import PyProof.Rows.All
import Wide.All
import OpenK.AllK
import Wide.FinOn
import Lean
import PyProof.EqAt
import PyProof.EqKinds
import PyProof.TupleCall
import PySem.Challenge.RW_linepress_k22_whole_best
set_option Elab.async false
set_option genSizeOfSpec false
set_option genInjectivity false
def PySem.W.Fast.tw14190392299472669040:=()
def PySem.W.Fast.tw4820179791866339812:=()
def PySem.W.Fast.tw2368163447780814684:=()
def PySem.W.Fast.tw10151850505016854554:=()
def PySem.W.Fast.tw13858473586872249655:=()
def PySem.W.Fast.tw17742566163771311789:=()
def PySem.W.Fast.tw6221637185584088767:=()
def PySem.W.Fast.tw5588609409764311822:=()
def PySem.W.Fast.tw5744898198357516031:=()
def PySem.W.Fast.tw17909747993811633149:=()
def PySem.W.Fast.tw2123656549289088480:=()
def PySem.W.Fast.tw5024956049640010774:=()
def PySem.W.Fast.tw2401879923183054024:=()
def PySem.W.Fast.tw17774532721605017676:=()
def PySem.W.Fast.tw8997459963306404865:=()
def PySem.W.Fast.tw2698749784976698748:=()
def PySem.W.Fast.tw9317595230643130422:=()
def PySem.W.Fast.tw3979165363185683644:=()
def PySem.W.Fast.tw189553016198180534:=()
def PySem.W.Fast.tw16879407722527417177:=()
def PySem.W.Fast.tw282238832403414919:=()
def PySem.W.Fast.tw3133113495664389113:=()
def PySem.W.Fast.tw9245435834901224868:=()
def PySem.W.Fast.tw7911994525712513958:=()
def PySem.W.Fast.tw1776071608954527696:=()
def PySem.W.Fast.tw17568701584769417837:=()
def PySem.W.Fast.tw9526050980965621946:=()
def PySem.W.Fast.tw12373969153395965039:=()
def PySem.W.Fast.tw6715116185394340528:=()
def PySem.W.Fast.tw11638277096477980170:=()
def PySem.W.Fast.tw11312035586449296952:=()
def PySem.W.Fast.tw9700507707139221627:=()
def PySem.W.Fast.tw15996730376017141688:=()
def PySem.W.Fast.tw14606797286534586740:=()
def PySem.W.Fast.tw12202353690656589743:=()
def PySem.W.Fast.tw12391215463447392472:=()
def PySem.W.Fast.tw4118212069964551943:=()
def PySem.W.Fast.tw12432067553493276900:=()
def PySem.W.Fast.tw7752326732532502146:=()
def PySem.W.Fast.tw15440190383135879690:=()
def PySem.W.Fast.tw8726250460612885385:=()
def PySem.W.Fast.tw10103700549031791189:=()
def PySem.W.Fast.tw16448769840521648169:=()
def PySem.W.Fast.tw17756549093441097211:=()
def PySem.W.Fast.tw3100070841425513283:=()
def PySem.W.Fast.tw1026247435086435893:=()
def PySem.W.Fast.tw17292273264416469129:=()
def PySem.W.Fast.tw1836092252921318798:=()
def PySem.W.Fast.tw13346551652127565022:=()
def PySem.W.Fast.tw5113493337993296380:=()
def PySem.W.Fast.tw4885122767583219831:=()
def PySem.W.Fast.tw2374836786465392555:=()
def PySem.W.Fast.tw5566696887537476660:=()
def PySem.W.Fast.tw12392278330119748156:=()
def PySem.W.Fast.tw10623851164462645309:=()
def PySem.W.Fast.tw14528910244278455324:=()
def PySem.W.Fast.tw1637485603626216013:=()
def PySem.W.Fast.tw4250704353212164292:=()
def PySem.W.Fast.tw12940812416688615462:=()
def PySem.W.Fast.tw2472237346762201732:=()
def PySem.W.Fast.tw12020188602837221569:=()
def PySem.W.Fast.tw14405520173368099496:=()
def PySem.W.Fast.tw7428416491759372100:=()
def PySem.W.Fast.tw11226478812241371912:=()
def PySem.W.Fast.tw8834467849215061580:=()
def PySem.W.Fast.tw3385255299624110746:=()
def PySem.W.Fast.tw14642257813079870535:=()
def PySem.W.Fast.tw951786030224015434:=()
def PySem.W.Fast.tw525417221319872886:=()
set_option linter.all false
set_option maxRecDepth 100000
set_option maxHeartbeats 1000000
abbrev NDb(x:PySem.Str):Prop:=(x==("__debug__":PySem.Str))=false
def Z0:=@List.mem_cons_self
def Z1:=@List.mem_cons_of_mem
def Z2:=@List.length_append
def Z3:=@Nat.le_of_ble_eq_true
def Z4:=@Option.bind_some
def Z5:=@List.mem_cons
def Z6:=@List.length_cons
def Z7:=@Nat.le_refl
def Z8:=@List.getElem?_eq_some_iff
def Z9:=@Bool.false_ne_true
def Za:=@decide_eq_false
def Zb:=@List.map_cons
def Zc:=@List.getElem?_map
def Zd:=@List.length_map
def Ze:=@List.mem_append_right
def Zf:=@PySem.Heap.get?_push_of_some
def Zg:=@List.mem_singleton
def Zh:=@List.append_assoc
def Zi:=@List.append_nil
def Zj:=@PySem.wpAny_bind
def Zk:=@decide_eq_true
def Zl:=@List.size_toArray
def Zm:=@PySem.Heap.lt_size
def Zn:=@List.nodup_nil
def Zo:=@List.getElem?_eq_getElem
def Zp:=@List.mem_append
def Zq:=@List.mem_append_left
def Zr:=@Nat.le_trans
def Zs:=@Int.emod_lt_of_pos
def Zt:=@Option.map_eq_some_iff
def Zu:=@List.nodup_cons
def Zv:=@Int.emod_nonneg
def Zw:=@PySem.Heap.get?_push_size
def Zx:=@Bool.and_eq_true
def Zy:=@List.getElem?_set_ne
def Zz:=@Nat.lt_of_lt_of_le
def ZA:=@List.lookup_cons
def ZB:=@List.nodup_append
def ZC:=@Nat.le_add_right
def ZD:=@Option.some.inj
def ZE:=@List.getElem?_set_self
def ZF:=@Nat.ne_of_lt
def ZG:=@List.mem_of_getElem?
def ZH:=@PySem.PassesOwn.never
def ZI:=@PySem.wpAny_pure
def ZJ:=@List.not_mem_nil
def ZK:=@decide_eq_true_eq
def ZL:=@Nat.zero_le
def ZM:=@PySem.Paired.length
def ZN:=@List.cons_append
def ZO:=@PySem.boot_len
def ZP:=@PySem.sizeLine_eq
def ZQ:=@Bool.false_eq_true
def ZR:=@List.nil_append
def ZS:=@List.getElem?_append_left
def ZT:=@List.drop_eq_getElem_cons
def ZU:=@List.replicate_succ
def ZV:=@congrArg
def ZW:=@PySem.wpAny_mono
def ZX:=@List.length_nil
def ZY:=@PySem.W.mg_none_of
def ZZ:=@Array.length_toList
def Y2:=@if_true
def Y3:=@PySem.wpAny_truthy_bool
def Y4:=@PySem.Heap.get?_update_other
def Y5:=@Nat.lt_irrefl
def Y6:=@PySem.wpAny_Call_Name_kw
def Y7:=@List.map_append
def Y8:=@Ne.symm
def Y9:=@List.flatten_cons
def Ya:=@List.length_range
def Yb:=@beq_eq_false_iff_ne
def Yc:=@PySem.W.hideAll_get
def Yd:=@PySem.mem_of_lookup
def Ye:=@List.getElem?_cons_succ
def Yf:=@Int.le_refl
def Yg:=@List.zip_cons_cons
def Yh:=@PySem.F.plain_min_loop
def Yi:=@PyProof.Rows.callWith_type1
def Yj:=@PySem.wpAny_passesOwn
def Yk:=@PySem.wpAny_loadPart'
def Yl:=@List.mem_map
def Ym:=@if_false
def Yn:=@Bool.eq_iff_iff
def Yo:=@List.find?_cons
def Yp:=@eq_self
def Yq:=@Nat.not_lt_zero
def Yr:=@PySem.W.callWith_K
def Ys:=@Nat.lt_of_le_of_lt
def Yt:=@of_decide_eq_false
def Yu:=@List.getElem?_replicate
def Yv:=@List.map_map
def Yw:=@List.getElem?_eq_none
def Yx:=@List.perm_append_comm
def Yy:=@List.length_take
def Yz:=@decide_eq_decide
def YA:=@Option.join_some
def YB:=@PySem.W.hideAll_none
def YC:=@List.getElem?_of_mem
def YD:=@PyProof.Rows.boot_tuple
def YE:=@List.mem_map_of_mem
def YF:=@Nat.zero_add
def YG:=@PySem.wpAny_holding
def YH:=@List.mem_range
def YI:=@beq_iff_eq
def YJ:=@List.getElem?_append_right
def YK:=@List.getD_eq_getElem?_getD
def YL:=@PySem.wpAny_execs_nil
def YM:=@Int.toNat_natCast
def YN:=@PySem.F.args_tuple_add_2
def YO:=@List.any_cons
def YQ:=@PySem.W.mg_of
def YR:=@PySem.Calls.Name_function_global
def YS:=@Nat.lt_succ_self
def YT:=@PySem.Calls.spliced_cons
def YU:=@PySem.F.entry_tuple_add
def YV:=@PySem.call_meets
def YW:=@or_false
def YX:=@Nat.le_max_right
def YY:=@List.append_cancel_left
def YZ:=@Nat.le_of_lt
def X0:=@PySem.F.slot_tuple_add
def X1:=@List.map_nil
def X2:=@List.sublist_cons_self
def X3:=@PySem.F.slot_tuple_mul
def X4:=@PySem.F.slot_str_split
def X5:=@PySem.F.type_str_split
def X6:=@List.append_inj_right'
def X7:=@PySem.Calls.spliced_nil
def X8:=@Nat.le_max_left
def X9:=@PySem.W.methodCall_KW
def Xa:=@List.length_replicate
def Xb:=@List.append_inj_left'
def Xc:=@PySem.wpAny_execs_cons
def Xd:=@List.drop_zero
def Xe:=@List.filterMap_cons
def Xf:=@PySem.W.plainGet_of
def Xg:=@PySem.codeAny_mono
def Xh:=@PySem.Calls.callWith_builtin
def Xi:=@ne_true_of_eq_false
def Xj:=@List.reverse_append
def Xk:=@List.length_reverse
def Xl:=@List.cons.inj
def Xm:=@PySem.W.of_hideAll
def Xn:=@List.mem_filterMap
def Xo:=@PySem.Heap.get?_update_self
def Xp:=@List.zip_nil_left
def Xq:=@of_decide_eq_true
def Xr:=@Nat.add_zero
def Xs:=@PySem.Around.under_plainId
def Xt:=@PySem.wpAny_tryCatch
def Xu:=@PyProof.Rows.callWith_builtin1
def Xv:=@List.length_drop
def Xw:=@List.nil_sublist
def Xx:=@List.drop_length
def Xy:=@Bool.not_eq_true
def Xz:=@Array.toList_inj
def XA:=@PySem.plainId_quiet
def XB:=@List.eq_nil_of_length_eq_zero
def XC:=@List.of_mem_zip
def XD:=@PySem.typeIs_str
def XE:=@PySem.tupleKind_room_in1
def XF:=@PySem.F.args_str_split_2
def XG:=@Int.ediv_nonneg
def XH:=@List.takeWhile_append_of_pos
def XI:=@Bool.false_and
def XJ:=@Int.fdiv_eq_ediv_of_nonneg
def XL:=@PySem.F.entry_str_split
def XM:=@List.sublist_append_right
def XN:=@PySem.noFill_tuple_add
def XO:=@List.all_cons
def XQ:=@PySem.F.slot_str_split
def XR:=@List.sublist_append_left
def XS:=@List.set_eq_of_length_le
def XT:=@PySem.F.entry_min_loop
def XU:=@PySem.F.slot_dict_values
def XV:=@PySem.F.args_tuple_lt_2
def XW:=@PySem.F.plainAttrs_list
def XX:=@PySem.wpAny_letGo
def XY:=@PySem.F.slot_tuple_rmul
def XZ:=@Nat.ne_of_gt
def W0:=@PySem.W.cellsFrom_some
def W1:=@PySem.F.entry_tuple_lt
def W2:=@List.take_of_length_le
def W3:=@List.append_eq_nil_iff
def W4:=@Option.map_eq_none_iff
def W5:=@PySem.W.funFrames_hide
def W6:=@PySem.W.funFrames_base
def W7:=@PySem.codeAny_builtin
def W8:=@PySem.wpAny_updateSeq
def Wa:=@Int.ofNat_le
def Wb:=@PySem.F.slot_tuple_lt
def Wc:=@List.length_singleton
def Wd:=@PySem.F.slot_int_rmul
def We:=@List.take_append_drop
def Wf:=@Sum.inl.inj
def Wg:=@PySem.Heap.size_push
def Wh:=@PySem.wpAny_seqItems
def Wi:=@List.forall_mem_cons
def Wj:=@Int.le_of_lt_add_one
def Wk:=@PySem.W.callWith_K0
def Wl:=@List.dropLast_cons₂
def Wm:=@Int.toNat_of_nonneg
def Wn:=@Array.append_assoc
def Wo:=@PySem.wpAny_standAt
def Wp:=@PySem.AutoSeq1.sub_tuple_tuple
def Wq:=@List.zip_nil_right
def Ws:=@PySem.seq_tuple_add
def Wt:=@PySem.wpAny_pyNext_values_item
def Wu:=@PySem.Calls.loadGlobal_global
def Wv:=@Option.isSome_map
def Ww:=@Nat.le_of_lt_succ
def Wx:=@Nat.le_succ_of_le
namespace L2
open PySem PySem.Spec PyProof.Rows
abbrev Key:=Sum Int Str
abbrev _root_.tz9:=Str->Addr
abbrev _root_.tz0:=PySem.W.Frag
abbrev _root_.tzA:=Str->Option Value
abbrev _root_.tzB:=List (Addr×Obj)
def zA:Key->Value->Bool
 | .inl k,v=>Value.isInt k v
 | .inr x,v=>Value.isStrOf x v
def wu0(w:World):Key->Int
 | .inl k=>hashInt k
 | .inr x=>hashStr w x
theorem fX:∀{k:Key} {v:Value},zA k v=true->(∃i t,k=Sum.inl i/\v=Value.int i t)\/(∃x t,k=Sum.inr x/\v=Value.str x t)
 | .inl i,v,h=>by
  obtain⟨t,e⟩:=Value.isInt_shape (k:=i) (v:=v) h
  exact .inl ⟨i,t,rfl,e⟩
 | .inr x,v,h=>by
  obtain⟨t,e⟩:=Value.isStrOf_shape (x:=x) (v:=v) h
  exact .inr ⟨x,t,rfl,e⟩
theorem xb6(i:Int)(t:Tok):zA (.inl i) (.int i t)=true:=by simp [zA,Value.isInt]
theorem xb7(x:Str)(t:Tok):zA (.inr x) (.str x t)=true:=by simp [zA,Value.isStrOf]
theorem wf6(a b:Int):decide ((Sum.inl a:Key)=Sum.inl b)=(a==b):=by
 by_cases e:a=b
 ·subst e;simp
 ·have h:¬(Sum.inl a:Key)=Sum.inl b:=fun q=>e (Wf q)
  rw [Za h]
  exact(Yb.mpr e).symm
theorem wf7(a b:Str):decide ((Sum.inr a:Key)=Sum.inr b)=decide (a=b):=by
 by_cases e:a=b
 ·subst e;simp
 ·have h:¬(Sum.inr a:Key)=Sum.inr b:=fun q=>e (Sum.inr.inj q)
  rw [Za h,Za e]
theorem wf8(a:Int)(b:Str):decide ((Sum.inl a:Key)=Sum.inr b)=false:=Za (fun q=>nomatch q)
theorem wf9(a:Str)(b:Int):decide ((Sum.inr a:Key)=Sum.inl b)=false:=Za (fun q=>nomatch q)
def fK(prog:Program)(w:World):PySem.KeyKind prog w Key where
 is:=zA
 hash:=wu0 w
 inj:=fun v a b ha hb=>by
  rcases fX ha with ⟨i,t,rfl,rfl⟩|⟨x,t,rfl,rfl⟩
  ·rcases fX hb with ⟨j,u,rfl,e⟩|⟨y,u,rfl,e⟩
   ·injection e with e1 _;rw [e1]
   ·exact nomatch e
  ·rcases fX hb with ⟨j,u,rfl,e⟩|⟨y,u,rfl,e⟩
   ·exact nomatch e
   ·injection e with e1 _;rw [e1]
 byValue:=fun k v h=>by
  rcases fX h with ⟨i,t,rfl,rfl⟩|⟨x,t,rfl,rfl⟩<;>rfl
 pyHash:=fun hv h=>by
  rcases fX hv with ⟨i,t,rfl,rfl⟩|⟨x,t,rfl,rfl⟩
  ·exact wpAny_pyHash_int h
  ·exact wpAny_pyHash_str h
 eqBool:=fun hu hv h=>by
  rcases fX hu with ⟨i,t,rfl,rfl⟩|⟨x,t,rfl,rfl⟩
  ·rcases fX hv with ⟨j,u,rfl,rfl⟩|⟨y,u,rfl,rfl⟩
   ·rw [wf6] at h;exact wpAny_eqBool_int h
   ·rw [wf8] at h;exact SeqAt.EqAt.int_str i t y u _ _ _ _ h
  ·rcases fX hv with ⟨j,u,rfl,rfl⟩|⟨y,u,rfl,rfl⟩
   ·rw [wf9] at h;exact SeqAt.EqAt.str_int x t j u _ _ _ _ h
   ·rw [wf7] at h;exact wpAny_eqBool_str h
 «strs»:=fun k x t v h=>by
  rcases fX h with ⟨i,u,rfl,e⟩|⟨y,u,rfl,e⟩
  ·exact nomatch e
  ·injection e with e1 _
   subst e1
   cases v<;>rfl
theorem yn8(prog:Program)(w:World)(i:Int)(t:Tok):(fK prog w).is (.inl i) (.int i t)=true:=xb6 i t
theorem yn9(prog:Program)(w:World)(x:Str)(t:Tok):(fK prog w).is (.inr x) (.str x t)=true:=xb7 x t
set_option genInjectivity true in
inductive V where
 |non|bl (b:Bool)|int (i:Int)|str (x:Str)|byt (b:Array UInt8)|flt (b:UInt64)|ref (a:Addr)|ty (n:String)
 deriving DecidableEq
def cV:V->Value->Prop
 | .non,u=>u=Value.none
 | .bl b,u=>u=Value.bool b
 | .int i,u=>∃t,u=Value.int i t
 | .str x,u=>∃t,u=Value.str x t
 | .byt b,u=>∃t,u=Value.bytes b t
 | .flt b,u=>∃t,u=Value.float b t
 | .ref a,u=>u=Value.ref a
 | .ty n,u=>u=Value.type n
abbrev bW:List V->List Value->Prop:=Paired cV
theorem bW.length{xs:List V}{us:List Value}(r:bW xs us):xs.length=us.length:=ZM r
theorem bW.get:∀{xs:List V} {us:List Value} {i:Nat} {x:V},bW xs us->xs[i]? =some x->∃u,us[i]? =some u/\cV x u
 |_,_,_,_,.nil,e=>by simp at e
 |_,_,0,_,.cons r _,e=>by simp at e;subst e;exact⟨_,rfl,r⟩
 |_,_,i+1,x,.cons _ t,e=>by
  obtain⟨u,h1,h2⟩:=bW.get (i:=i) (x:=x) t (by simpa using e)
  exact⟨u,by simpa using h1,h2⟩
theorem bW.set{x:V}{u:Value}(r:cV x u):∀{xs:List V} {us:List Value} (i:Nat),bW xs us->bW (xs.set i x) (us.set i u)
 |_,_,_,.nil=> .nil
 |_,_,0,.cons _ t=> .cons r t
 |_,_,i+1,.cons q t=> .cons q (bW.set r i t)
theorem bW.append:∀{xs ys:List V} {us ws:List Value},bW xs us->bW ys ws->bW (xs++ys) (us++ws)
 |_,_,_,_,.nil,s=>s
 |_,_,_,_,.cons r t,s=> .cons r (bW.append t s)
theorem bW.take:∀{xs:List V} {us:List Value} (n:Nat),bW xs us->bW (xs.take n) (us.take n)
 |_,_,0,_=> .nil
 |_,_,_+1,.nil=> .nil
 |_,_,n+1,.cons r t=> .cons r (bW.take n t)
theorem bW.drop:∀{xs:List V} {us:List Value} (n:Nat),bW xs us->bW (xs.drop n) (us.drop n)
 |_,_,0,r=>r
 |_,_,_+1,.nil=> .nil
 |_,_,n+1,.cons _ t=>bW.drop n t
def kX:Option V->Option Value->Prop
 |some v,some u=>cV v u
 |none,none=>True
 |_,_=>False
def KV{κ:Type}:List (κ×V)->List (κ×Value)->Prop:=Paired fun(p:κ×V) (q:κ×Value)=>p.1=q.1/\cV p.2 q.2
def kV:Key->V
 | .inl i=> .int i
 | .inr x=> .str x
inductive HO where
 |lst (xs:List V)
 |tup (xs:List V)
 |dK (kvs:List (Key×V))|dT (kvs:List (List Key×V))
 |set (S:Int->Bool) (n:Nat)
 |ins (C dx:Addr) (fs:List (Str×V))
 |own (x:Addr)
 |xd (fs:List (Str×V))
 |met (f x:Addr)
 |rng (lo hi:Int)
 |frz (o:Obj) (u:HO)
 |tbl (ps:Array Value)
 |ext (φ:Heap->Prop)
abbrev Hp:=Addr->Option HO
def upd(H:Hp)(a:Addr)(o:HO):Hp:=fun b=>if b=a then some o else H b
theorem dG{H:Hp}{a:Addr}{o:HO}:upd H a o a=some o:=by unfold upd;rw [if_pos rfl]
theorem bR{H:Hp}{a b:Addr}{o:HO}(h:b≠a):upd H a o b=H b:=by unfold upd;rw [if_neg h]
theorem wo8{H:Hp}{a b:Addr}{o u:HO}(h:H a=some o)(h':H b=some u)(d:o≠u):a≠b:=by
 intro e;subst e;rw [h] at h';exact d (ZD h')
theorem nC{H:Hp}{a b:Addr}{o:HO}(h:H a=some o)(h':H b=none):a≠b:=by
 intro e;subst e;rw [h] at h';cases h'
section
variable(P:Program)(w:World)
def eI(H:Hp)(h:Heap)(a:Addr):HO->Prop
 | .lst xs=>xs.length<=sizeLine/\∃(its:List Value) (n:Nat),bW xs its/\h.get? a=some {cls:= .type "list",data:= .seq its.toArray n}
 | .tup xs=>xs.length<=sizeLine/\∃its:List Value,bW xs its/\IsTup h a its.toArray
 | .dK kvs=>kvs.length<=sizeLine/\(a==sysModules)=false/\∃vs,KV kvs vs/\h.DictOf (fK P w) a vs
 | .dT kvs=>kvs.length<=sizeLine/\(a==sysModules)=false/\∃xs:List (List Key×Addr×Value),
   Paired (fun(p:List Key×V) (q:List Key×Addr×Value)=>p.1=q.1/\H q.2.1=some (.tup (p.1.map kV))/\cV p.2 q.2.2) kvs xs/\
   ∃o es ep,h.get? a=some o/\o.ExactDict/\o.data= .dict es ep/\es.toList=xs.map (entryOfKey (tupleKind (fK P w)))/\(xs.map (·.1)).Nodup
 | .set S n=>h.SetOf (intKind P w) a S n
 | .ins C dx fs=>H dx=some (.own a)/\fs.length<=1000/\dx≠a/\h.get? a=some (PySem.W.instObj C dx)/\
   ∃mA,h.Ns1 dx mA/\(∀f,kX (fs.lookup f) (mA f))/\PySem.Within mA (fs.map (·.1))
 | .own _=>∃o,h.get? a=some o
 | .xd fs=>∃mA,h.Ns1 a mA/\∀f,kX (fs.lookup f) (mA f)
 | .rng lo hi=>∃t u v,h.get? a=some {cls:= .type "range",data:= .fields #[.int lo t,.int hi u,.int 1 v]}
 | .frz o u=>h.get? a=some o/\eI H h a u
 | .tbl ps=>h.get? a=some {cls:= .none,data:= .fields ps}
 | .met f x=>h.get? a=some (PySem.W.methodObj (.ref f) (.ref x))
 | .ext φ=>φ h/\(∃o,h.get? a=some o)/\∀h1 h2:Heap,φ h1->(∀o,h1.get? a=some o->h2.get? a=some o)->φ h2
def HOk(H:Hp)(h:Heap):Prop:=∀a o,H a=some o->eI P w H h a o
end
section
variable{P:Program}{w:World}{H H':Hp}{h h':Heap}{a:Addr}{o:HO}
theorem eI.lt(x:eI P w H h a o):a<h.objs.size:=by
 cases o with
 |lst xs=>obtain⟨_,_,_,_,e⟩:=x;exact Zm e
 |tup xs=>obtain⟨_,_,_,p⟩:=x;exact p.lt
 |dK kvs=>obtain⟨_,_,_,_,o,_,_,e,_⟩:=x;exact Zm e
 |dT kvs=>obtain⟨_,_,_,_,o,_,_,e,_⟩:=x;exact Zm e
 |set S n=>obtain⟨o,_,_,_,e,_⟩:=x;exact Zm e
 |ins C dx fs=>obtain⟨_,_,_,e,_⟩:=x;exact Zm e
 |own y=>obtain⟨_,e⟩:=x;exact Zm e
 |xd fs=>obtain⟨_,⟨_,_,_,e,_⟩,_⟩:=x;exact Zm e
 |rng lo hi=>obtain⟨_,_,_,e⟩:=x;exact Zm e
 |frz ob u=>obtain⟨e,_⟩:=x;exact Zm e
 |tbl ps=>exact Zm (show h.get? a=some _ from x)
 |met f y=>exact Zm (show h.get? a=some _ from x)
 |ext φ=>obtain⟨_,⟨_,e⟩,_⟩:=x;exact Zm e
theorem Paired.mapP{α β:Type}{F G:α->β->Prop}:∀{l₁:List α} {l₂:List β},Paired F l₁ l₂->(∀a b,F a b->G a b)->Paired G l₁ l₂
 |_,_,.nil,_=> .nil
 |_,_,.cons r t,f=> .cons (f _ _ r) (Paired.mapP t f)
theorem eI.stay(x:eI P w H h a o)(k:∀b u,(b=a\/H b=some (.own a))->h.get? b=some u->h'.get? b=some u)
  (ho:∀b,H b=some (.own a)->H' b=some (.own a)) (ht:∀b xs,H b=some (.tup xs)->H' b=some (.tup xs)):eI P w H' h' a o:=by
 induction o with
 |lst xs=>obtain⟨z,its,n,r,e⟩:=x;exact⟨z,its,n,r,k _ _ (.inl rfl) e⟩
 |tup xs=>obtain⟨z,its,r,ob,e,c⟩:=x;exact⟨z,its,r,ob,k _ _ (.inl rfl) e,c⟩
 |dK kvs=>obtain⟨z,y,vs,r,ob,es,ep,e,c⟩:=x;exact⟨z,y,vs,r,ob,es,ep,k _ _ (.inl rfl) e,c⟩
 |dT kvs=>
  obtain⟨z,y,xs,r,ob,es,ep,e,c⟩:=x
  exact⟨z,y,xs,Paired.mapP r fun p q z=>⟨z.1,ht _ _ z.2.1,z.2.2⟩,ob,es,ep,k _ _ (.inl rfl) e,c⟩
 |set S n=>obtain⟨ob,es,ep,t,e,c⟩:=x;exact⟨ob,es,ep,t,k _ _ (.inl rfl) e,c⟩
 |ins C dx fs=>
  obtain⟨d,z,ne,e,mA,⟨od,es,ep,e2,c⟩,r⟩:=x
  exact⟨ho _ d,z,ne,k _ _ (.inl rfl) e,mA,⟨od,es,ep,k _ _ (.inr d) e2,c⟩,r⟩
 |own y=>obtain⟨ob,e⟩:=x;exact⟨ob,k _ _ (.inl rfl) e⟩
 |xd fs=>obtain⟨mA,⟨od,es,ep,e,c⟩,r⟩:=x;exact⟨mA,⟨od,es,ep,k _ _ (.inl rfl) e,c⟩,r⟩
 |rng lo hi=>obtain⟨t,u,v,e⟩:=x;exact⟨t,u,v,k _ _ (.inl rfl) e⟩
 |frz ob u ih=>obtain⟨e,q⟩:=x;exact⟨k _ _ (.inl rfl) e,ih q⟩
 |tbl ps=>
  have e:h.get? a=some {cls:= .none,data:= .fields ps}:=x
  show h'.get? a=some {cls:= .none,data:= .fields ps}
  exact k a _ (.inl rfl) e
 |met f y=>
  have e:h.get? a=some (PySem.W.methodObj (.ref f) (.ref y)):=x
  show h'.get? a=some (PySem.W.methodObj (.ref f) (.ref y))
  exact k a _ (.inl rfl) e
 |ext φ=>obtain⟨p,⟨o,e⟩,st⟩:=x;exact⟨st _ _ p fun o q=>k _ _ (.inl rfl) q,⟨o,k _ _ (.inl rfl) e⟩,st⟩
theorem HOk.lt(x:HOk P w H h)(e:H a=some o):a<h.objs.size:=(x a o e).lt
theorem HOk.fresh(x:HOk P w H h)(e:h.objs.size<=a):H a=none:=by
 cases q:H a with
 |none=>rfl
 |some u=>exact absurd (Zz (x.lt q) e) (Y5 _)
theorem HOk.kept(x:HOk P w H h)(k:∀b u,h.get? b=some u->h'.get? b=some u):HOk P w H h':=fun a o e=>
 (x a o e).stay (fun b u _ q=>k b u q) (fun _ q=>q) fun _ _ q=>q
theorem HOk.laid(x:HOk P w H h)(k:∀b u,h.get? b=some u->h'.get? b=some u)(hp:h.objs.size<=a)(new:eI P w (upd H a o) h' a o):HOk P w (upd H a o) h':=fun b u e=>by
 have hn:=x.fresh hp
 by_cases hb:b=a
 ·subst hb;rw [dG] at e;cases e;exact new
 ·rw [bR hb] at e
  exact(x b u e).stay (fun c v _ q=>k c v q) (fun c q=>by rw [bR (nC q hn)];exact q) fun c xs q=>by rw [bR (nC q hn)];exact q
end
def Rd(H:Hp)(a:Addr)(u:HO):Prop:=H a=some u\/∃o,H a=some (.frz o u)
theorem Rd.ok{P:Program}{w:World}{H:Hp}{h:Heap}{a:Addr}{u:HO}(r:Rd H a u)(x:HOk P w H h):eI P w H h a u:=by
 rcases r with r|⟨o,r⟩
 ·exact x a u r
 ·obtain⟨_,q⟩:=x a _ r
  exact q
def Mut:Option HO->Prop
 |some (.lst _)=>True
 |some (.dK _)=>True
 |some (.dT _)=>True
 |some (.set _ _)=>True
 |some (.ins _ _ _)=>True
 |some (.ext _)=>True
 |_=>False
section
variable{P:Program}{w:World}{H:Hp}{h h':Heap}{x e:Addr}{o':HO}
theorem HOk.write(ok:HOk P w H h)(mu:Mut (H x))(he:e=x\/H e=some (.own x))(k:∀b u,b≠e->h.get? b=some u->h'.get? b=some u)(heo:∃u,h'.get? e=some u)
  (new:eI P w (upd H x o') h' x o'):HOk P w (upd H x o') h':=fun b u q=>by
 have nown:∀c y,H c=some (.own y)->c≠x:=fun c y r z=>by subst z;rw [r] at mu;exact mu
 have ntup:∀c xs,H c=some (.tup xs)->c≠x:=fun c xs r z=>by subst z;rw [r] at mu;exact mu
 by_cases hb:b=x
 ·subst hb;rw [dG] at q;cases q;exact new
 ·rw [bR hb] at q
  by_cases hbe:b=e
  ·have q':H b=some (.own x):=by
    rcases he with z|z
    ·exact absurd (hbe.trans z) hb
    ·rw [hbe];exact z
   rw [q] at q';cases q'
   obtain⟨v,hv⟩:=heo
   exact⟨v,by rw [hbe];exact hv⟩
  ·refine(ok b u q).stay (fun c v hc r=>k c v ?_ r) (fun c r=>by rw [bR (nown c b r)];exact r) fun c xs r=>by rw [bR (ntup c xs r)];exact r
   rcases hc with rfl|hc
   ·exact hbe
   ·rintro rfl
    rcases he with z|z
    ·exact nown c b hc z
    ·rw [hc] at z;cases z;exact hb rfl
end
structure Un(fs ex:List Addr)(H H':Hp)(h h':Heap):Prop where
 keep:∀b o,h.get? b=some o->H b=none->b∉fs->b∉ex->h'.get? b=some o
 slot:∀b o,h.get? b=some o->H b=none->b∈fs->b∉ex->∃sl,h'.get? b=some {o with slots:=sl}
 free:∀b o,h.get? b=some o->H b=none->b∉ex->H' b=none
 there:∀b o,h.get? b=some o->b∉ex->∃o',h'.get? b=some o'
 tups:∀b xs,H b=some (.tup xs)->H' b=some (.tup xs)
 frzs:∀b o u,H b=some (.frz o u)->H' b=some (.frz o u)
 tbls:∀b ps,H b=some (.tbl ps)->∃more,H' b=some (.tbl (ps++more))
section
variable{fs fs' ex ex':List Addr}{H H1 H2:Hp}{h h1 h2 h':Heap}{a x e:Addr}{o:HO}
theorem Un.any(u:Un fs ex H H1 h h1){b:Addr}{ob:Obj}(q:h.get? b=some ob)(n:H b=none)(hx:b∉ex):∃sl,h1.get? b=some {ob with slots:=sl}:=by
 by_cases hb:b∈fs
 ·exact u.slot b ob q n hb hx
 ·exact⟨ob.slots,u.keep b ob q n hb hx⟩
theorem Un.trans(a:Un fs ex H H1 h h1)(b:Un fs ex H1 H2 h1 h2):Un fs ex H H2 h h2 where
 keep:=fun c ob q n hc hx=>b.keep c ob (a.keep c ob q n hc hx) (a.free c ob q n hx) hc hx
 slot:=fun c ob q n hc hx=>by
  obtain⟨sl,e1⟩:=a.slot c ob q n hc hx
  obtain⟨sl',e2⟩:=b.slot c _ e1 (a.free c ob q n hx) hc hx
  exact⟨sl',e2⟩
 free:=fun c ob q n hx=>by
  obtain⟨o',e1⟩:=a.there c ob q hx
  exact b.free c o' e1 (a.free c ob q n hx) hx
 there:=fun c ob q hx=>by
  obtain⟨o',e1⟩:=a.there c ob q hx
  exact b.there c o' e1 hx
 tups:=fun c xs q=>b.tups c xs (a.tups c xs q)
 frzs:=fun c ob xs q=>b.frzs c ob xs (a.frzs c ob xs q)
 tbls:=fun c ps q=>by
  obtain⟨m1,e1⟩:=a.tbls c ps q
  obtain⟨m2,e2⟩:=b.tbls c _ e1
  exact⟨m1++m2,by rw [e2,Wn]⟩
theorem Un.kept(k:∀b u,h.get? b=some u->h'.get? b=some u):Un fs ex H H h h':=
 ⟨fun b ob q _ _ _=>k b ob q,fun b ob q _ _ _=>⟨ob.slots,k b ob q⟩,fun _ _ _ n _=>n,fun b ob q _=>⟨ob,k b ob q⟩,fun _ _ q=>q,fun _ _ _ q=>q,fun _ ps q=>⟨#[],by rw [q];simp⟩⟩
theorem Un.refl:Un fs ex H H h h:=Un.kept fun _ _ q=>q
theorem Un.laid(k:∀b u,h.get? b=some u->h'.get? b=some u)(hp:h.objs.size<=a)(hn:H a=none):Un fs ex H (upd H a o) h h' where
 keep:=fun b u q _ _ _=>k b u q
 slot:=fun b u q _ _ _=>⟨u.slots,k b u q⟩
 free:=fun b u q n _=>by rw [bR (ZF (Zz (Zm q) hp))];exact n
 there:=fun b u q _=>⟨u,k b u q⟩
 tups:=fun b xs q=>by rw [bR (nC q hn)];exact q
 frzs:=fun b u xs q=>by rw [bR (nC q hn)];exact q
 tbls:=fun b ps q=>⟨#[],by rw [bR (nC q hn),q];simp⟩
theorem Un.write(mu:Mut (H x))(he:e=x\/H e=some (.own x))(k:∀b u,b≠e->h.get? b=some u->h'.get? b=some u)(heo:∃u,h'.get? e=some u):Un fs ex H (upd H x o) h h':=by
 have hx:∀b,H b=none->b≠x:=fun b n z=>by subst z;rw [n] at mu;exact mu
 have hb:∀b,H b=none->b≠e:=fun b n z=>by
  subst z
  rcases he with r|r
  ·exact hx b n r
  ·rw [n] at r;cases r
 have hm:∀b u,H b=some u->¬Mut (some u)->b≠x:=fun b u q nm z=>by subst z;rw [q] at mu;exact nm mu
 refine⟨fun b u q n _ _=>k b u (hb b n) q,fun b u q n _ _=>⟨u.slots,k b u (hb b n) q⟩,fun b u q n _=>by rw [bR (hx b n)];exact n,fun b u q _=> ?_,
  fun b xs q=>by rw [bR (hm b _ q fun z=>z)];exact q,fun b u xs q=>by rw [bR (hm b _ q fun z=>z)];exact q,fun b ps q=>⟨#[],by rw [bR (hm b _ q fun z=>z),q];simp⟩⟩
 by_cases hbe:b=e
 ·subst hbe;exact heo
 ·exact⟨u,k b u hbe q⟩
theorem Un.mono(u:Un fs ex H H1 h h1)(hs:∀b∈fs,b∈fs')(hx:∀b∈ex,b∈ex'):Un fs' ex' H H1 h h1:=
 ⟨fun b ob q n hb he=>u.keep b ob q n (fun z=>hb (hs b z)) fun z=>he (hx b z),fun _ _ q n _ he=>u.any q n fun z=>he (hx _ z),fun b ob q n he=>u.free b ob q n fun z=>he (hx b z),fun b ob q he=>u.there b ob q fun z=>he (hx b z),u.tups,u.frzs,u.tbls⟩
end
def trk(h:Heap)(H:Hp):List Addr:=(List.range h.objs.size).filter fun a=>(H a).isSome
def zB(h:Heap)(H:Hp):Heap:=PySem.W.hideAll h (trk h H)
theorem xb8(h:Heap)(H:Hp):(zB h H).objs.size=h.objs.size:=PySem.W.hideAll_size _ _
theorem xo1{h:Heap}{H:Hp}{b:Addr}{o:Obj}(e:h.get? b=some o)(n:H b=none):(zB h H).get? b=some o:=
 Yc _ e fun hm=>by
  have q:(H b).isSome=true:=(List.mem_filter.mp hm).2
  rw [n] at q;simp at q
theorem xz1{h:Heap}{H:Hp}{b:Addr}{o:Obj}(e:(zB h H).get? b=some o):h.get? b=some o/\H b=none:=by
 have e':h.get? b=some o:=Xm (trk h H) e
 refine⟨e',?_⟩
 cases q:H b with
 |none=>rfl
 |some x=>
  have hm:b∈trk h H:=List.mem_filter.mpr ⟨YH.mpr (Zm e'),by simp [q]⟩
  have z:(zB h H).get? b=none:=YB (trk h H) hm
  rw [z] at e;cases e
structure Mod(K:tz0)(mg:tzA)(base:Heap):Prop where
 kin:K.In base
 glob:base.Ns mainGlobals mg
 blt:∃mb,base.Ns builtinsNs mb/\∀x:Str,x≠"__name__"->mb x=bootBuiltins x
 nolimit:base.NoLimit
structure Cx where
 prog:Program
 w:World
 K:tz0
 mg:tzA
 base:Heap
 A:Around
 N:List Str
 s₀:Shared
 H₀:Hp
 env:Env
 outer:List Env
 stack:List Env
 ex:List Addr
 fn:Str->Bool
 calm:Bool
 pn:tzB
 xe:Value->Shared->Prop
def frs(l:List Env):List Addr:=l.filterMap (·.frame)
abbrev Cx.fs(X:Cx):List Addr:=frs X.outer
def Vis(sc:Scope)(x:Str):Prop:=sc.names.lookup x=some .local\/sc.names.lookup x=some .cell\/sc.names.lookup x=some .free
def Loc(sc:Scope)(x:Str):Prop:=sc.names.lookup x=some .local\/sc.names.lookup x=some .cell
def wu1(env:Env)(h:Heap)(m:tzA)(x:Str)(u:Value):Prop:=
 (env.kindOf x=some .local/\m x=some u)\/((env.kindOf x=some .cell\/env.kindOf x=some .free)/\∃c,env.cells.lookup x=some c/\h.IsCell c (some u))
structure Cx.Ok(X:Cx):Prop where
 mod:Mod X.K X.mg X.base
 kind:X.env.scope.kind= .function
 glob:X.env.globals=mainGlobals
 blt:X.env.builtins=builtinsNs
 above:X.s₀.heap.objs.size<=X.env.locals
 inj:∀x y c,X.env.cells.lookup x=some c->X.env.cells.lookup y=some c->x=y
 has:∀x,(X.env.kindOf x=some .cell\/X.env.kindOf x=some .free)->∃c,X.env.cells.lookup x=some c
 cab:∀x c,X.fn x=true->X.env.cells.lookup x=some c->X.s₀.heap.objs.size<=c
 hd:X.calm=true->X.A.handled=none
 frames:X.A.frames=some X.stack
 stk:X.stack=X.outer\/(X.stack=X.env::X.outer/\X.env.frame=some X.env.locals)
 exf:∀b∈X.ex,b≠X.env.locals/\∀x c,X.env.cells.lookup x=some c->c≠b
 bs:∀b o,X.base.get? b=some o->X.s₀.heap.get? b=some o/\X.H₀ b=none
 bsz:X.base.objs.size<=X.s₀.heap.objs.size
 noex:∀b o,X.base.get? b=some o->b∉X.ex
 exfs:∀b∈X.ex,b∉X.fs
 funs:X.s₀.heap.FunFrames X.base X.outer
 frf:∀b∈X.fs,X.H₀ b=none
structure Inv(X:Cx)(pins:tzB)(σ:List (Option V))(H:Hp)(s:Shared):Prop where
 ok:X.Ok
 os:s.os=X.s₀.os
 bare:AllBare s.gens
 base:Un X.fs X.ex X.H₀ H X.s₀.heap s.heap
 loc:∃m,s.heap.Ns X.env.locals m/\∀(i:Nat) (x:Str) (v:V),X.N[i]? =some x->σ[i]? =some (some v)->Vis X.env.scope x->∃u,cV v u/\wu1 X.env s.heap m x u
 cell:∀x c,X.env.cells.lookup x=some c->∃v,s.heap.IsCell c v
 free:H X.env.locals=none
 freeC:∀x c,X.env.cells.lookup x=some c->H c=none
 pin:∀p∈X.pn++pins,s.heap.get? p.1=some p.2/\H p.1=none/\p.1≠X.env.locals/\p.1∉X.fs/\∀v,p.2.data≠ .cell v
 hok:HOk X.prog X.w H s.heap
 len:σ.length=X.N.length
section
variable{X:Cx}{pins:tzB}{σ:List (Option V)}{H H':Hp}{s:Shared}{h':Heap}
theorem Cx.Ok.nofr(ok:X.Ok){b:Addr}{o:Obj}(e:X.base.get? b=some o):b∉X.fs:=fun hb=>by
 have:=(ok.funs.mem hb).1
 rw [e] at this;cases this
theorem Inv.bs(I:Inv X pins σ H s):∀b o,X.base.get? b=some o->s.heap.get? b=some o/\H b=none:=fun b o e=>
 ⟨I.base.keep b o (I.ok.bs b o e).1 (I.ok.bs b o e).2 (I.ok.nofr e) (I.ok.noex b o e),I.base.free b o (I.ok.bs b o e).1 (I.ok.bs b o e).2 (I.ok.noex b o e)⟩
theorem Inv.bk(I:Inv X pins σ H s):∀b o,X.base.get? b=some o->s.heap.get? b=some o:=fun b o e=>(I.bs b o e).1
theorem Inv.mod(I:Inv X pins σ H s):Mod X.K X.mg X.base:=I.ok.mod
theorem Inv.kIn(I:Inv X pins σ H s):X.K.In s.heap:=I.ok.mod.kin.keeps I.bk
theorem Inv.lt(I:Inv X pins σ H s):X.env.locals<s.heap.objs.size:=let ⟨_,hn,_⟩:=I.loc;hn.lt
theorem Inv.sz(I:Inv X pins σ H s):X.s₀.heap.objs.size<=s.heap.objs.size:=Zr I.ok.above (YZ I.lt)
theorem Inv.nofs(I:Inv X pins σ H s){a:Addr}(h:s.heap.objs.size<=a):a∉X.fs:=fun hb=>by
 obtain⟨_,o,ho,_⟩:=I.ok.funs.mem hb
 exact absurd (Zz (Zm ho) (Zr I.sz h)) (Y5 _)
theorem Inv.cne(I:Inv X pins σ H s):∀x c,X.env.cells.lookup x=some c->c≠X.env.locals:=fun x c e z=>by
 obtain⟨v,o,ho,hd⟩:=I.cell x c e
 obtain⟨m,⟨o',es,ep,ho',hd',_⟩,_⟩:=I.loc
 rw [z,ho'] at ho;cases ho;rw [hd'] at hd;cases hd
theorem Inv.funs(I:Inv X pins σ H s):s.heap.FunFrames X.base X.outer:=by
 have all:∀(l:List Env),(∀b∈frs l,b∈X.fs)->X.s₀.heap.FunFrames X.base l->s.heap.FunFrames X.base l:=by
  intro l
  induction l with
  |nil=>intro _ _;trivial
  |cons env r ih=>
   intro hs hl
   obtain⟨hk,⟨L,o,hf,hn,ho,hd⟩,hr⟩:=hl
   have hL:L∈X.fs:=hs L (by unfold frs;rw [Xe,hf];exact Z0)
   obtain⟨sl,e⟩:=I.base.slot L o ho (I.ok.frf L hL) hL fun z=>I.ok.exfs L z hL
   exact⟨hk,⟨L,_,hf,hn,e,hd⟩,ih (fun b hb=>hs b (by unfold frs;rw [Xe,hf];exact Z1 _ hb)) hr⟩
 exact all X.outer (fun _ hb=>hb) I.ok.funs
theorem Inv.stack(I:Inv X pins σ H s):s.heap.FunFrames X.base X.stack:=by
 rcases I.ok.stk with e|⟨e,hf⟩
 ·rw [e];exact I.funs
 ·rw [e]
  obtain⟨m,hn,_⟩:=I.loc
  refine .cons (by rw [I.ok.kind];decide) hf hn ?_ I.funs
  exact Heap.get?_none_of_le (Zr I.ok.bsz I.ok.above)
theorem Inv.stkSub(I:Inv X pins σ H s):∀b∈frs X.stack,b∈X.env.locals::X.fs:=fun b hb=>by
 rcases I.ok.stk with e|⟨e,hf⟩
 ·rw [e] at hb;exact Z1 _ hb
 ·rw [e] at hb
  unfold frs at hb
  rw [Xe,hf] at hb
  exact hb
theorem Inv.stkFree(I:Inv X pins σ H s):∀b∈frs X.stack,H b=none:=fun b hb=>by
 rcases Z5.mp (I.stkSub b hb) with e|hb
 ·rw [e];exact I.free
 ·obtain⟨_,o,ho,_⟩:=I.ok.funs.mem hb
  exact I.base.free b o ho (I.ok.frf b hb) fun z=>I.ok.exfs b z hb
theorem Inv.step{g':Array GenState}{t':Nat}{d':Drawn}{ch:List Addr}(I:Inv X pins σ H s)
  (hch:∀b∈ch,(b∈X.ex\/X.s₀.heap.objs.size<=b)/\b≠X.env.locals/\(∀x c,X.env.cells.lookup x=some c->c≠b)/\∀p∈X.pn++pins,p.1≠b)
  (keep:∀b o,b≠X.env.locals->b∉X.fs->b∉ch->s.heap.get? b=some o->H b=none->h'.get? b=some o)
  (slot:∀b o,b≠X.env.locals->b∈X.fs->b∉ch->s.heap.get? b=some o->H b=none->∃sl,h'.get? b=some {o with slots:=sl}) (free:∀b o,b∉ch->s.heap.get? b=some o->H b=none->H' b=none)
  (there:∀b o,b∉ch->s.heap.get? b=some o->∃o',h'.get? b=some o')
  (tups:∀b xs,H b=some (.tup xs)->H' b=some (.tup xs)) (frzs:∀b o u,H b=some (.frz o u)->H' b=some (.frz o u)) (tbls:∀b ps,H b=some (.tbl ps)->∃more,H' b=some (.tbl (ps++more)))
  (ns:∀m,s.heap.Ns X.env.locals m->h'.Ns X.env.locals m) (hok:HOk X.prog X.w H' h') (hg:AllBare g'):
  Inv X pins σ H' {s with heap:=h',gens:=g',drawn:=d',toks:=t'}:=by
 have neL:∀b o,X.s₀.heap.get? b=some o->b≠X.env.locals:=fun b o e=>ZF (Zz (Zm e) I.ok.above)
 have neC:∀b o,X.s₀.heap.get? b=some o->b∉X.ex->b∉ch:=fun b o e hx hb=>by
  rcases(hch b hb).1 with z|z
  ·exact hx z
  ·exact absurd (Zz (Zm e) z) (Y5 _)
 have cellK:∀x c,X.env.cells.lookup x=some c->∀v,s.heap.IsCell c v->h'.IsCell c v:=fun x c e v ⟨o,ho,hd⟩=>by
  have nch:c∉ch:=fun z=>(hch c z).2.2.1 x c e rfl
  by_cases hc:c∈X.fs
  ·obtain⟨sl,q⟩:=slot c o (I.cne x c e) hc nch ho (I.freeC x c e)
   exact⟨_,q,hd⟩
  ·exact⟨o,keep c o (I.cne x c e) hc nch ho (I.freeC x c e),hd⟩
 refine⟨I.ok,I.os,hg,⟨fun b o e n hb hx=> ?_,fun b o e n hb hx=> ?_,fun b o e n hx=> ?_,fun b o e hx=> ?_,fun b xs e=>tups b xs (I.base.tups b xs e),fun b o xs e=>frzs b o xs (I.base.frzs b o xs e),fun b ps e=> ?_⟩,?_,fun x c e=> ?_,?_,fun x c e=> ?_,fun p hp=> ?_,hok,I.len⟩
 ·exact keep b o (neL b o e) hb (neC b o e hx) (I.base.keep b o e n hb hx) (I.base.free b o e n hx)
 ·obtain⟨sl,e1⟩:=I.base.slot b o e n hb hx
  obtain⟨sl',e2⟩:=slot b _ (neL b o e) hb (neC b o e hx) e1 (I.base.free b o e n hx)
  exact⟨sl',e2⟩
 ·obtain⟨o',e1⟩:=I.base.there b o e hx
  exact free b o' (neC b o e hx) e1 (I.base.free b o e n hx)
 ·obtain⟨o',e1⟩:=I.base.there b o e hx
  exact there b o' (neC b o e hx) e1
 ·obtain⟨m1,e1⟩:=I.base.tbls b ps e
  obtain⟨m2,e2⟩:=tbls b _ e1
  exact⟨m1++m2,by rw [e2,Wn]⟩
 ·obtain⟨m,hn,hl⟩:=I.loc
  refine⟨m,ns m hn,fun i x v e1 e2 e3=> ?_⟩
  obtain⟨u,r,l⟩:=hl i x v e1 e2 e3
  refine⟨u,r,?_⟩
  rcases l with l|⟨k,c,e,z⟩
  ·exact .inl l
  ·exact .inr ⟨k,c,e,cellK x c e _ z⟩
 ·obtain⟨v,z⟩:=I.cell x c e
  exact⟨v,cellK x c e v z⟩
 ·obtain⟨m,⟨o,_,_,ho,_⟩,_⟩:=I.loc
  exact free _ o (fun z=>(hch _ z).2.1 rfl) ho I.free
 ·obtain⟨v,o,ho,hd⟩:=I.cell x c e
  exact free c o (fun z=>(hch c z).2.2.1 x c e rfl) ho (I.freeC x c e)
 ·obtain⟨e,n,ne,nf,d⟩:=I.pin p hp
  have nch:p.1∉ch:=fun z=>(hch p.1 z).2.2.2 p hp rfl
  exact⟨keep p.1 p.2 ne nf nch e n,free p.1 p.2 nch e n,ne,nf,d⟩
theorem Inv.un{t':Nat}(I:Inv X pins σ H s)(u:Un X.fs [] H H' s.heap h')(hok:HOk X.prog X.w H' h'):Inv X pins σ H' {s with heap:=h',toks:=t'}:=by
 obtain⟨m,⟨o,es,ep,ho,r⟩,_⟩:=id I.loc
 obtain⟨sl,hL⟩:=u.any ho I.free (by simp)
 exact I.step (g':=s.gens) (d':=s.drawn) (ch:=[]) (fun _ z=>nomatch z) (fun b o _ hb _ e n=>u.keep b o e n hb (by simp)) (fun b o _ hb _ e n=>u.slot b o e n hb (by simp)) (fun b o _ e n=>u.free b o e n (by simp)) (fun b o _ e=>u.there b o e (by simp)) u.tups u.frzs u.tbls (fun m' hm=>by
  obtain⟨o',es',ep',ho',r'⟩:=hm
  rw [ho] at ho';cases ho'
  exact⟨_,es',ep',hL,r'⟩) hok I.bare
theorem Inv.call{g':Array GenState}{t':Nat}{d':Drawn}{ch:List Addr}(I:Inv X pins σ H s)(u:Un (frs X.stack) ch H H' s.heap h')(hok:HOk X.prog X.w H' h')(hg:AllBare g')
  (hch:∀b∈ch,(b∈X.ex\/X.s₀.heap.objs.size<=b)/\b≠X.env.locals/\(∀x c,X.env.cells.lookup x=some c->c≠b)/\∀p∈X.pn++pins,p.1≠b):
  Inv X pins σ H' {s with heap:=h',gens:=g',drawn:=d',toks:=t'}:=by
 obtain⟨m,⟨o,es,ep,ho,r⟩,_⟩:=id I.loc
 obtain⟨sl,hL⟩:=u.any ho I.free fun z=>(hch _ z).2.1 rfl
 exact I.step (ch:=ch) hch (fun b o hL hb hc e n=>u.keep b o e n (fun z=>(Z5.mp (I.stkSub b z)).elim hL hb) hc) (fun b o _ _ hc e n=>u.any e n hc) (fun b o hc e n=>u.free b o e n hc) (fun b o hc e=>u.there b o e hc) u.tups u.frzs u.tbls (fun m' hm=>by
  obtain⟨o',es',ep',ho',r'⟩:=hm
  rw [ho] at ho';cases ho'
  exact⟨_,es',ep',hL,r'⟩) hok hg
theorem Inv.turned{t':Nat}{it:Addr}(I:Inv X pins σ H s)(k:∀b o,b≠it->s.heap.get? b=some o->h'.get? b=some o)(hn:H it=none)(hL:it≠X.env.locals)
  (h1:it∈X.ex\/X.s₀.heap.objs.size<=it) (h2:∀x c,X.env.cells.lookup x=some c->c≠it) (h3:∀p∈X.pn++pins,p.1≠it):Inv X pins σ H {s with heap:=h',toks:=t'}:=by
 have nit:∀b u,H b=some u->b≠it:=fun b u e z=>by rw [z,hn] at e;cases e
 refine I.step (g':=s.gens) (d':=s.drawn) (ch:=[it]) (fun b hb=> ?_) (fun b o _ _ hc e _=>k b o (fun z=>hc (by simp [z])) e) (fun b o _ _ hc e _=>⟨o.slots,k b o (fun z=>hc (by simp [z])) e⟩) (fun _ _ _ _ n=>n)
  (fun b o hc e=>⟨o,k b o (fun z=>hc (by simp [z])) e⟩) (fun _ _ e=>e) (fun _ _ _ e=>e) (fun b ps e=>⟨#[],by rw [e];simp⟩) (fun m hm=> ?_) (fun b u e=> ?_) I.bare
 ·have e:b=it:=by simpa using hb
  subst e
  exact⟨h1,hL,h2,h3⟩
 ·obtain⟨o,es,ep,ho,r⟩:=hm
  exact⟨o,es,ep,k _ o (Y8 hL) ho,r⟩
 ·refine(I.hok b u e).stay (fun c v hc q=>k c v ?_ q) (fun _ q=>q) fun _ _ q=>q
  rcases hc with z|z
  ·rw [z];exact nit b u e
  ·exact nit c _ z
theorem Inv.tok(I:Inv X pins σ H s)(t:Nat):Inv X pins σ H {s with toks:=t}:=I.un (h':=s.heap) (t':=t) Un.refl I.hok
theorem Inv.kept{t':Nat}(I:Inv X pins σ H s)(k:∀b u,s.heap.get? b=some u->h'.get? b=some u):Inv X pins σ H {s with heap:=h',toks:=t'}:=I.un (Un.kept k) (I.hok.kept k)
theorem Inv.laid{a:Addr}{o:HO}{t':Nat}(I:Inv X pins σ H s)(k:∀b u,s.heap.get? b=some u->h'.get? b=some u)(hp:s.heap.objs.size<=a)(new:eI X.prog X.w (upd H a o) h' a o):
  Inv X pins σ (upd H a o) {s with heap:=h',toks:=t'}:=I.un (Un.laid k hp (I.hok.fresh hp)) (I.hok.laid k hp new)
theorem Inv.write{x e:Addr}{o:HO}{t':Nat}(I:Inv X pins σ H s)(mu:Mut (H x))(he:e=x\/H e=some (.own x))(k:∀b u,b≠e->s.heap.get? b=some u->h'.get? b=some u)(heo:∃u,h'.get? e=some u)
  (new:eI X.prog X.w (upd H x o) h' x o):Inv X pins σ (upd H x o) {s with heap:=h',toks:=t'}:=I.un (Un.write mu he k heo) (I.hok.write mu he k heo new)
theorem Inv.pins_of{pins':tzB}(I:Inv X pins σ H s)(h:∀p∈pins',s.heap.get? p.1=some p.2/\H p.1=none/\p.1≠X.env.locals/\p.1∉X.fs/\∀v,p.2.data≠ .cell v):Inv X pins' σ H s:=
 ⟨I.ok,I.os,I.bare,I.base,I.loc,I.cell,I.free,I.freeC,fun p hp=>(Zp.mp hp).elim (fun z=>I.pin p (Zq _ z)) (h p),I.hok,I.len⟩
theorem yf1{N:List Str}(hN:N.Nodup){i j:Nat}{x:Str}(a:N[i]? =some x)(b:N[j]? =some x):i=j:=by
 obtain⟨h1,e1⟩:=Z8.mp a
 obtain⟨h2,e2⟩:=Z8.mp b
 exact(List.getElem_inj hN).mp (e1.trans e2.symm)
theorem xb9{M:Model}{A:Around}{E:Value->Shared->Prop}{i:Nat}{x:Str}{v:V}{u:Value}{Q:Unit->Shared->Prop}(I:Inv X pins σ H s)(hN:X.N.Nodup)(hi:X.N[i]? =some x)(hx:Loc X.env.scope x)(r:cV v u)
  (h:∀s',Inv X pins (σ.set i (some v)) H s'->(∃a,Heap.SameBut a s.heap s'.heap/\(a=X.env.locals\/X.env.cells.lookup x=some a))->Q () s') (hf:X.fn x=true\/X.env.scope.names.lookup x=some .local:=by first|exact .inl rfl|exact .inr rfl|assumption):wpAny M A (storeName X.env x u) Q E s:=by
 obtain⟨m,hn,hl⟩:=id I.loc
 have hcls:(X.env.scope.kind== .class||(X.env.scope.kind== .module&&X.env.locals !=X.env.globals))=false:=by rw [I.ok.kind];rfl
 have hiσ:i<σ.length:=by rw [I.len];exact(Z8.mp hi).1
 have cne:=I.cne
 have tracked:∀{a:Addr} {h':Heap},(∃o,s.heap.get? a=some o/\H a=none)->Heap.SameBut a s.heap h'->HOk X.prog X.w H h':=fun {a h'} ha hs b ob e=>by
  obtain⟨_,_,hfree⟩:=ha
  refine(I.hok b ob e).stay (fun c w' hc q=>(hs.2 c ?_).trans q) (fun _ q=>q) fun _ _ q=>q
  rintro rfl
  rcases hc with rfl|hc
  ·rw [hfree] at e;cases e
  ·rw [hfree] at hc;cases hc
 rcases hx with hk|hk
 ·refine wpAny_storeName_local hk hn (fun h' hn' hs=> ?_) hcls
  obtain⟨oL,_,_,hoL,_⟩:=id hn
  refine h _ ⟨I.ok,I.os,I.bare,⟨fun b o e n hb hx=> ?_,fun b o e n hb hx=> ?_,I.base.free,fun b o e hx=> ?_,I.base.tups,I.base.frzs,I.base.tbls⟩,⟨_,hn',fun j y v' e1 e2 e3=> ?_⟩,fun y c e=> ?_,I.free,I.freeC,fun p hp=> ?_,tracked ⟨oL,hoL,I.free⟩ hs,by simpa using I.len⟩ ⟨_,hs,.inl rfl⟩
  ·exact(hs.2 b (ZF (Zz (Zm e) I.ok.above))).trans (I.base.keep b o e n hb hx)
  ·obtain⟨sl,e1⟩:=I.base.slot b o e n hb hx
   exact⟨sl,(hs.2 b (ZF (Zz (Zm e) I.ok.above))).trans e1⟩
  ·obtain⟨o',e1⟩:=I.base.there b o e hx
   exact⟨o',(hs.2 b (ZF (Zz (Zm e) I.ok.above))).trans e1⟩
  ·by_cases hj:j=i
   ·subst hj
    rw [hi] at e1;cases e1
    rw [ZE hiσ] at e2
    cases e2
    exact⟨u,r,.inl ⟨hk,by simp⟩⟩
   ·rw [Zy (Y8 hj)] at e2
    obtain⟨u',r',q⟩:=hl j y v' e1 e2 e3
    refine⟨u',r',?_⟩
    rcases q with ⟨k,e⟩|⟨k,c,e,z⟩
    ·refine .inl ⟨k,?_⟩
     have:y≠x:=fun e=>hj (yf1 hN e1 (e▸hi))
     simp [this,e]
    ·exact .inr ⟨k,c,e,z.sameBut hs (cne y c e)⟩
  ·obtain⟨w',z⟩:=I.cell y c e
   exact⟨w',z.sameBut hs (cne y c e)⟩
  ·obtain⟨e,n,ne,nf,d⟩:=I.pin p hp
   exact⟨(hs.2 p.1 ne).trans e,n,ne,nf,d⟩
 ·have hfn:X.fn x=true:=by
   rcases hf with z|z
   ·exact z
   ·rw [z] at hk;cases hk
  obtain⟨c,hc⟩:=I.ok.has x (.inl hk)
  obtain⟨w',z⟩:=I.cell x c hc
  refine wpAny_storeName_cell I.ok.kind hk hc z (fun h' hc' hs=> ?_)
  obtain⟨oc,hoc,hocd⟩:=id z
  refine h {s with heap:=h'} ⟨I.ok,I.os,I.bare,⟨fun b o e n hb hx=> ?_,fun b o e n hb hx=> ?_,I.base.free,fun b o e hx=> ?_,I.base.tups,I.base.frzs,I.base.tbls⟩,⟨m,hn.sameBut hs (Y8 (cne x c hc)),fun j y v' e1 e2 e3=> ?_⟩,fun y c' e=> ?_,I.free,I.freeC,fun p hp=> ?_,tracked ⟨oc,hoc,I.freeC x c hc⟩ hs,by simpa using I.len⟩ ⟨c,hs,.inr hc⟩
  ·exact(hs.2 b (ZF (Zz (Zm e) (I.ok.cab x c hfn hc)))).trans (I.base.keep b o e n hb hx)
  ·obtain⟨sl,e1⟩:=I.base.slot b o e n hb hx
   exact⟨sl,(hs.2 b (ZF (Zz (Zm e) (I.ok.cab x c hfn hc)))).trans e1⟩
  ·obtain⟨o',e1⟩:=I.base.there b o e hx
   exact⟨o',(hs.2 b (ZF (Zz (Zm e) (I.ok.cab x c hfn hc)))).trans e1⟩
  ·by_cases hj:j=i
   ·subst hj
    rw [hi] at e1;cases e1
    rw [ZE hiσ] at e2
    cases e2
    exact⟨u,r,.inr ⟨.inl hk,c,hc,hc'⟩⟩
   ·rw [Zy (Y8 hj)] at e2
    obtain⟨u',r',q⟩:=hl j y v' e1 e2 e3
    refine⟨u',r',?_⟩
    rcases q with q|⟨k,c',e,z'⟩
    ·exact .inl q
    ·refine .inr ⟨k,c',e,z'.sameBut hs ?_⟩
     rintro rfl
     exact hj (yf1 hN e1 (I.ok.inj _ _ _ e hc▸hi))
  ·by_cases hcc:c'=c
   ·subst hcc;exact⟨_,hc'⟩
   ·obtain⟨w2,z2⟩:=I.cell y c' e
    exact⟨w2,z2.sameBut hs hcc⟩
  ·obtain⟨e,n,ne,nf,d⟩:=I.pin p hp
   refine⟨(hs.2 p.1 ?_).trans e,n,ne,nf,d⟩
   intro q
   rw [q,hoc] at e
   have q':oc=p.2:=ZD e
   exact d w' (by rw [<-q'];exact hocd)
theorem yf2{M:Model}{A:Around}{E:Value->Shared->Prop}{i:Nat}{x:Str}{v:V}{u:Value}{Q:Unit->Shared->Prop}(I:Inv X pins σ H s)(hN:X.N.Nodup)(hi:X.N[i]? =some x)(hx:Loc X.env.scope x)(r:cV v u)
  (h:∀s',Inv X pins (σ.set i (some v)) H s'->Q () s') (hf:X.fn x=true\/X.env.scope.names.lookup x=some .local:=by first|exact .inl rfl|exact .inr rfl|assumption):wpAny M A (storeName X.env x u) Q E s:=
 xb9 I hN hi hx r (fun s' I' _=>h s' I') hf
theorem Inv.call'{s':Shared}{ch:List Addr}(I:Inv X pins σ H s)(ho:s'.os=s.os)(u:Un (frs X.stack) ch H H' s.heap s'.heap)(hok:HOk X.prog X.w H' s'.heap)(hg:AllBare s'.gens)
  (hch:∀b∈ch,(b∈X.ex\/X.s₀.heap.objs.size<=b)/\b≠X.env.locals/\(∀x c,X.env.cells.lookup x=some c->c≠b)/\∀p∈X.pn++pins,p.1≠b):Inv X pins σ H' s':=by
 obtain⟨h',g',d',t',o'⟩:=s'
 have e:o'=s.os:=ho
 subst e
 exact I.call (g':=g') (t':=t') (d':=d') u hok hg hch
end
abbrev XK:=Value->Option Addr->Hp->Prop
abbrev St:=List (Option V)
abbrev VK:=V->Hp->Prop
abbrev TE:=St->Hp->VK->Prop
abbrev TT:=St->Hp->(Bool->Hp->Prop)->Prop
abbrev TA:=St->Hp->(List V->Hp->Prop)->Prop
structure Ends where
 nx:St->Hp->Prop
 rt:VK
 bk:St->Hp->Prop:=fun _ _=>False
 ct:St->Hp->Prop:=fun _ _=>False
abbrev TS:=Ends->St->Hp->Prop
def EP(X:Cx)(pins:tzB)(σ:St)(Q:VK)(u:Value)(s':Shared):Prop:=∃v H',Inv X pins σ H' s'/\cV v u/\Q v H'
def TP(X:Cx)(pins:tzB)(σ:St)(Q:Bool->Hp->Prop)(b:Bool)(s':Shared):Prop:=∃H',Inv X pins σ H' s'/\Q b H'
def AP(X:Cx)(pins:tzB)(σ:St)(Q:List V->Hp->Prop)(us:List Value)(s':Shared):Prop:=∃vs H',Inv X pins σ H' s'/\bW vs us/\Q vs H'
def SP(X:Cx)(pins:tzB)(D:Ends)(f:Flow)(s':Shared):Prop:=
 match f with
 | .next=>∃σ' H',Inv X pins σ' H' s'/\D.nx σ' H'
 | .brk=>∃σ' H',Inv X pins σ' H' s'/\D.bk σ' H'
 | .cont=>∃σ' H',Inv X pins σ' H' s'/\D.ct σ' H'
 | .ret u=>∃v σ' H',Inv X pins σ' H' s'/\cV v u/\D.rt v H'
def PEd(X:Cx)(e:Expr)(t:TE):Prop:=
 ∀(pins:tzB) (s:Shared) (σ:St) (H:Hp) (Q:VK),Inv X pins σ H s->t σ H Q->wpAny (model X.prog X.w) X.A (eval e X.env) (EP X pins σ Q) X.xe s
structure PE(X:Cx)(e:Expr)(t:TE):Prop where
 go:PEd X e t
instance {X:Cx} {e:Expr} {t:TE}:CoeFun (PE X e t) fun _=>PEd X e t:=⟨PE.go⟩
def PTd(X:Cx)(e:Expr)(t:TT):Prop:=
 ∀(pins:tzB) (s:Shared) (σ:St) (H:Hp) (Q:Bool->Hp->Prop),Inv X pins σ H s->t σ H Q->wpAny (model X.prog X.w) X.A (isTrue e X.env (eval e X.env)) (TP X pins σ Q) X.xe s
structure PT(X:Cx)(e:Expr)(t:TT):Prop where
 go:PTd X e t
instance {X:Cx} {e:Expr} {t:TT}:CoeFun (PT X e t) fun _=>PTd X e t:=⟨PT.go⟩
def PWd(X:Cx)(e:Expr)(t:TT):Prop:=
 ∀(whole:Sem Value) (pins:tzB) (s:Shared) (σ:St) (H:Hp) (Q:Bool->Hp->Prop),Inv X pins σ H s->t σ H Q->wpAny (model X.prog X.w) X.A (isTrue e X.env whole) (TP X pins σ Q) X.xe s
structure PW(X:Cx)(e:Expr)(t:TT):Prop where
 go:PWd X e t
instance {X:Cx} {e:Expr} {t:TT}:CoeFun (PW X e t) fun _=>PWd X e t:=⟨PW.go⟩
theorem PW.pt{X:Cx}{e:Expr}{t:TT}(h:PW X e t):PT X e t:=⟨h _⟩
def PAd(X:Cx)(es:List Expr)(t:TA):Prop:=
 ∀(pos:Pos) (pins:tzB) (s:Shared) (σ:St) (H:Hp) (Q:List V->Hp->Prop),Inv X pins σ H s->t σ H Q->wpAny (model X.prog X.w) X.A (spliced (backTo pos (starEach es X.env))) (AP X pins σ Q) X.xe s
structure PA(X:Cx)(es:List Expr)(t:TA):Prop where
 go:PAd X es t
instance {X:Cx} {es:List Expr} {t:TA}:CoeFun (PA X es t) fun _=>PAd X es t:=⟨PA.go⟩
def PSd(X:Cx)(st:Stmt)(t:TS):Prop:=
 ∀(pins:tzB) (s:Shared) (σ:St) (H:Hp) (D:Ends),Inv X pins σ H s->t D σ H->wpAny (model X.prog X.w) X.A (exec st X.env) (SP X pins D) X.xe s
structure PS(X:Cx)(st:Stmt)(t:TS):Prop where
 go:PSd X st t
instance {X:Cx} {st:Stmt} {t:TS}:CoeFun (PS X st t) fun _=>PSd X st t:=⟨PS.go⟩
def wm2(X:Cx)(st:List Stmt)(t:TS):Prop:=
 ∀(pins:tzB) (s:Shared) (σ:St) (H:Hp) (D:Ends),Inv X pins σ H s->t D σ H->wpAny (model X.prog X.w) X.A (execs st X.env) (SP X pins D) X.xe s
structure PSs(X:Cx)(st:List Stmt)(t:TS):Prop where
 go:wm2 X st t
instance {X:Cx} {st:List Stmt} {t:TS}:CoeFun (PSs X st t) fun _=>wm2 X st t:=⟨PSs.go⟩
theorem thn{α:Type}{t:Sem α}{Q Q':α->Shared->Prop}{M:Model}{A:Around}{E:Value->Shared->Prop}{s:Shared}(h:wpAny M A t Q E s)(hQ:∀a s,Q a s->Q' a s):wpAny M A t Q' E s:=ZW h hQ fun _ _ x=>x
section
variable{X:Cx}
def wm3(i:Nat):TE:=fun σ H Q=>∃v,σ[i]? =some (some v)/\Q v H
def tC(v:V):TE:=fun _ H Q=>Q v H
theorem wU{i:Nat}{x:Str}{pos:Pos}(hN:X.N[i]? =some x)(hv:Vis X.env.scope x)(hd:NDb x:=by decide)(hcd:(x==("__classdict__":Str))=false:=by decide):PE X (.Name x pos) (wm3 i):=⟨by
 intro pins s σ H Q I h
 obtain⟨v,e,h⟩:=h
 obtain⟨m,hn,hl⟩:=I.loc
 obtain⟨u,r,l⟩:=hl i x v hN e hv
 have fin:EP X pins σ Q u s:=⟨v,H,I,r,h⟩
 rcases l with ⟨hk,hm⟩|⟨hk,c,hc,hcell⟩
 ·exact wpAny_Name (wpAny_loadName_local I.ok.kind hk hn hm fin) hd
 ·rcases hk with hk|hk
  ·exact wpAny_Name (wpAny_loadName_cell I.ok.kind hk hc hcell fin) hd
  ·exact wpAny_Name (wpAny_loadName_free I.ok.kind hk hc hcell fin hcd) hd⟩
theorem iS{i j pos}:PE X (.Constant (.int i) j pos) (tC (.int i)):=⟨fun _ _ _ H _ I h=>wpAny_Constant_int ⟨.int i,H,I.tok _,⟨_,rfl⟩,h⟩⟩
theorem xx1{b j pos}:PE X (.Constant (.bool b) j pos) (tC (.bl b)):=⟨fun _ _ _ H _ I h=>Constant_bool ⟨.bl b,H,I,rfl,h⟩⟩
theorem xc0{j pos}:PE X (.Constant .none j pos) (tC .non):=⟨fun _ _ _ H _ I h=>Constant_none ⟨.non,H,I,rfl,h⟩⟩
theorem xc1{x j pos}:PE X (.Constant (.str x) j pos) (tC (.str x)):=⟨fun _ _ _ H _ I h=>Calls.Constant_str ⟨.str x,H,I.tok _,⟨_,rfl⟩,h⟩⟩
def Gl(X:Cx)(x:Str):Prop:=X.env.kindOf x=some .globalImplicit
theorem tZ{E:Value->Shared->Prop}{pins:tzB}{s:Shared}{σ:St}{H:Hp}{x:Str}{u:Value}{pos:Pos}{Q:Value->Shared->Prop}(I:Inv X pins σ H s)(hg:Gl X x)(hm:X.mg x=some u)(h:Q u s)
  (hd:NDb x:=by decide):wpAny (model X.prog X.w) X.A (eval (.Name x pos) X.env) Q E s:=
 YR I.ok.kind hg (Wu (by rw [I.ok.glob];exact I.mod.glob.keeps I.bk) hm h) hd
theorem wV{E:Value->Shared->Prop}{pins:tzB}{s:Shared}{σ:St}{H:Hp}{x:Str}{u:Value}{pos:Pos}{Q:Value->Shared->Prop}(I:Inv X pins σ H s)(hg:Gl X x)(hm:X.mg x=none)(hv:bootBuiltins x=some u)(h:Q u s)
  (hn:x≠"__name__":=by decide) (hd:NDb x:=by decide):wpAny (model X.prog X.w) X.A (eval (.Name x pos) X.env) Q E s:=by
 obtain⟨mb,h1,h2⟩:=I.mod.blt
 exact YR I.ok.kind hg (Calls.loadGlobal_builtin (by rw [I.ok.glob];exact I.mod.glob.keeps I.bk) hm (by rw [I.ok.blt];exact h1.keeps I.bk) ((h2 x hn).trans hv) h) hd
theorem xz2{x:Str}{v:V}{u:Value}{pos:Pos}(hg:Gl X x)(hm:X.mg x=some u)(r:cV v u)(hd:NDb x:=by decide):PE X (.Name x pos) (tC v):=
 ⟨fun _ _ _ H _ I h=>tZ I hg hm ⟨v,H,I,r,h⟩ hd⟩
variable{a b:Expr}{ta tb:TE}{pos:Pos}
def PC(X:Cx)(op:CmpOp)(a b:Expr)(t:TE):Prop:=
 ∀(pins:tzB) (s:Shared) (σ:St) (H:Hp) (Q:VK),Inv X pins σ H s->t σ H Q->
  wpAny (model X.prog X.w) X.A (eval a X.env) (fun v s₁=>wpAny (model X.prog X.w) X.A (eval b X.env) (fun u s₂=>wpAny (model X.prog X.w) X.A (compareOp op v u) (EP X pins σ Q) X.xe s₂) X.xe s₁) X.xe s
def tB(t:TE):TT:=fun σ H Q=>t σ H fun x H1=>∃c,x= .bl c/\Q c H1
theorem wg0{op:CmpOp}{t:TE}(h:PC X op a b t)(h1:behindInMarks op b=false:=by first|exact nobehind _ (by decide) (by decide)|rfl):PT X (.Compare a [op] [b] pos) (tB t):=⟨by
 intro pins s σ H Q I hw
 refine wpAny_isTrue_Compare1 (thn (h pins s σ H _ I hw) fun v s1 h1=>thn h1 fun u s2 h2=>thn h2 fun c s3 ⟨x,H1,I1,r1,q1⟩=> ?_) h1
 obtain⟨d,rfl,q⟩:=q1
 cases r1
 exact Y3 ⟨H1,I1,q⟩⟩
variable{tA tB':TT}{rest:List Expr}
def wu2(t u:TT):TT:=fun σ H Q=>t σ H fun c H1=>if c=true then u σ H1 Q else Q false H1
def tOr(t u:TT):TT:=fun σ H Q=>t σ H fun c H1=>if c=true then Q true H1 else u σ H1 Q
def wu3(t:TT):TT:=fun σ H Q=>t σ H fun c H1=>Q (!c) H1
theorem xz3(ha:PT X a tA):PW X (.BoolOp .And [a] pos) tA:=⟨by
 intro wh pins s σ H Q I h
 refine isTrue_and (thn (ha pins s σ H Q I h) fun c s1 e=> ?_)
 cases c with
 |true=>exact isTrue_and_nil e
 |false=>exact e⟩
theorem wg1(ha:PT X a tA):PW X (.BoolOp .Or [a] pos) tA:=⟨by
 intro wh pins s σ H Q I h
 refine isTrue_or (thn (ha pins s σ H Q I h) fun c s1 e=> ?_)
 cases c with
 |false=>exact isTrue_or_nil e
 |true=>exact e⟩
theorem wg2(ha:PT X a tA)(hb:PW X (.BoolOp .And (b::rest) pos) tB'):PW X (.BoolOp .And (a::b::rest) pos) (wu2 tA tB'):=⟨by
 intro wh pins s σ H Q I h
 refine isTrue_and (thn (ha pins s σ H _ I h) fun c s1 ⟨H1,I1,q1⟩=> ?_)
 cases c with
 |true=>exact hb wh pins s1 σ H1 Q I1 q1
 |false=>exact⟨H1,I1,q1⟩⟩
theorem wo9(ha:PT X a tA)(hb:PW X (.BoolOp .Or (b::rest) pos) tB'):PW X (.BoolOp .Or (a::b::rest) pos) (tOr tA tB'):=⟨by
 intro wh pins s σ H Q I h
 refine isTrue_or (thn (ha pins s σ H _ I h) fun c s1 ⟨H1,I1,q1⟩=> ?_)
 cases c with
 |true=>exact⟨H1,I1,q1⟩
 |false=>exact hb wh pins s1 σ H1 Q I1 q1⟩
theorem wg3(ha:PT X a tA):PT X (.UnaryOp .Not a pos) (wu3 tA):=⟨by
 intro pins s σ H Q I h
 exact isTrue_not (ha pins s σ H (fun c H1=>Q (!c) H1) I h)⟩
def wr7(ta tb:TE):TE:=fun σ H Q=>ta σ H fun x H1=>∃c,x= .bl c/\if c=true then tb σ H1 Q else Q (.bl false) H1
def wu4(ta tb:TE):TE:=fun σ H Q=>ta σ H fun x H1=>∃c,x= .bl c/\if c=true then Q (.bl true) H1 else tb σ H1 Q
theorem wg4{op}{t:TE}(h:PE X a t):PE X (.BoolOp op [a] pos) t:=⟨fun pins s σ H Q I hw=>BoolOp_one (h pins s σ H Q I hw)⟩
theorem wg5(ha:PE X a ta)(hb:PE X (.BoolOp .And (b::rest) pos) tb):PE X (.BoolOp .And (a::b::rest) pos) (wr7 ta tb):=⟨by
 intro pins s σ H Q I h
 refine BoolOp_and (thn (ha pins s σ H _ I h) fun v s1 ⟨x,H1,I1,r1,q1⟩=> ?_)
 obtain⟨c,rfl,q1⟩:=q1
 cases r1
 refine Y3 ?_
 cases c with
 |true=>exact hb pins s1 σ H1 Q I1 q1
 |false=>exact⟨.bl false,H1,I1,rfl,q1⟩⟩
theorem wp0(ha:PE X a ta)(hb:PE X (.BoolOp .Or (b::rest) pos) tb):PE X (.BoolOp .Or (a::b::rest) pos) (wu4 ta tb):=⟨by
 intro pins s σ H Q I h
 refine BoolOp_or (thn (ha pins s σ H _ I h) fun v s1 ⟨x,H1,I1,r1,q1⟩=> ?_)
 obtain⟨c,rfl,q1⟩:=q1
 cases r1
 refine Y3 ?_
 cases c with
 |false=>exact hb pins s1 σ H1 Q I1 q1
 |true=>exact⟨.bl true,H1,I1,rfl,q1⟩⟩
end
def SqL(K:tz0)(H:Hp)(a:Addr)(xs:List V):Prop:=
 Rd H a (.lst xs)\/
  ∃(o:Obj) (its:Array Value) (n:Nat),K.lookup a=some o/\o.cls= .type "list"/\o.dict=none/\o.data= .seq its n/\its.size<=sizeLine/\bW xs its.toList
def SqT(K:tz0)(H:Hp)(a:Addr)(xs:List V):Prop:=
 Rd H a (.tup xs)\/
  ∃(o:Obj) (its:Array Value) (n:Nat),K.lookup a=some o/\o.cls= .type "tuple"/\o.data= .seq its n/\its.size<=sizeLine/\bW xs its.toList
def wu5:Value->Option V
 | .none=>some .non
 | .bool b=>some (.bl b)
 | .int i _=>some (.int i)
 | .str x _=>some (.str x)
 | .bytes b _=>some (.byt b)
 | .float b _=>some (.flt b)
 | .ref a=>some (.ref a)
 | .type n=>some (.ty n)
 |_=>none
theorem cV.abs{x:V}{u:Value}(r:cV x u):wu5 u=some x:=by
 cases x with
 |non=>cases r;rfl
 |bl _=>cases r;rfl
 |int _=>obtain⟨t,rfl⟩:=r;rfl
 |str _=>obtain⟨t,rfl⟩:=r;rfl
 |byt _=>obtain⟨t,rfl⟩:=r;rfl
 |flt _=>obtain⟨t,rfl⟩:=r;rfl
 |ref _=>cases r;rfl
 |ty _=>cases r;rfl
theorem cV.inj{x y:V}{u:Value}(r:cV x u)(q:cV y u):x=y:=ZD (r.abs.symm.trans q.abs)
theorem bW.inj:∀{xs ys:List V} {us:List Value},bW xs us->bW ys us->xs=ys
 |_,_,_,.nil,.nil=>rfl
 |_,_,_,.cons r t,.cons r' t'=>by rw [r.inj r',bW.inj t t']
section
variable{X:Cx}{pins:tzB}{σ:St}{H:Hp}{s:Shared}{a:Addr}{xs ys:List V}
theorem Inv.list(I:Inv X pins σ H s)(h:SqL X.K H a xs):∃its:List Value,bW xs its/\PlainL s.heap a its.toArray/\xs.length<=sizeLine:=by
 rcases h with h|⟨o,its,n,hk,hc,hd,hs,hz,r⟩
 ·obtain⟨z,its,n,r,e⟩:=h.ok I.hok
  exact⟨its,r,⟨_,n,e,rfl,rfl,rfl⟩,z⟩
 ·refine⟨its.toList,r,⟨o,n,I.kIn a o hk,hc,hd,by simpa using hs⟩,?_⟩
  have e:=r.length
  simp only [ZZ] at e
  omega
theorem Inv.tuple(I:Inv X pins σ H s)(h:SqT X.K H a xs):∃its:List Value,bW xs its/\IsTup s.heap a its.toArray/\xs.length<=sizeLine:=by
 rcases h with h|⟨o,its,n,hk,hc,hs,hz,r⟩
 ·obtain⟨z,its,r,p⟩:=h.ok I.hok
  exact⟨its,r,p,z⟩
 ·refine⟨its.toList,r,⟨o,I.kIn a o hk,hc,n,by simpa using hs⟩,?_⟩
  have e:=r.length
  simp only [ZZ] at e
  omega
theorem Inv.list_inj(I:Inv X pins σ H s)(h:SqL X.K H a xs)(h':SqL X.K H a ys):xs=ys:=by
 obtain⟨its,r,⟨o,n,e,_,_,d⟩,_⟩:=I.list h
 obtain⟨its',r',⟨o',n',e',_,_,d'⟩,_⟩:=I.list h'
 rw [e] at e';cases e'
 rw [d] at d'
 injection d' with d1 _
 have:its=its':=by simpa using ZV Array.toList d1
 subst this
 exact r.inj r'
theorem Inv.tuple_inj(I:Inv X pins σ H s)(h:SqT X.K H a xs)(h':SqT X.K H a ys):xs=ys:=by
 obtain⟨its,r,⟨o,e,_,n,d⟩,_⟩:=I.tuple h
 obtain⟨its',r',⟨o',e',_,n',d'⟩,_⟩:=I.tuple h'
 rw [e] at e';cases e'
 rw [d] at d'
 injection d' with d1 _
 have:its=its':=by simpa using ZV Array.toList d1
 subst this
 exact r.inj r'
end
abbrev Cx.wish(X:Cx)(E:Value->Shared->Prop):Cx:={X with xe:=E}
abbrev Cx.nox(X:Cx):Cx:=X.wish fun _ _=>False
theorem Cx.Ok.wish{X:Cx}(ok:X.Ok)(E:Value->Shared->Prop):(X.wish E).Ok:=
 ⟨ok.mod,ok.kind,ok.glob,ok.blt,ok.above,ok.inj,ok.has,ok.cab,ok.hd,ok.frames,ok.stk,ok.exf,ok.bs,ok.bsz,ok.noex,ok.exfs,ok.funs,ok.frf⟩
theorem Cx.Ok.unwish{X:Cx}{E:Value->Shared->Prop}(ok:(X.wish E).Ok):X.Ok:=
 ⟨ok.mod,ok.kind,ok.glob,ok.blt,ok.above,ok.inj,ok.has,ok.cab,ok.hd,ok.frames,ok.stk,ok.exf,ok.bs,ok.bsz,ok.noex,ok.exfs,ok.funs,ok.frf⟩
section
variable{X:Cx}{pins:tzB}{σ:St}{H:Hp}{s:Shared}{E:Value->Shared->Prop}
theorem Inv.wish(I:Inv X pins σ H s)(E:Value->Shared->Prop):Inv (X.wish E) pins σ H s:=⟨I.ok.wish E,I.os,I.bare,I.base,I.loc,I.cell,I.free,I.freeC,I.pin,I.hok,I.len⟩
theorem Inv.unwish(I:Inv (X.wish E) pins σ H s):Inv X pins σ H s:=⟨I.ok.unwish,I.os,I.bare,I.base,I.loc,I.cell,I.free,I.freeC,I.pin,I.hok,I.len⟩
theorem SP.unwish{D:Ends}{f:Flow}{s':Shared}(h:SP (X.wish E) pins D f s'):SP X pins D f s':=by
 cases f with
 |next=>obtain⟨σ',H',I,q⟩:=h;exact⟨σ',H',I.unwish,q⟩
 |brk=>obtain⟨σ',H',I,q⟩:=h;exact⟨σ',H',I.unwish,q⟩
 |cont=>obtain⟨σ',H',I,q⟩:=h;exact⟨σ',H',I.unwish,q⟩
 |ret u=>obtain⟨v,σ',H',I,r,q⟩:=h;exact⟨v,σ',H',I.unwish,r,q⟩
theorem PT.nox{e:Expr}{t:TT}(h:PT X.nox e t):PT X e t:=⟨fun pins s σ H Q I hw=>
 ZW (h pins s σ H Q (I.wish _) hw) (fun _ _ ⟨H',I',q⟩=>⟨H',I'.unwish,q⟩) fun _ _ z=>False.elim z⟩
theorem PSs.nox{st:List Stmt}{t:TS}(h:PSs X.nox st t):PSs X st t:=⟨fun pins s σ H D I hw=>
 ZW (h pins s σ H D (I.wish _) hw) (fun _ _ q=>q.unwish) fun _ _ z=>False.elim z⟩
end
section
variable{X:Cx}{st:Stmt}{rest:List Stmt}{t u:TS}{e:Expr}{te:TE}{pos:Pos}
def wr8:TS:=fun D σ H=>D.nx σ H
def wu6(t u:TS):TS:=fun D σ H=>t {D with nx:=u D} σ H
theorem yp1:PSs X [] wr8:=⟨fun _ _ σ H _ I h=>YL ⟨σ,H,I,h⟩⟩
theorem lX(h1:PS X st t)(h2:PSs X rest u):PSs X (st::rest) (wu6 t u):=⟨by
 intro pins s σ H D I h
 refine Xc (thn (h1 pins s σ H {D with nx:=u D} I h) fun f s1 q=> ?_)
 cases f with
 |next=>
  obtain⟨σ',H',I',q⟩:=q
  exact h2 pins s1 σ' H' D I' q
 |ret v=>exact q
 |brk=>exact q
 |cont=>exact q⟩
theorem zf3(h1:PS X st t):PSs X [st] t:=⟨by
 intro pins s σ H D I h
 refine Xc (thn (h1 pins s σ H D I h) fun f s1 q=> ?_)
 cases f with
 |next=>exact YL q
 |ret v=>exact q
 |brk=>exact q
 |cont=>exact q⟩
theorem Inv.quiet{pins:tzB}{σ:St}{H:Hp}{s:Shared}(I:Inv X pins σ H s):interactive X.env=false:=by simp [interactive,I.ok.kind]
def wr9(te:TE):TS:=fun D σ H=>te σ H fun _ H1=>D.nx σ H1
theorem xz4(he:PE X e te)(hs:swapsWith e none pos.line X.env=pure false:=by rfl):PS X (.Expr e pos) (wr9 te):=⟨by
 intro pins s σ H D I h
 exact wpAny_Expr_any (thn (he pins s σ H _ I h) fun v s1 ⟨x,H1,I1,r1,q1⟩=>⟨σ,H1,I1,q1⟩) I.quiet hs⟩
def wu7(te:TE):TS:=fun D σ H=>te σ H D.rt
theorem za7(he:PE X e te):PS X (.Return (some e) pos) (wu7 te):=⟨by
 intro pins s σ H D I h
 exact wpAny_Return_some (thn (he pins s σ H _ I h) fun v s1 ⟨x,H1,I1,r1,q1⟩=>⟨x,σ,H1,I1,r1,q1⟩)⟩
def wu8(c:TT)(t u:TS):TS:=fun D σ H=>c σ H fun b H1=>if b=true then t D σ H1 else u D σ H1
theorem yu3{c:Expr}{a b:List Stmt}{tc:TT}(hc:PT X c tc)(ha:PSs X a t)(hb:PSs X b u):PS X (.If c a b pos) (wu8 tc t u):=⟨by
 intro pins s σ H D I h
 refine wpAny_If (thn (hc pins s σ H _ I h) fun d s1 ⟨H1,I1,q1⟩=> ?_)
 cases d with
 |true=>exact ha pins s1 σ H1 D I1 q1
 |false=>exact hb pins s1 σ H1 D I1 q1⟩
def wm4:TS:=fun _ _ _=>False
theorem xo2:PS X st wm4:=⟨fun _ _ _ _ _ _ h=>h.elim⟩
end
abbrev TG:=V->St->Hp->(St->Hp->Prop)->Prop
abbrev TGs:=List V->St->Hp->(St->Hp->Prop)->Prop
def PGd(X:Cx)(target:Expr)(t:TG):Prop:=
 ∀(pins:tzB) (s:Shared) (σ:St) (H:Hp) (v:V) (u:Value) (Q:St->Hp->Prop),Inv X pins σ H s->cV v u->t v σ H Q->
  wpAny (model X.prog X.w) X.A (assign target X.env u) (fun _ s'=>∃σ' H',Inv X pins σ' H' s'/\Q σ' H') X.xe s
structure PG(X:Cx)(target:Expr)(t:TG):Prop where
 go:PGd X target t
instance {X:Cx} {target:Expr} {t:TG}:CoeFun (PG X target t) fun _=>PGd X target t:=⟨PG.go⟩
def wm5(X:Cx)(ts:List Expr)(t:TGs):Prop:=
 ∀(pins:tzB) (s:Shared) (σ:St) (H:Hp) (vs:List V) (us:List Value) (Q:St->Hp->Prop),Inv X pins σ H s->bW vs us->t vs σ H Q->
  wpAny (model X.prog X.w) X.A (assignInOrder ((assignEach ts X.env).map (·.2)) us) (fun _ s'=>∃σ' H',Inv X pins σ' H' s'/\Q σ' H') X.xe s
structure PGs(X:Cx)(ts:List Expr)(t:TGs):Prop where
 go:wm5 X ts t
instance {X:Cx} {ts:List Expr} {t:TGs}:CoeFun (PGs X ts t) fun _=>wm5 X ts t:=⟨PGs.go⟩
abbrev xv8:=V->V->V->Hp->(Hp->Prop)->Prop
def wm6(X:Cx)(t:xv8):Prop:=
 ∀(pins:tzB) (s:Shared) (σ:St) (H:Hp) (o i v:V) (ov iv u:Value) (Q:Hp->Prop),Inv X pins σ H s->cV o ov->cV i iv->cV v u->t o i v H Q->
  wpAny (model X.prog X.w) X.A (setItem ov iv u) (fun _ s'=>∃H',Inv X pins σ H' s'/\Q H') X.xe s
section
variable{X:Cx}{pos:Pos}
def zC(i:Nat):TG:=fun v σ H Q=>Q (σ.set i (some v)) H
theorem gB{i:Nat}{x:Str}(hN:X.N.Nodup)(hi:X.N[i]? =some x)(hx:Loc X.env.scope x)(hf:X.fn x=true\/X.env.scope.names.lookup x=some .local:=by first|exact .inl rfl|exact .inr rfl|assumption):PG X (.Name x pos) (zC i):=⟨by
 intro pins s σ H v u Q I r h
 exact wpAny_assign_Name (yf2 I hN hi hx r (fun s' I'=>⟨_,H,I',h⟩) hf)⟩
def wm7:TGs:=fun vs σ H Q=>vs=[]/\Q σ H
def xy3(t:TG)(u:TGs):TGs:=fun vs σ H Q=>∃v r,vs=v::r/\t v σ H fun σ' H'=>u r σ' H' Q
theorem zr5:PGs X [] wm7:=⟨by
 intro pins s σ H vs us Q I r h
 obtain⟨e,h⟩:=h
 subst e
 cases r
 exact assignInOrder_nil ⟨σ,H,I,h⟩⟩
theorem lY{e:Expr}{es:List Expr}{t:TG}{u:TGs}(h1:PG X e t)(h2:PGs X es u)
  (hs:(assignEach (e::es) X.env).map (·.2)=assign e X.env::(assignEach es X.env).map (·.2):=by rfl):PGs X (e::es) (xy3 t u):=⟨by
 intro pins s σ H vs us Q I r h
 obtain⟨v,vr,e1,h⟩:=h
 subst e1
 cases r with
 |cons r rr=>
  rw [hs]
  refine assignInOrder_cons (thn (h1 pins s σ H _ _ _ I r h) fun _ s1 ⟨σ1,H1,I1,q1⟩=> ?_)
  exact h2 pins s1 σ1 H1 _ _ Q I1 rr q1⟩
def xv9(K:tz0)(n:Nat)(t:TGs):TG:=fun v σ H Q=>∃a xs,v= .ref a/\SqT K H a xs/\xs.length=n/\t xs σ H Q
theorem wg6{es:List Expr}{k:Nat}{t:TGs}{n:Nat}(hc:X.calm=true)(h:PGs X es t)
  (hn:(assignEach es X.env).length=n:=by rfl) (hst:(assignEach es X.env).findIdx? (·.1)=none:=by rfl):PG X (.Tuple es k pos) (xv9 X.K n t):=⟨by
 intro pins s σ H v u Q I r hw
 obtain⟨a,xs,e1,hq,hl,hw⟩:=hw
 subst e1
 cases r
 obtain⟨its,rv,ht,hz⟩:=I.tuple hq
 refine assign_Tuple_tuple (I.ok.hd hc) ht (by simp [hn,<-hl,rv.length]) hst fun h' hx=> ?_
 have I1:Inv X pins σ H {s with heap:=h'}:=I.kept (t':=s.toks) fun b o e=>hx b o (ZF (Zm e)) e
 exact h pins _ σ H xs _ Q I1 (by simpa using rv) hw⟩
def wu9(to ti:TE)(t:xv8):TG:=fun v σ H Q=>to σ H fun o H1=>ti σ H1 fun i H2=>t o i v H2 fun H3=>Q σ H3
theorem wg7{o i:Expr}{to ti:TE}{t:xv8}(ho:PE X o to)(hi:PE X i ti)(hs:wm6 X t)
  (ha:∀v,assign (.Subscript o i pos) X.env v=(do
   let ov<-holding [v] (eval o X.env)
   let iv<-holding [v,ov] (eval i X.env)
   standAt pos
   holding [v,ov,iv] (setItem ov iv v)
   release [v,ov,iv] []):=by intro _;rfl):PG X (.Subscript o i pos) (wu9 to ti t):=⟨by
 intro pins s σ H v u Q I r h
 rw [ha]
 refine Zj (YG (thn (ho pins s σ H _ I h) fun ov s1 ⟨x,H1,I1,r1,q1⟩=> ?_))
 refine Zj (YG (thn (hi pins s1 σ H1 _ I1 q1) fun iv s2 ⟨y,H2,I2,r2,q2⟩=> ?_))
 refine Zj (Wo (Zj (YG (thn (hs pins s2 σ H2 x y v ov iv u _ I2 r1 r2 r q2) fun _ s3 ⟨H3,I3,q3⟩=> ?_))))
 exact wpAny_release ⟨σ,H3,I3,q3⟩⟩
def wm8(te:TE)(g:TG):TS:=fun D σ H=>te σ H fun x H1=>g x σ H1 D.nx
theorem xc2{tg e:Expr}{te:TE}{g:TG}(he:PE X e te)(hg:PG X tg g)(hs:swapsWithSole [tg] e pos.line X.env=pure false:=by rfl)(hw:swappedStores [tg] e X.env=pure none:=by rfl)
  (h1:(assignEach [tg] X.env).map (·.2)=[assign tg X.env]:=by rfl):PS X (.Assign [tg] e pos) (wm8 te g):=⟨by
 intro pins s σ H D I h
 refine wpAny_Assign_stores (thn (he pins s σ H _ I h) fun v s1 ⟨x,H1,I1,r1,q1⟩=> ?_) hs hw
 rw [h1]
 exact thn (hg pins s1 σ H1 x v _ I1 r1 q1) fun _ s2 q=>q⟩
theorem rQ{i:Nat}{x:Str}{e:Expr}{te:TE}{pos':Pos}(hN:X.N.Nodup)(hi:X.N[i]? =some x)(hx:Loc X.env.scope x)(he:PE X e te)(hs:swapsWith e (some (.Name x pos')) pos.line X.env=pure false:=by rfl)(hf:X.fn x=true\/X.env.scope.names.lookup x=some .local:=by first|exact .inl rfl|exact .inr rfl|assumption):
  PS X (.Assign [.Name x pos'] e pos) (wm8 te (zC i)):=⟨by
 intro pins s σ H D I h
 refine wpAny_Assign_Name (thn (he pins s σ H _ I h) fun v s1 ⟨y,H1,I1,r1,q1⟩=> ?_) hs
 exact yf2 I1 hN hi hx r1 (fun s2 I2=>⟨_,H1,I2,q1⟩) hf⟩
def wm9(c:TT)(tb:TS):TS:=fun D σ H=>∃W:Nat->St->Hp->Prop,(∃m,W m σ H)/\∀m σ H,W m σ H->
 c σ H fun b H1=>if b=true then ∃N:St->Hp->Prop,(∀σ' H',N σ' H'->∃m',m'<m/\W m' σ' H')/\tb {D with nx:=N,ct:=N,bk:=D.nx} σ H1 else D.nx σ H1
theorem xo3{c:Expr}{body:List Stmt}{tc:TT}{tb:TS}(hp:PassesOwn (model X.prog X.w) X.A X.env X.xe)(hc:PT X c tc)(hb:PSs X body tb):PS X (.While c body [] pos) (wm9 tc tb):=⟨by
 intro pins s σ H D I h
 obtain⟨W,⟨m0,w0⟩,turn⟩:=h
 refine wpAny_While (codeAny_whileLoop (fun n s'=>∃σ' H',Inv X pins σ' H' s'/\W n σ' H') ?_ m0 ⟨σ,H,I,w0⟩)
 rintro n s1 ⟨σ1,H1,I1,w1⟩
 refine Yj hp (thn (hc pins s1 σ1 H1 _ I1 (turn n σ1 H1 w1)) fun b s2 ⟨H2,I2,q2⟩=> ?_)
 cases b with
 | true=>
  obtain⟨N,hN,q2⟩:=q2
  rw [if_pos rfl]
  refine Yj hp (thn (hb pins s2 σ1 H2 _ I2 q2) fun f s3 q3=> ?_)
  cases f with
  |next=>
   obtain⟨σ3,H3,I3,n3⟩:=q3
   obtain⟨m',hm,w3⟩:=hN σ3 H3 n3
   exact⟨m',hm,σ3,H3,I3,w3⟩
  |cont=>
   obtain⟨σ3,H3,I3,n3⟩:=q3
   obtain⟨m',hm,w3⟩:=hN σ3 H3 n3
   exact⟨m',hm,σ3,H3,I3,w3⟩
  |brk=>exact q3
  |ret v=>exact q3
 |false=>
  rw [if_neg Z9]
  exact YL ⟨σ1,H2,I2,q2⟩⟩
end
structure It where
 go:Nat->Hp->Prop
 yld:Nat->Hp->V->Hp->Prop
 stop:Nat->Hp->Prop
def pN(X:Cx)(pins:tzB)(H:Hp)(b:Addr):Prop:=
 H b=none/\b≠X.env.locals/\b∉X.fs/\(b∈X.ex\/X.s₀.heap.objs.size<=b)/\(∀x c,X.env.cells.lookup x=some c->c≠b)/\∀p∈X.pn++pins,p.1≠b
theorem Inv.fpOk{X:Cx}{pins:tzB}{σ:St}{H H':Hp}{s:Shared}{b:Addr}(I:Inv X pins σ H s)(hb:s.heap.objs.size<=b)(hn:H' b=none):pN X pins H' b:=by
 refine⟨hn,XZ (Zz I.lt hb),I.nofs hb,.inr (Zr I.sz hb),fun x c e z=> ?_,fun p hp z=> ?_⟩
 ·obtain⟨v,q⟩:=I.cell x c e
  exact absurd (Zz q.lt (by rw [z];exact hb)) (Y5 _)
 ·exact absurd (Zz (Zm (I.pin p hp).1) (by rw [z];exact hb)) (Y5 _)
structure Turn(P:Program)(w:World)(K:tz0)(tg:Expr)(J:It)(fp:List Addr)(it:Addr)(tn:Nat->Heap->Prop):Prop where
 mem:it∈fp
 obj:∀i h,tn i h->∀b∈fp,∃o,h.get? b=some o/\∀v,o.data≠ .cell v
 keep:∀i h h',tn i h->(∀b∈fp,∀o,h.get? b=some o->h'.get? b=some o)->tn i h'
 item:∀(X:Cx),X.prog=P->X.w=w->X.K=K->X.calm=true->∀(i:Nat) (pins:tzB) (s:Shared) (σ:St) (H:Hp) (E:Value->Shared->Prop),Inv X pins σ H s->(∀b∈fp,pN X pins H b)->tn i s.heap->J.go i H->
  wpAny (model P w) X.A (pyNext (.ref it)) (fun r s1=>∃u,r=some u/\
   wpAny (model P w) X.A (letOwnedTupleGo tg (.ref it) u) (fun _ s2=>∃x H',Inv X pins σ H' s2/\cV x u/\J.yld i H x H'/\tn (i+1) s2.heap/\∀b∈fp,H' b=none) E s1) E s
 done:∀(X:Cx),X.prog=P->X.w=w->X.K=K->X.calm=true->∀(i:Nat) (pins:tzB) (s:Shared) (σ:St) (H:Hp) (E:Value->Shared->Prop),Inv X pins σ H s->(∀b∈fp,pN X pins H b)->tn i s.heap->J.stop i H->
  wpAny (model P w) X.A (pyNext (.ref it)) (fun r s1=>r=none/\Inv X pins σ H s1) E s
 self:∀(A:Around) (i:Nat) (s:Shared) (Q:Value->Shared->Prop) (E:Value->Shared->Prop),tn i s.heap->Q (.ref it) s->wpAny (model P w) A (pyIter (.ref it)) Q E s
abbrev TI:=St->Hp->(It->Hp->Prop)->Prop
def PIE(X:Cx)(pins:tzB)(σ:St)(tg:Expr)(R:It->Hp->Prop)(itv:Value)(s2:Shared):Prop:=
 ∃(it:Addr) (fp:List Addr) (tn:Nat->Heap->Prop) (J:It) (H':Hp),itv= .ref it/\Inv X pins σ H' s2/\Turn X.prog X.w X.K tg J fp it tn/\tn 0 s2.heap/\(∀b∈fp,pN X pins H' b)/\R J H'
def PId(X:Cx)(tg iter:Expr)(wi:TI):Prop:=
 ∀(pins:tzB) (s:Shared) (σ:St) (H:Hp) (R:It->Hp->Prop),Inv X pins σ H s->wi σ H R->
  wpAny (model X.prog X.w) X.A (eval iter X.env) (fun v s1=>wpAny (model X.prog X.w) X.A (pyIter v) (PIE X pins σ tg R) X.xe s1) X.xe s
structure PI(X:Cx)(tg iter:Expr)(wi:TI):Prop where
 go:PId X tg iter wi
instance {X:Cx} {tg iter:Expr} {wi:TI}:CoeFun (PI X tg iter wi) fun _=>PId X tg iter wi:=⟨PI.go⟩
theorem yc7{M:Model}{A:Around}{E:Value->Shared->Prop}{s:Shared}{tg:Expr}{it:Addr}{u:Value}{o:Obj}{n:String}{vs:Array Value}{Q:Unit->Shared->Prop}(ho:s.heap.get? it=some o)(hc:o.cls= .type n)(hd:o.data= .fields vs)
  (hn:["enumerate","zip","dict_itemiterator","dict_reverseitemiterator","odict_iterator","itertools.zip_longest","itertools.pairwise"].contains n=false) (hQ:Q () s):wpAny M A (letOwnedTupleGo tg (.ref it) u) Q E s:=by
 unfold letOwnedTupleGo
 cases tg<;>first
  |exact ZI hQ
  | (cases u<;>first
    |exact ZI hQ
    | (refine Zj (wpAny_load ho ?_)
       rw [hc,hd]
       show wpAny M A (if (["enumerate","zip","dict_itemiterator","dict_reverseitemiterator","odict_iterator","itertools.zip_longest","itertools.pairwise"].contains n&&vs[0]? ==some (rawInt _))=true then _ else _) Q E s
       rw [if_neg (by intro h;rw [hn,XI] at h;cases h)]
       exact ZI hQ))
def Itl(K:tz0)(a:Addr):It:=
 ⟨fun i H=>∃xs x,SqL K H a xs/\xs[i]? =some x,fun i H x H'=>H'=H/\∀xs,SqL K H a xs->xs[i]? =some x,fun i H=>∃xs,SqL K H a xs/\xs.length<=i⟩
def Itt(K:tz0)(a:Addr):It:=
 ⟨fun i H=>∃xs x,SqT K H a xs/\xs[i]? =some x,fun i H x H'=>H'=H/\∀xs,SqT K H a xs->xs[i]? =some x,fun i H=>∃xs,SqT K H a xs/\xs.length<=i⟩
def Itr(lo:Int)(n:Nat):It:=⟨fun i _=>i<n,fun i H x H'=>H'=H/\x= .int (lo+i),fun i _=>n<=i⟩
theorem xc3{P:Program}{w:World}{K:tz0}{tg:Expr}(a it:Addr):Turn P w K tg (Itl K a) [it] it (fun i h=>h.IsListIter it a i) where
 mem:=by simp
 obj:=fun i h st b hb=>by
  have e:b=it:=by simpa using hb
  subst e
  obtain⟨o,e,c,d⟩:=st
  exact⟨o,e,fun v z=>by rw [d] at z;cases z⟩
 keep:=fun i h h' st k=>st.at fun o e=>k it (by simp) o e
 item:=by
  intro X hP hw hK hc i pins s σ H E I hf st hg
  subst hP hw hK
  obtain⟨xs,x,hq,hx⟩:=hg
  obtain⟨its,rv,p,hz⟩:=I.list hq
  obtain⟨u,hu,ru⟩:=rv.get hx
  obtain⟨f0,f1,f2,f3,f4,f5⟩:=hf it (by simp)
  refine wpAny_pyNext_list_item st p.isList (x:=u) (by simpa using hu) fun h' st' sb=> ?_
  have I1:Inv X pins σ H {s with heap:=h'}:=I.turned (t':=s.toks) (fun b o hb e=>(sb.2 b hb).trans e) f0 f1 f3 f4 f5
  obtain⟨o,e,c,d⟩:=id st'
  exact⟨u,rfl,yc7 (s:={s with heap:=h'}) e c d (by decide) ⟨x,H,I1,ru,⟨rfl,fun ys hy=>by rw [I.list_inj hy hq];exact hx⟩,st',fun b hb=>(hf b hb).1⟩⟩
 done:=by
  intro X hP hw hK hc i pins s σ H E I hf st hg
  subst hP hw hK
  obtain⟨xs,hq,hx⟩:=hg
  obtain⟨its,rv,p,hz⟩:=I.list hq
  obtain⟨f0,f1,f2,f3,f4,f5⟩:=hf it (by simp)
  have hl:=rv.length
  exact wpAny_pyNext_list_end (I.ok.hd hc) st p.isList (by simp;omega) fun h' eb=>⟨rfl,I.turned (t':=s.toks) (fun b o hb e=>eb b o hb e) f0 f1 f3 f4 f5⟩
 self:=fun _ _ _ _ _ st h=>wpAny_pyIter_listiter st h
theorem yu4{P:Program}{w:World}{K:tz0}{tg:Expr}(a it:Addr):Turn P w K tg (Itt K a) [it] it (fun i h=>h.IsTupleIter it a i) where
 mem:=by simp
 obj:=fun i h st b hb=>by
  have e:b=it:=by simpa using hb
  subst e
  obtain⟨o,e,c,d⟩:=st
  exact⟨o,e,fun v z=>by rw [d] at z;cases z⟩
 keep:=fun i h h' st k=>st.at fun o e=>k it (by simp) o e
 item:=by
  intro X hP hw hK hc i pins s σ H E I hf st hg
  subst hP hw hK
  obtain⟨xs,x,hq,hx⟩:=hg
  obtain⟨its,rv,p,hz⟩:=I.tuple hq
  obtain⟨u,hu,ru⟩:=rv.get hx
  obtain⟨f0,f1,f2,f3,f4,f5⟩:=hf it (by simp)
  refine wpAny_pyNext_tuple_item st (show s.heap.IsTuple a its.toArray from p) (x:=u) (by simpa using hu) fun h' st' sb=> ?_
  have I1:Inv X pins σ H {s with heap:=h'}:=I.turned (t':=s.toks) (fun b o hb e=>(sb.2 b hb).trans e) f0 f1 f3 f4 f5
  obtain⟨o,e,c,d⟩:=id st'
  exact⟨u,rfl,yc7 (s:={s with heap:=h'}) e c d (by decide) ⟨x,H,I1,ru,⟨rfl,fun ys hy=>by rw [I.tuple_inj hy hq];exact hx⟩,st',fun b hb=>(hf b hb).1⟩⟩
 done:=by
  intro X hP hw hK hc i pins s σ H E I hf st hg
  subst hP hw hK
  obtain⟨xs,hq,hx⟩:=hg
  obtain⟨its,rv,p,hz⟩:=I.tuple hq
  obtain⟨f0,f1,f2,f3,f4,f5⟩:=hf it (by simp)
  have hl:=rv.length
  exact wpAny_pyNext_tuple_end (I.ok.hd hc) st (show s.heap.IsTuple a its.toArray from p) (by simp;omega) fun h' eb=>⟨rfl,I.turned (t':=s.toks) (fun b o hb e=>eb b o hb e) f0 f1 f3 f4 f5⟩
 self:=fun _ _ _ _ _ st h=>wpAny_pyIter_tupleiter st h
theorem yu5{P:Program}{w:World}{K:tz0}{tg:Expr}(it:Addr)(lo:Int)(n:Nat):Turn P w K tg (Itr lo n) [it] it (fun i h=>IsRangeIter h it (lo+(i:Nat)*1) ((n:Int)-(i:Nat)) 1) where
 mem:=by simp
 obj:=fun i h st b hb=>by
  have e:b=it:=by simpa using hb
  subst e
  exact⟨_,st,fun v z=>by
   have z':Data.fields _=Data.cell v:=z
   cases z'⟩
 keep:=fun i h h' st k=>k it (by simp) _ st
 item:=by
  intro X hP hw hK hc i pins s σ H E I hf st hg
  subst hP hw hK
  obtain⟨f0,f1,f2,f3,f4,f5⟩:=hf it (by simp)
  have W:=Walks.range (prog:=X.prog) (w:=X.w) (I.ok.hd hc) it lo 1 n
  refine W.item i s _ _ hg st fun v h' tk hv st' kk=> ?_
  obtain⟨t,rfl⟩:=hv
  have I1:Inv X pins σ H {s with heap:=h',toks:=tk}:=I.turned (fun b o hb e=>kk b o (by simpa using hb) e) f0 f1 f3 f4 f5
  refine⟨_,rfl,yc7 (s:={s with heap:=h',toks:=tk}) (n:="range_iterator") st' rfl rfl (by decide) ⟨.int (lo+i),H,I1,⟨t,?_⟩,⟨rfl,rfl⟩,st',fun b hb=>(hf b hb).1⟩⟩
  rw [Int.mul_one]
 done:=by
  intro X hP hw hK hc i pins s σ H E I hf st hg
  subst hP hw hK
  obtain⟨f0,f1,f2,f3,f4,f5⟩:=hf it (by simp)
  exact wpAny_pyNext_range_end (I.ok.hd hc) st (by have:n<=i:=hg;omega) fun h' eb=>⟨rfl,I.turned (t':=s.toks) (fun b o hb e=>eb b o hb e) f0 f1 f3 f4 f5⟩
 self:=fun _ _ _ _ _ st h=>wpAny_pyIter_rangeiter st h
section
variable{X:Cx}{tg:Expr}
theorem yf3{pins:tzB}{σ:St}{H:Hp}{s:Shared}{R:It->Hp->Prop}{E:Value->Shared->Prop}{lo hi:Int}{t u v:Tok}{tk:Nat}(I:Inv X pins σ H s)(h1: -(2^62)<=lo)(h2:lo<2^62)(h3: -(2^62)<=hi)(h4:hi<2^62)
  (q:R (Itr lo (hi-lo).toNat) H):wpAny (model X.prog X.w) X.A (pyIter (.ref s.heap.objs.size)) (PIE X pins σ tg R) E {s with heap:=s.heap.push {cls:= .type "range",data:= .fields #[.int lo t,.int hi u,.int 1 v]},toks:=tk}:=by
 refine wpAny_pyIter_range (IsRange.new ..) (small_one h1 h2 h3 h4) ?_
 have I1:Inv X pins σ H {s with heap:=s.heap.push {cls:= .type "range",data:= .fields #[.int lo t,.int hi u,.int 1 v]},toks:=tk}:=I.kept fun b o e=>Zf _ e
 refine⟨(s.heap.push {cls:= .type "range",data:= .fields #[.int lo t,.int hi u,.int 1 v]}).objs.size,[(s.heap.push {cls:= .type "range",data:= .fields #[.int lo t,.int hi u,.int 1 v]}).objs.size],_,_,H,rfl,
  I1.kept (t':=tk) fun b o e=>Zf _ e,yu5 _ lo (hi-lo).toNat,?_,fun b hb=> ?_,q⟩
 ·have e1:lo+((0:Nat):Int)*1=lo:=by simp
  have e2:(((hi-lo).toNat:Nat):Int)-((0:Nat):Int)=Builtin.Range.rangeSize lo hi 1:=by rw [rangeSize_one];split<;>omega
  show IsRangeIter _ _ (lo+((0:Nat):Int)*1) ((((hi-lo).toNat:Nat):Int)-((0:Nat):Int)) 1
  rw [e1,e2]
  exact Zw _ rfl
 ·have e:b=(s.heap.push {cls:= .type "range",data:= .fields #[.int lo t,.int hi u,.int 1 v]}).objs.size:=by simpa using hb
  subst e
  exact I1.fpOk (Z7 _) (I1.hok.fresh (Z7 _))
def ws0(ta:TA):TI:=fun σ H R=>ta σ H fun vs H1=>∃j:Int,vs=[.int j]/\ -(2^62)<=j/\j<2^62/\R (Itr 0 j.toNat) H1
def ws1(ta:TA):TI:=fun σ H R=>ta σ H fun vs H1=>∃i j:Int,vs=[.int i,.int j]/\(-(2^62)<=i/\i<2^62/\ -(2^62)<=j/\j<2^62)/\R (Itr i (j-i).toNat) H1
theorem xc4{a:Expr}{ta:TA}{p pos:Pos}(hg:Gl X "range")(hm:X.mg "range"=none)(ha:PA X [a] ta)(hs:starEach [a] X.env=[(false,eval a X.env)]:=by rfl):PI X tg (.Call (.Name "range" p) [a] [] pos) (ws0 ta):=⟨by
 intro pins s σ H R I h
 refine Call_ (wV I hg hm boot_range (Yi (thn (ha pos pins s σ H _ I h) fun us s1 ⟨vs,H1,I1,r1,q1⟩=> ?_) hs rfl))
 obtain⟨j,e,q1,q2,q⟩:=q1
 subst e
 cases r1 with
 |cons r rr=>
  cases rr
  obtain⟨t,rfl⟩:=r
  exact call_range_1 (yf3 I1 (by omega) (by omega) q1 q2 (by simpa using q))⟩
theorem xc5{a b:Expr}{ta:TA}{p pos:Pos}(hg:Gl X "range")(hm:X.mg "range"=none)(ha:PA X [a,b] ta)(hs:starEach [a,b] X.env=[(false,eval a X.env),(false,eval b X.env)]:=by rfl)(hs2:starEach [b] X.env=[(false,eval b X.env)]:=by rfl):
  PI X tg (.Call (.Name "range" p) [a,b] [] pos) (ws1 ta):=⟨by
 intro pins s σ H R I h
 refine Call_ (wV I hg hm boot_range (Yi (thn (ha pos pins s σ H _ I h) fun us s1 ⟨vs,H1,I1,r1,q1⟩=> ?_) (by rw [hs,hs2]) (by rw [hs2];rfl)))
 obtain⟨i,j,e,⟨q1,q2,q3,q4⟩,q⟩:=q1
 subst e
 cases r1 with
 | cons r rr=>
  cases rr with
  |cons r' rr=>
   cases rr
   obtain⟨t,rfl⟩:=r
   obtain⟨t',rfl⟩:=r'
   exact call_range_2 (yf3 I1 q1 q2 q3 q4 q)⟩
def wv0(wi:TI)(g:TG)(tb:TS):TS:=fun D σ H=>wi σ H fun J H1=>∃W:Nat->Nat->St->Hp->Prop,(∃m,W 0 m σ H1)/\∀i m σ H,W i m σ H->
 (J.stop i H/\D.nx σ H)\/(J.go i H/\∃N:St->Hp->Prop,(∀σ' H',N σ' H'->∃m',m'<m/\W (i+1) m' σ' H')/\∀x H',J.yld i H x H'->g x σ H' fun σ2 H2=>tb {D with nx:=N,ct:=N,bk:=D.nx} σ2 H2)
def xL(fp:List Addr)(h:Heap):tzB:=fp.filterMap fun b=>(h.get? b).map fun o=>(b,o)
theorem tJ{fp:List Addr}{h:Heap}{b:Addr}{o:Obj}(hb:b∈fp)(e:h.get? b=some o):(b,o)∈xL fp h:=Xn.mpr ⟨b,hb,by rw [e];rfl⟩
theorem xc6{fp:List Addr}{h:Heap}{p:Addr×Obj}(hp:p∈xL fp h):p.1∈fp/\h.get? p.1=some p.2:=by
 obtain⟨b,hb,e⟩:=Xn.mp hp
 cases q:h.get? b with
 |none=>rw [q] at e;cases e
 |some o=>
  rw [q] at e
  have e':(b,o)=p:=ZD e
  subst e'
  exact⟨hb,q⟩
theorem Inv.pinned{pins:tzB}{σ:St}{H:Hp}{s:Shared}{fp:List Addr}(I:Inv X pins σ H s)(hf:∀b∈fp,pN X pins H b)(ho:∀b∈fp,∃o,s.heap.get? b=some o/\∀v,o.data≠ .cell v):Inv X (pins++xL fp s.heap) σ H s:=
 I.pins_of fun p hp=>(Zp.mp hp).elim (fun z=>I.pin p (Ze _ z)) fun z=>by
  obtain⟨hb,e⟩:=xc6 z
  obtain⟨f0,f1,f2,_⟩:=hf p.1 hb
  obtain⟨o,e',d⟩:=ho p.1 hb
  rw [e] at e';cases e'
  exact⟨e,f0,f1,f2,d⟩
theorem Inv.unpinned{pins pl:tzB}{σ:St}{H:Hp}{s:Shared}(I:Inv X (pins++pl) σ H s):Inv X pins σ H s:=I.pins_of fun p hp=>I.pin p (Ze _ (Zq _ hp))
theorem yf4{iter:Expr}{body:List Stmt}{wi:TI}{g:TG}{tb:TS}{pos:Pos}(hp:PassesOwn (model X.prog X.w) X.A X.env X.xe)(hc:X.calm=true)(hi:PI X tg iter wi)(hg:PG X tg g)(hb:PSs X body tb)
  (hs:∀x,foldedSetIterable iter X.env x=pure x:=by intro _;rfl):PS X (.For tg iter body [] pos) (wv0 wi g tb):=⟨by
 intro pins s σ H D I h
 refine wpAny_For (thn (hi pins s σ H _ I h) fun v s1 h1=>thn h1 fun itv s2 h2=> ?_) hs
 obtain⟨it,fp,tn,J,H2,e,I2,T,st2,f2,W,⟨m0,w0⟩,turn⟩:=h2
 subst e
 have stat:∀{H':Hp},(∀b∈fp,H' b=none)->∀b∈fp,pN X pins H' b:=fun hn b hb=>⟨hn b hb,(f2 b hb).2⟩
 refine codeAny_forLoop_any (fun n s'=>∃i σ' H',Inv X pins σ' H' s'/\tn i s'.heap/\(∀b∈fp,H' b=none)/\W i n σ' H') ?_ m0 ⟨0,σ,H2,I2,st2,fun b hb=>(f2 b hb).1,w0⟩
 rintro n s3 ⟨i,σ3,H3,I3,st3,fr3,w3⟩
 rcases turn i n σ3 H3 w3 with ⟨stop,qn⟩|⟨go,N,hN,step⟩
 ·refine Yj hp (thn (T.done X rfl rfl rfl hc i pins s3 σ3 H3 X.xe I3 (stat fr3) st3 stop) fun r s4 ⟨hr,I4⟩=> ?_)
  subst hr
  exact YL ⟨σ3,H3,I4,qn⟩
 ·refine Yj hp (thn (T.item X rfl rfl rfl hc i pins s3 σ3 H3 X.xe I3 (stat fr3) st3 go) fun r s4 ⟨u,hr,h4⟩=> ?_)
  subst hr
  refine Yj hp (thn h4 fun _ s5 ⟨x,H5,I5,r5,y5,st5,fr5⟩=> ?_)
  have I5':=I5.pinned (stat fr5) (T.obj _ _ st5)
  refine Yj hp (thn (hg _ s5 σ3 H5 x u _ I5' r5 (step x H5 y5)) fun _ s6 ⟨σ6,H6,I6,q6⟩=> ?_)
  refine Yj hp (thn (hb _ s6 σ6 H6 _ I6 q6) fun f s7 q7=> ?_)
  have again:∀{σ7:St} {H7:Hp},Inv X (pins++xL fp s5.heap) σ7 H7 s7->N σ7 H7->∃m,m<n/\∃i σ' H',Inv X pins σ' H' s7/\tn i s7.heap/\(∀b∈fp,H' b=none)/\W i m σ' H':=fun {σ7 H7} I7 n7=>by
   obtain⟨m',hm,w7⟩:=hN σ7 H7 n7
   refine⟨m',hm,i+1,σ7,H7,I7.unpinned,T.keep _ _ _ st5 fun b hb o e=>(I7.pin (b,o) (Ze _ (Ze _ (tJ hb e)))).1,fun b hb=> ?_,w7⟩
   obtain⟨o,e,d⟩:=T.obj _ _ st5 b hb
   exact(I7.pin (b,o) (Ze _ (Ze _ (tJ hb e)))).2.1
  cases f with
  |next=>obtain⟨σ7,H7,I7,n7⟩:=q7;exact again I7 n7
  |cont=>obtain⟨σ7,H7,I7,n7⟩:=q7;exact again I7 n7
  |brk=>obtain⟨σ7,H7,I7,q7⟩:=q7;exact⟨σ7,H7,I7.unpinned,q7⟩
  |ret v=>obtain⟨x7,σ7,H7,I7,r7,q7⟩:=q7;exact⟨x7,σ7,H7,I7.unpinned,r7,q7⟩⟩
end
abbrev R2:=V->V->Hp->VK->Prop
def wn0(X:Cx)(f:Value->Value->Sem Value)(r:R2):Prop:=
 ∀(pins:tzB) (s:Shared) (σ:St) (H:Hp) (x y:V) (v u:Value) (Q:VK),Inv X pins σ H s->cV x v->cV y u->r x y H Q->
  wpAny (model X.prog X.w) X.A (f v u) (EP X pins σ Q) X.xe s
structure OpR(X:Cx)(f:Value->Value->Sem Value)(r:R2):Prop where
 go:wn0 X f r
instance {X:Cx} {f:Value->Value->Sem Value} {r:R2}:CoeFun (OpR X f r) fun _=>wn0 X f r:=⟨OpR.go⟩
def UnR(X:Cx)(f:Value->Sem Value)(r:V->Hp->VK->Prop):Prop:=
 ∀(pins:tzB) (s:Shared) (σ:St) (H:Hp) (x:V) (v:Value) (Q:VK),Inv X pins σ H s->cV x v->r x H Q->
  wpAny (model X.prog X.w) X.A (f v) (EP X pins σ Q) X.xe s
def xn6(X:Cx)(f:Value)(r:List V->Hp->VK->Prop):Prop:=
 ∀(pins:tzB) (s:Shared) (σ:St) (H:Hp) (xs:List V) (us:List Value) (Q:VK),Inv X pins σ H s->bW xs us->r xs H Q->
  wpAny (model X.prog X.w) X.A (call f us) (EP X pins σ Q) X.xe s
structure CallR(X:Cx)(f:Value)(r:List V->Hp->VK->Prop):Prop where
 go:xn6 X f r
instance {X:Cx} {f:Value} {r:List V->Hp->VK->Prop}:CoeFun (CallR X f r) fun _=>xn6 X f r:=⟨CallR.go⟩
def wv1(X:Cx)(r:V->Hp->(Bool->Hp->Prop)->Prop):Prop:=
 ∀(pins:tzB) (s:Shared) (σ:St) (H:Hp) (x:V) (v:Value) (Q:Bool->Hp->Prop),Inv X pins σ H s->cV x v->r x H Q->
  wpAny (model X.prog X.w) X.A (truthy v) (TP X pins σ Q) X.xe s
def tOp(r:R2)(ta tb:TE):TE:=fun σ H Q=>ta σ H fun x H1=>tb σ H1 fun y H2=>r x y H2 Q
def tUn(r:V->Hp->VK->Prop)(ta:TE):TE:=fun σ H Q=>ta σ H fun x H1=>r x H1 Q
def rI(C:Int->Int->Prop)(g:Int->Int->V):R2:=fun x y H Q=>∃i j,x= .int i/\y= .int j/\C i j/\Q (g i j) H
def rI0(g:Int->Int->V):R2:=fun x y H Q=>∃i j,x= .int i/\y= .int j/\Q (g i j) H
def rU(g:Int->V):V->Hp->VK->Prop:=fun x H Q=>∃i,x= .int i/\Q (g i) H
section
variable{X:Cx}{a b c:Expr}{ta tb tc:TE}{pos:Pos}
theorem xo4(ha:PE X a ta)(hb:PE X b tb){pins:tzB}{s:Shared}{σ:St}{H:Hp}{R:V->V->Hp->Prop}(I:Inv X pins σ H s)
  (h:ta σ H fun x H1=>tb σ H1 fun y H2=>R x y H2) {Q:Value->Shared->Prop} {f:Value->Value->Sem Value}
  (hf:∀v u s2 x y H2,Inv X pins σ H2 s2->cV x v->cV y u->R x y H2->wpAny (model X.prog X.w) X.A (f v u) Q X.xe s2):
  wpAny (model X.prog X.w) X.A (eval a X.env) (fun v s₁=>wpAny (model X.prog X.w) X.A (eval b X.env) (fun u s₂=>wpAny (model X.prog X.w) X.A (f v u) Q X.xe s₂) X.xe s₁) X.xe s:=by
 refine thn (ha pins s σ H _ I h) fun v s1 ⟨x,H1,I1,r1,q1⟩=> ?_
 refine thn (hb pins s1 σ H1 _ I1 q1) fun u s2 ⟨y,H2,I2,r2,q2⟩=> ?_
 exact hf v u s2 x y H2 I2 r1 r2 q2
theorem gO{op:Operator}{r:R2}(ho:OpR X (binaryOp op) r)(ha:PE X a ta)(hb:PE X b tb):PE X (.BinOp a op b pos) (tOp r ta tb):=⟨by
 intro pins s σ H Q I h
 exact wpAny_BinOp (xo4 ha hb I h fun v u s2 x y H2 I2 rx ry q=>ho pins s2 σ H2 x y v u Q I2 rx ry q)⟩
theorem wp1{op:UnaryOp}{r:V->Hp->VK->Prop}(ho:UnR X (unaryOp op) r)(ha:PE X a ta):PE X (.UnaryOp op a pos) (tUn r ta):=⟨by
 intro pins s σ H Q I h
 exact UnaryOp_ (thn (ha pins s σ H _ I h) fun v s1 ⟨x,H1,I1,r1,q1⟩=>ho pins s1 σ H1 x v Q I1 r1 q1)⟩
theorem opI{f:Value->Value->Sem Value}{C:Int->Int->Prop}{g:Int->Int->Int}
  (rule:∀(i j:Int) (t u:Tok) (s:Shared) (Q:Value->Shared->Prop) (E:Value->Shared->Prop),C i j->Q (.int (g i j) s.toks) {s with toks:=s.toks+1}->wpAny (model X.prog X.w) X.A (f (.int i t) (.int j u)) Q E s):
  OpR X f (rI C fun i j=> .int (g i j)):=⟨by
 intro pins s σ H x y v u Q I rx ry h
 obtain⟨i,j,rfl,rfl,hc,q⟩:=h
 obtain⟨t,rfl⟩:=rx
 obtain⟨t',rfl⟩:=ry
 exact rule i j t t' s _ _ hc ⟨.int (g i j),H,I.tok _,⟨_,rfl⟩,q⟩⟩
theorem xo5{f:Value->Value->Sem Value}{g:Int->Int->Int}
  (rule:∀(i j:Int) (t u:Tok) (s:Shared) (Q:Value->Shared->Prop) (E:Value->Shared->Prop),Q (.int (g i j) s.toks) {s with toks:=s.toks+1}->wpAny (model X.prog X.w) X.A (f (.int i t) (.int j u)) Q E s):
  OpR X f (rI0 fun i j=> .int (g i j)):=⟨by
 intro pins s σ H x y v u Q I rx ry h
 obtain⟨i,j,rfl,rfl,q⟩:=h
 obtain⟨t,rfl⟩:=rx
 obtain⟨t',rfl⟩:=ry
 exact rule i j t t' s _ _ ⟨.int (g i j),H,I.tok _,⟨_,rfl⟩,q⟩⟩
theorem yu6{f:Value->Value->Sem Value}{g:Int->Int->Bool}
  (rule:∀(i j:Int) (t u:Tok) (s:Shared) (Q:Value->Shared->Prop) (E:Value->Shared->Prop),Q (.bool (g i j)) s->wpAny (model X.prog X.w) X.A (f (.int i t) (.int j u)) Q E s):
  OpR X f (rI0 fun i j=> .bl (g i j)):=⟨by
 intro pins s σ H x y v u Q I rx ry h
 obtain⟨i,j,rfl,rfl,q⟩:=h
 obtain⟨t,rfl⟩:=rx
 obtain⟨t',rfl⟩:=ry
 exact rule i j t t' s _ _ ⟨.bl (g i j),H,I,rfl,q⟩⟩
def wv2(i j:Int):Prop:=0<j/\j<1073741824
def wv3(i j:Int):Prop:=0<=j/\j<=1000000/\i.natAbs<2^64
def xw0(i j:Int):Prop:=(-(2^64)<i/\i<2^64)\/(-(2^64)<j/\j<2^64)
theorem xw0.ok{i j:Int}(h:xw0 i j):IntMulOk i j:=by
 rcases h with ⟨h1,h2⟩|⟨h1,h2⟩
 ·exact .of_left (intBits_le_64 h1 h2)
 ·exact .of_right (intBits_le_64 h1 h2)
theorem yu7(k:Nat):(0:Int)<=2^k:=by
 rw [two_pow_cast]
 exact Int.natCast_nonneg _
theorem wW:OpR X (binaryOp .Add) (rI0 fun i j=> .int (i+j)):=xo5 fun _ _ _ _ _ _ _ q=>add_int q
theorem wg8:OpR X (binaryOp .Sub) (rI0 fun i j=> .int (i-j)):=xo5 fun _ _ _ _ _ _ _ q=>sub_int q
theorem pD:OpR X (binaryOp .Mult) (rI xw0 fun i j=> .int (i*j)):=opI fun _ _ _ _ _ _ _ hc q=>mul_int q hc.ok
theorem yp2:OpR X (binaryOp .FloorDiv) (rI wv2 fun i j=> .int (i/j)):=opI fun i j _ _ _ _ _ hc q=>by
 have h1:(0:Int)<j:=hc.1
 have h2:j<1073741824:=hc.2
 exact floordiv_int (by omega) (by rw [XJ i (by omega)];exact q) (.inl (PyProof.noPylong_small (by omega)))
theorem zl6:OpR X (binaryOp .Mod) (rI (fun _ j=>0<j) fun i j=> .int (i % j)):=opI fun i j _ _ _ _ _ hc q=>by
 have h1:(0:Int)<j:=hc
 exact mod_int' (by omega) (by rw [Int.fmod_eq_emod_of_nonneg i (by omega)];exact q)
theorem wg9:OpR X (binaryOp .Pow) (rI wv3 fun i j=> .int (i^j.toNat)):=opI fun _ _ _ _ _ _ _ hc q=>pow_int_small hc.1 hc.2.1 hc.2.2 q
theorem wh0:OpR X (binaryOp .RShift) (rI (fun _ j=>0<=j) fun i j=> .int (i/2^j.toNat)):=opI fun i j _ _ _ _ _ hc q=>
 rshift_int hc (by rw [XJ i (yu7 _)];exact q)
theorem xc7:OpR X (binaryOp .BitAnd) (rI0 fun i j=> .int (Builtin.bitAnd i j)):=xo5 fun _ _ _ _ _ _ _ q=>and_int q
theorem unI{f:Value->Sem Value}{g:Int->Int}
  (rule:∀(i:Int) (t:Tok) (s:Shared) (Q:Value->Shared->Prop) (E:Value->Shared->Prop),Q (.int (g i) s.toks) {s with toks:=s.toks+1}->wpAny (model X.prog X.w) X.A (f (.int i t)) Q E s):
  UnR X f (rU fun i=> .int (g i)):=by
 intro pins s σ H x v Q I rx h
 obtain⟨i,rfl,q⟩:=h
 obtain⟨t,rfl⟩:=rx
 exact rule i t s _ _ ⟨.int (g i),H,I.tok _,⟨_,rfl⟩,q⟩
theorem wh1:UnR X (unaryOp .USub) (rU fun i=> .int (-i)):=unI fun _ _ _ _ _ q=>neg_int q
end
def wn1:V->V->Bool
 | .non,.non=>true| .non,.int _=>true| .int _,.non=>true| .non,.bl _=>true| .bl _,.non=>true| .non,.str _=>true| .str _,.non=>true
 | .int _,.int _=>true| .bl _,.bl _=>true| .str _,.str _=>true| .byt _,.byt _=>true
 | .int _,.str _=>true| .str _,.int _=>true| .bl _,.str _=>true| .str _,.bl _=>true
 |_,_=>false
def rEq:R2:=fun x y H Q=>wn1 x y=true/\Q (.bl (decide (x=y))) H
def rNe:R2:=fun x y H Q=>wn1 x y=true/\Q (.bl (!decide (x=y))) H
theorem yp3{i j:Int}:decide (V.int i=V.int j)=(i==j):=by
 rw [Yn]
 simp
theorem xc8{i j:Bool}:decide (V.bl i=V.bl j)=(i==j):=by
 rw [Yn]
 simp
theorem yp4{i j:Str}:decide (V.str i=V.str j)=(i==j):=by
 rw [Yn]
 simp
theorem yp5{i j:Array UInt8}:decide (V.byt i=V.byt j)=(i.toList==j.toList):=by
 rw [Yn]
 cases i
 cases j
 simp
section
variable{X:Cx}{a b c:Expr}{ta tb tc:TE}{pos:Pos}
theorem dO{pins:tzB}{σ:St}{H:Hp}{s:Shared}{Q:VK}{k k':Bool}(I:Inv X pins σ H s)(q:Q (.bl k) H)(e:k=k'):EP X pins σ Q (.bool k') s:=by
 subst e
 exact⟨.bl k,H,I,rfl,q⟩
theorem yu8:OpR X (compareOp .Eq) rEq:=⟨by
 intro pins s σ H x y v u Q I rx ry h
 obtain⟨hs,q⟩:=h
 cases x with
 |non=>
  cases rx
  cases y with
  |non=>cases ry;exact PySem.EqNone.eq_none_none (dO I q (by simp))
  |bl j=>cases ry;exact PySem.EqNone.eq_none_bool (dO I q (by simp))
  |int j=>obtain⟨t',rfl⟩:=ry;exact PySem.EqNone.eq_none_int (dO I q (by simp))
  |str j=>obtain⟨t',rfl⟩:=ry;exact PySem.EqNone.eq_none_str (dO I q (by simp))
  |_=>exact absurd (show false=true from hs) Z9
 |bl i=>
  cases rx
  cases y with
  |non=>cases ry;exact PySem.EqNone.eq_bool_none (dO I q (by simp))
  |bl j=>cases ry;exact eq_bool (dO I q xc8)
  |str j=>obtain⟨t',rfl⟩:=ry;exact PySem.EqMixed.eq_bool_str (dO I q (by simp))
  |_=>exact absurd (show false=true from hs) Z9
 |int i=>
  obtain⟨t,rfl⟩:=rx
  cases y with
  |non=>cases ry;exact PySem.EqNone.eq_int_none (dO I q (by simp))
  |int j=>obtain⟨t',rfl⟩:=ry;exact eq_int (dO I q yp3)
  |str j=>obtain⟨t',rfl⟩:=ry;exact PySem.EqMixed.eq_int_str (dO I q (by simp))
  |_=>exact absurd (show false=true from hs) Z9
 |str i=>
  obtain⟨t,rfl⟩:=rx
  cases y with
  |non=>cases ry;exact PySem.EqNone.eq_str_none (dO I q (by simp))
  |bl j=>cases ry;exact PySem.EqMixed.eq_str_bool (dO I q (by simp))
  |int j=>obtain⟨t',rfl⟩:=ry;exact PySem.EqMixed.eq_str_int (dO I q (by simp))
  |str j=>obtain⟨t',rfl⟩:=ry;exact eq_str (dO I q yp4)
  |_=>exact absurd (show false=true from hs) Z9
 |byt i=>
  obtain⟨t,rfl⟩:=rx
  cases y with
  |byt j=>obtain⟨t',rfl⟩:=ry;exact PySem.W.eq_bytes (dO I q yp5)
  |_=>exact absurd (show false=true from hs) Z9
 |_=>cases y<;>exact absurd (show false=true from hs) Z9⟩
theorem xx2:OpR X (compareOp .NotEq) rNe:=⟨by
 intro pins s σ H x y v u Q I rx ry h
 obtain⟨hs,q⟩:=h
 cases x with
 |non=>
  cases rx
  cases y with
  |non=>cases ry;exact PySem.EqNone.ne_none_none (dO I q (by simp))
  |bl j=>cases ry;exact PySem.EqNone.ne_none_bool (dO I q (by simp))
  |int j=>obtain⟨t',rfl⟩:=ry;exact PySem.EqNone.ne_none_int (dO I q (by simp))
  |str j=>obtain⟨t',rfl⟩:=ry;exact PySem.EqNone.ne_none_str (dO I q (by simp))
  |_=>exact absurd (show false=true from hs) Z9
 |bl i=>
  cases rx
  cases y with
  |non=>cases ry;exact PySem.EqNone.ne_bool_none (dO I q (by simp))
  |bl j=>cases ry;exact ne_bool (dO I q (ZV not xc8))
  |str j=>obtain⟨t',rfl⟩:=ry;exact PySem.EqMixed.ne_bool_str (dO I q (by simp))
  |_=>exact absurd (show false=true from hs) Z9
 |int i=>
  obtain⟨t,rfl⟩:=rx
  cases y with
  |non=>cases ry;exact PySem.EqNone.ne_int_none (dO I q (by simp))
  |int j=>obtain⟨t',rfl⟩:=ry;exact ne_int (dO I q (ZV not yp3))
  |str j=>obtain⟨t',rfl⟩:=ry;exact PySem.EqMixed.ne_int_str (dO I q (by simp))
  |_=>exact absurd (show false=true from hs) Z9
 |str i=>
  obtain⟨t,rfl⟩:=rx
  cases y with
  |non=>cases ry;exact PySem.EqNone.ne_str_none (dO I q (by simp))
  |bl j=>cases ry;exact PySem.EqMixed.ne_str_bool (dO I q (by simp))
  |int j=>obtain⟨t',rfl⟩:=ry;exact PySem.EqMixed.ne_str_int (dO I q (by simp))
  |str j=>obtain⟨t',rfl⟩:=ry;exact ne_str (dO I q (ZV not yp4))
  |_=>exact absurd (show false=true from hs) Z9
 |byt i=>
  obtain⟨t,rfl⟩:=rx
  cases y with
  |byt j=>obtain⟨t',rfl⟩:=ry;exact PySem.W.ne_bytes (dO I q (ZV not yp5))
  |_=>exact absurd (show false=true from hs) Z9
 |_=>cases y<;>exact absurd (show false=true from hs) Z9⟩
theorem wp2:OpR X (compareOp .Lt) (rI0 fun i j=> .bl (decide (i<j))):=yu6 fun _ _ _ _ _ _ _ q=>lt_int q
theorem wp3:OpR X (compareOp .LtE) (rI0 fun i j=> .bl (decide (i<=j))):=yu6 fun _ _ _ _ _ _ _ q=>le_int q
theorem wp4:OpR X (compareOp .Gt) (rI0 fun i j=> .bl (decide (j<i))):=yu6 fun _ _ _ _ _ _ _ q=>gt_int q
theorem wp5:OpR X (compareOp .GtE) (rI0 fun i j=> .bl (decide (j<=i))):=yu6 fun _ _ _ _ _ _ _ q=>ge_int q
theorem wh2:OpR X (compareOp .Is) (fun x y H Q=>y= .non/\Q (.bl (decide (x= .non))) H):=⟨by
 intro pins s σ H x y v u Q I rx ry h
 obtain⟨rfl,q⟩:=h
 cases ry
 refine is_none_gen (dO I q ?_)
 cases x<;>first
  |(cases rx;rfl)
  |(obtain⟨t,rfl⟩:=rx;rfl)⟩
theorem xz5:OpR X (compareOp .IsNot) (fun x y H Q=>y= .non/\Q (.bl (!decide (x= .non))) H):=⟨by
 intro pins s σ H x y v u Q I rx ry h
 obtain⟨rfl,q⟩:=h
 cases ry
 refine isnot_none_gen (dO I q ?_)
 cases x<;>first
  |(cases rx;rfl)
  |(obtain⟨t,rfl⟩:=rx;rfl)⟩
theorem bN(b:Expr){op:CmpOp}(h:op≠ .In:=by decide)(h2:op≠ .NotIn:=by decide):behindInMarks op b=false:=by
 have e1:(op==CmpOp.In)=false:=by cases op<;>first|rfl|exact absurd rfl h
 have e2:(op==CmpOp.NotIn)=false:=by cases op<;>first|rfl|exact absurd rfl h2
 cases b<;>simp [behindInMarks,e1,e2]
theorem yp6{op:CmpOp}{r:R2}(ho:OpR X (compareOp op) r)(ha:PE X a ta)(hb:PE X b tb)(hm:behindInMarks op b=false):PE X (.Compare a [op] [b] pos) (tOp r ta tb):=⟨by
 intro pins s σ H Q I h
 exact wpAny_Compare1 (xo4 ha hb I h fun v u s2 x y H2 I2 rx ry q=>ho pins s2 σ H2 x y v u Q I2 rx ry q) hm⟩
def xy4(t:TE):TT:=fun σ H Q=>t σ H fun x H'=>∃k,x= .bl k/\Q k H'
theorem yp7{op:CmpOp}{r:R2}(ho:OpR X (compareOp op) r)(ha:PE X a ta)(hb:PE X b tb)(hm:behindInMarks op b=false):PT X (.Compare a [op] [b] pos) (xy4 (tOp r ta tb)):=⟨by
 intro pins s σ H Q I h
 refine wpAny_isTrue_Compare1 (thn (ha pins s σ H _ I h) fun v s1 ⟨x,H1,I1,r1,q1⟩=>thn (hb pins s1 σ H1 _ I1 q1) fun u s2 ⟨y,H2,I2,r2,q2⟩=>
  thn (ho pins s2 σ H2 x y v u _ I2 r1 r2 q2) fun c s3 ⟨z,H3,I3,r3,k,e,q3⟩=> ?_) hm
 subst e
 cases r3
 exact Y3 ⟨H3,I3,q3⟩⟩
def xn7(r r':R2)(ta tb tc:TE):TE:=fun σ H Q=>ta σ H fun x H1=>tb σ H1 fun y H2=>r x y H2 fun z H3=>∃k,z= .bl k/\
 (if k=true then tc σ H3 fun w' H4=>r' y w' H4 Q else Q (.bl false) H3)
theorem xo6{op op':CmpOp}{r r':R2}(ho:OpR X (compareOp op) r)(ho':OpR X (compareOp op') r')(ha:PE X a ta)(hb:PE X b tb)(hc:PE X c tc)
  (hm:lastMarks [op,op'] [b,c]=false:=by with_unfolding_all rfl):PT X (.Compare a [op,op'] [b,c] pos) (xy4 (xn7 r r' ta tb tc)):=⟨by
 intro pins s σ H Q I h
 refine isTrue_chain (thn (ha pins s σ H _ I h) fun v s1 ⟨x,H1,I1,r1,q1⟩=>test_link (thn (hb pins s1 σ H1 _ I1 q1) fun u s2 ⟨y,H2,I2,r2,q2⟩=>
  thn (ho pins s2 σ H2 x y v u _ I2 r1 r2 q2) fun d s3 ⟨z,H3,I3,r3,k,e,q3⟩=> ?_)) hm
 subst e
 cases r3
 refine Y3 ?_
 cases k with
 |false=>
  obtain⟨k',e',q'⟩:=q3
  cases e'
  exact ite_ff ⟨H3,I3,q'⟩
 |true=>
  refine ite_tt (test_last (thn (hc pins s3 σ H3 _ I3 q3) fun w' s4 ⟨z',H4,I4,r4,q4⟩=>thn (ho' pins s4 σ H4 y z' u w' _ I4 r2 r4 q4) fun d' s5 ⟨z2,H5,I5,r5,k2,e2,q5⟩=> ?_))
  subst e2
  cases r5
  exact Y3 ⟨H5,I5,q5⟩⟩
def xw1(K:tz0)(x:V)(H:Hp)(k:Bool):Prop:=
 match x with
 | .non=>k=false
 | .bl b=>k=b
 | .int i=>k=(i !=0)
 | .str y=>y.length<=sizeLine/\k=((y.length:Int) !=0)
 | .byt y=>y.size<=sizeLine/\k=((y.size:Int) !=0)
 | .ref p=>(∃xs,SqL K H p xs/\k= !xs.isEmpty)\/(∃xs,SqT K H p xs/\k= !xs.isEmpty)\/∃kvs,H p=some (.dK kvs)/\k= !kvs.isEmpty
 |_=>False
theorem yu9{κ:Type}{kvs:List (κ×V)}{vs:List (κ×Value)}(r:KV kvs vs):(!vs.isEmpty)= !kvs.isEmpty:=by
 cases r<;>rfl
theorem zl7{xs:List V}{its:List Value}(r:bW xs its):(!its.toArray.isEmpty)= !xs.isEmpty:=by
 cases r<;>simp
theorem uK:(sizeLine:Nat)<2^63:=by rw [ZP];decide
theorem wh3:wv1 X (fun x H Q=>∃k,xw1 X.K x H k/\Q k H):=by
 intro pins s σ H x v Q I rx h
 obtain⟨k,e,q⟩:=h
 have hl:=uK
 have hs:sizeLine=16777216:=ZP
 cases x with
 |non=>
  cases rx
  have e':k=false:=e
  subst e'
  exact truthy_none ⟨H,I,q⟩
 |bl b=>
  cases rx
  have e':k=b:=e
  subst e'
  exact Y3 ⟨H,I,q⟩
 |int i=>
  obtain⟨t,rfl⟩:=rx
  have e':k=(i !=0):=e
  subst e'
  exact PySem.P.truthy_int ⟨H,I,q⟩
 |str y=>
  obtain⟨t,rfl⟩:=rx
  obtain⟨hy,e'⟩:y.length<=sizeLine/\k=((y.length:Int) !=0):=e
  subst e'
  exact PySem.P.truthy_str (by omega) ⟨H,I.tok _,q⟩
 |byt y=>
  obtain⟨t,rfl⟩:=rx
  obtain⟨hy,e'⟩:y.size<=sizeLine/\k=((y.size:Int) !=0):=e
  subst e'
  exact PySem.W.truthy_bytes (by omega) ⟨H,I.tok _,q⟩
 | ref p=>
  cases rx
  have e':(∃xs,SqL X.K H p xs/\k= !xs.isEmpty)\/(∃xs,SqT X.K H p xs/\k= !xs.isEmpty)\/∃kvs,H p=some (.dK kvs)/\k= !kvs.isEmpty:=e
  rcases e' with ⟨xs,hx,e'⟩|⟨xs,hx,e'⟩|⟨kvs,hx,e'⟩
  ·subst e'
   obtain⟨its,r,pl,hz⟩:=I.list hx
   have hlen:=r.length
   exact wpAny_truthy_list pl.isList (by simp only [Zl];omega) ⟨H,I.tok _,by rw [zl7 r];exact q⟩
  ·subst e'
   obtain⟨its,r,pl,hz⟩:=I.tuple hx
   have hlen:=r.length
   exact truthy_tuple pl (by simp only [Zl];omega) ⟨H,I.tok _,by rw [zl7 r];exact q⟩
  ·subst e'
   obtain⟨hz,hS,vs,r,m⟩:kvs.length<=sizeLine/\(p==sysModules)=false/\∃vs,KV kvs vs/\s.heap.DictOf (fK X.prog X.w) p vs:=I.hok p _ hx
   have hlen:kvs.length=vs.length:=ZM r
   exact wpAny_truthy_dict hS m (by omega) ⟨H,I.tok _,by rw [yu9 r];exact q⟩
 |_=>exact(show False from e).elim
theorem yf5(ha:PE X a ta)(he:∀whole,isTrue a X.env whole=(do let v<-whole;standAt a.pos;holding [v] (truthy v))):
  PT X a (fun σ H Q=>ta σ H fun x H'=>∃k,xw1 X.K x H' k/\Q k H'):=⟨by
 intro pins s σ H Q I h
 exact isTrue_plain (thn (ha pins s σ H _ I h) fun v s1 ⟨x,H1,I1,r1,q1⟩=>wh3 pins s1 σ H1 x v Q I1 r1 q1) (he _)⟩
theorem yv0:OpR X (binaryOp .Add) (fun x y H Q=>∃i j,x= .str i/\y= .str j/\i.length+j.length<=sizeLine/\Q (.str (i++j)) H):=⟨by
 intro pins s σ H x y v u Q I rx ry h
 obtain⟨i,j,rfl,rfl,hz,q⟩:=h
 obtain⟨t,rfl⟩:=rx
 obtain⟨t',rfl⟩:=ry
 exact add_str (fun t' tk=>⟨.str (i++j),H,I.tok _,⟨_,rfl⟩,q⟩) hz⟩
theorem oG{x:V}{us:List Value}(r:bW [x] us):∃u,us=[u]/\cV x u:=by
 cases r with
 |cons r1 r2=>cases r2;exact⟨_,rfl,r1⟩
theorem xx3{x y:V}{us:List Value}(r:bW [x,y] us):∃u w',us=[u,w']/\cV x u/\cV y w':=by
 cases r with
 |cons r1 r2=>
  cases r2 with
  |cons r3 r4=>cases r4;exact⟨_,_,rfl,r1,r3⟩
theorem zw2(hc:X.calm=true):CallR X (.builtin "max") (fun xs H Q=>∃i j,xs=[.int i,.int j]/\Q (.int (if j>i then j else i)) H):=⟨by
 intro pins s σ H xs us Q I r h
 obtain⟨i,j,rfl,q⟩:=h
 obtain⟨u,w',rfl,⟨t,rfl⟩,⟨t',rfl⟩⟩:=xx3 r
 refine max_two_ints (I.ok.hd hc) fun h' tk k=>⟨_,H,I.kept k,?_,q⟩
 by_cases hj:j>i
 ·rw [if_pos hj,if_pos hj];exact⟨_,rfl⟩
 ·rw [if_neg hj,if_neg hj];exact⟨_,rfl⟩⟩
theorem xc9(hc:X.calm=true):CallR X (.builtin "min") (fun xs H Q=>∃i j,xs=[.int i,.int j]/\Q (.int (if j<i then j else i)) H):=⟨by
 intro pins s σ H xs us Q I r h
 obtain⟨i,j,rfl,q⟩:=h
 obtain⟨u,w',rfl,⟨t,rfl⟩,⟨t',rfl⟩⟩:=xx3 r
 refine min_two_ints (I.ok.hd hc) fun h' tk k=>⟨_,H,I.kept k,?_,q⟩
 by_cases hj:j<i
 ·rw [if_pos hj,if_pos hj];exact⟨_,rfl⟩
 ·rw [if_neg hj,if_neg hj];exact⟨_,rfl⟩⟩
theorem zw3:CallR X (.type "int") (fun xs H Q=>(∃i,xs=[.int i]/\Q (.int i) H)\/∃k,xs=[.bl k]/\Q (.int (if k then 1 else 0)) H):=⟨by
 intro pins s σ H xs us Q I r h
 rcases h with ⟨i,rfl,q⟩|⟨k,rfl,q⟩
 ·obtain⟨u,rfl,t,rfl⟩:=oG r
  exact call_int_int ⟨.int i,H,I,⟨_,rfl⟩,q⟩
 ·obtain⟨u,rfl,r1⟩:=oG r
  cases r1
  exact call_int_bool ⟨.int (if k then 1 else 0),H,I.tok _,⟨_,rfl⟩,q⟩⟩
end
structure ObjM(h:Heap)(x dx C:Addr)(mA:tzA):Prop where
 obj:h.get? x=some (PySem.W.instObj C dx)
 ns:h.Ns1 dx mA
 ne:dx≠x
theorem xd0{h:Heap}{dx:Addr}{mA:tzA}(n:h.Ns1 dx mA):∃od,h.get? dx=some od/\∀name,PySem.W.lookIn name od=some (mA name):=by
 obtain⟨o,es,ep,ho,hd,hk,_,hm⟩:=n
 refine⟨o,ho,fun name=> ?_⟩
 have e:=hm name
 unfold nsFind findBy at e
 rw [<-Array.find?_toList] at e
 unfold PySem.W.lookIn
 rw [hd]
 dsimp only
 split
 ·rename_i y q
  rw [q] at e
  exact ZV some e
 ·rename_i q
  rw [q] at e
  have a:es.toList.any (·.refKey)=false:=by
   rw [List.any_eq_false]
   intro y hy
   obtain⟨z,t,hkey⟩:=hk y (Array.mem_toList_iff.mp hy)
   simp [DictEntry.refKey,hkey]
  have a':¬es.toList.any (·.refKey)=true:=by rw [a];exact Z9
  rw [if_neg a']
  exact ZV some e
theorem ObjM.look{h:Heap}{x dx C:Addr}{mA:tzA}(I:ObjM h x dx C mA):∃od,PySem.W.InstAt h x (PySem.W.instObj C dx) C (some od)/\∀name,PySem.W.lookIn name od=some (mA name):=
 let ⟨od,ho,hl⟩:=xd0 I.ns
 ⟨od,⟨I.obj,rfl,rfl,ho⟩,hl⟩
section
variable{prog:Program}{w:World}{A:Around}{E:Value->Shared->Prop}{s:Shared}{K:tz0}{x dx C f:Addr}{mA:tzA}{name:Str}{v:Value}
theorem yp8{expr:Bool}{Q:Value->Shared->Prop}(X:K.In s.heap)(I:ObjM s.heap x dx C mA)(hg:PySem.W.plainGet K C name=true)(hh:PySem.W.hasDictIn K C=true)
  (ha:PySem.W.findIn K (.ref C) name=some none) (hv:mA name=some v) (hv':PySem.W.handedIn v=true) (h:Q v {s with toks:=s.toks+1}):
  wpAny (model prog w) A (getAttr (.ref x) name expr) Q E s:=by
 obtain⟨od,J,hl⟩:=I.look
 exact PySem.W.get_value X J (Xf hg).1 (PySem.W.findObj_own hh ha rfl (by rw [hl,hv])) hv' h
theorem yf6{pl:Sem Bool}{Q:Value×List Value->Shared->Prop}(X:K.In s.heap)(I:ObjM s.heap x dx C mA)(hg:PySem.W.plainGet K C name=true)
  (hf:PySem.W.findIn K (.ref C) name=some (some (.ref f))) (ht:PySem.W.isFn K (.ref f)=true) (hv:mA name=none) (h:Q (.ref f,[.ref x]) s):
  wpAny (model prog w) A (getMethod (.ref x) name pl) Q E s:=by
 obtain⟨od,J,hl⟩:=I.look
 exact PySem.W.method_fn X J (Xf hg).1 (Xf hg).2 hf (YI.mp ht) (by show(PySem.W.lookIn name od).map (·.isSome)=some false;rw [hl,hv];rfl) h
theorem xz6{ns:List Str}{Q:Unit->Shared->Prop}(X:K.In s.heap)(I:ObjM s.heap x dx C mA)
  (hs:PySem.W.findIn K (.ref C) "__setattr__"=some (some (.builtin "object.__setattr__"))) (hp:PySem.W.plainOver K C=true) (ht:PySem.W.takerIn K C name=some none) (hh:PySem.W.hasDictIn K C=true)
  (hw:PySem.Within mA ns) (hsz:ns.length<=sizeLine)
  (h:∀h',ObjM h' x dx C (fun y=>if y=name then some v else mA y)->Heap.SameBut dx s.heap h'->Q () {s with heap:=h',toks:=s.toks+2}):
  wpAny (model prog w) A (setAttr (.ref x) name v) Q E s:=by
 obtain⟨od,J,hl⟩:=I.look
 refine PySem.W.set_plain X J hs (PySem.W.osa_open (s:={s with toks:=s.toks+1}) (r:=none) X J hp ht fun b=> ?_)
 obtain⟨cd,hc,hd'⟩:=PySem.W.any_some hh
 have hx:s.heap.get? x=some ⟨.ref C,some dx,.plain,#[]⟩:=I.obj
 refine Zj (ZI (Zj (Zj (wpAny_loadPart hx (Zj (PySem.W.Looks.here (s:={s with toks:=s.toks+1}) (PySem.W.looks_clsIn X hc) ?_))))))
 rw [hd']
 refine ZI (a:=some dx) (Zj (ZI (Zj ?_)))
 refine wpAny_nsSet1 (s:={s with toks:=s.toks+1}) I.ns fun h' hn2 hs2=> ?_
 obtain⟨oD,esD,epD,hoD,hdD,hcD⟩:=hn2.count (PySem.Within.cons name v hw)
 refine Zj (wpAny_lookBehind hoD (by rw [hdD];exact pastItsLine_dict (Zr hcD (by rw [Z6];omega))) ?_)
 exact ZI (h _ ⟨(hs2.2 _ (Y8 I.ne)).trans I.obj,hn2,I.ne⟩ hs2)
theorem xo7{R:Result->Shared->Prop}{vs:List Value}{kw:List (Str×Value)}(X:K.In s.heap)(hm:PySem.W.makesIn K C=true)
  (hi:PySem.W.findIn K (.ref C) "__init__"=some (some (.ref f))) (hf:PySem.W.typeIn K (.ref f)=some (.type "function"))
  (h:codeAny (model prog w) (A.under (.builtin "type.__call__" ⟨.ref C::vs,kw⟩)) (.call (.ref f) ⟨.ref (s.heap.objs.size+1)::vs,kw⟩) (PySem.W.InitBack (s.heap.objs.size+1) R)
   {s with heap:=(s.heap.push PySem.W.emptyDict).push (PySem.W.instObj C s.heap.objs.size)}):
  codeAny (model prog w) A (.call (.ref C) ⟨vs,kw⟩) R s:=by
 obtain⟨hh,g,d,t,os⟩:=s
 exact PySem.W.make_core (PySem.W.makes_of X hm) (PySem.W.looks_findIn X hi) (fun self=>PySem.W.bind_fn X self hf) (.inl rfl) h
end
def gV(f:Str)(v:V):List (Str×V)->List (Str×V)
 |[]=>[(f,v)]
 |(g,x)::r=>if g=f then(g,v)::r else(g,x)::gV f v r
theorem zi3(f g:Str)(v:V):∀fs:List (Str×V),(gV f v fs).lookup g=if g=f then some v else fs.lookup g
 | []=>by
  show List.lookup g [(f,v)]=_
  by_cases h:g=f
  ·have hb:(g==f)=true:=YI.mpr h
   simp only [List.lookup,hb,if_pos h]
  ·have hb:(g==f)=false:=Yb.mpr h
   simp only [List.lookup,hb,if_neg h]
 | (k,x)::r=>by
  have ih:=zi3 f g v r
  rw [show gV f v ((k,x)::r)=(if k=f then(k,v)::r else(k,x)::gV f v r) from rfl]
  by_cases hk:k=f
  ·rw [if_pos hk]
   by_cases h:g=k
   ·have hb:(g==k)=true:=YI.mpr h
    simp only [List.lookup,hb,if_pos (h.trans hk)]
   ·have hb:(g==k)=false:=Yb.mpr h
    simp only [List.lookup,hb,if_neg (fun e:g=f=>h (e.trans hk.symm))]
  ·rw [if_neg hk]
   by_cases h:g=k
   ·have hb:(g==k)=true:=YI.mpr h
    simp only [List.lookup,hb,if_neg (fun e:g=f=>hk (h.symm.trans e))]
   ·have hb:(g==k)=false:=Yb.mpr h
    simp only [List.lookup,hb]
    exact ih
theorem za8(f:Str)(v:V):∀fs:List (Str×V),f∈(gV f v fs).map (·.1)/\∀g,g∈fs.map (·.1)->g∈(gV f v fs).map (·.1)
 |[]=>⟨by simp [gV],fun g h=>by simp at h⟩
 | (k,x)::r=>by
  obtain⟨i1,i2⟩:=za8 f v r
  rw [show gV f v ((k,x)::r)=(if k=f then(k,v)::r else(k,x)::gV f v r) from rfl]
  by_cases hk:k=f
  ·rw [if_pos hk]
   subst hk
   exact⟨by simp,fun g h=>by simpa using h⟩
  ·rw [if_neg hk]
   refine⟨?_,fun g h=> ?_⟩
   ·rw [Zb]
    exact Z1 _ i1
   ·rw [Zb] at h|-
    rcases Z5.mp h with e|e
    ·exact Z5.mpr (.inl e)
    ·exact Z1 _ (i2 g e)
theorem zi4(f:Str)(v:V):∀fs:List (Str×V),(gV f v fs).length<=fs.length+1
 |[]=>by simp [gV]
 |(k,x)::r=>by
  have ih:=zi4 f v r
  rw [show gV f v ((k,x)::r)=(if k=f then(k,v)::r else(k,x)::gV f v r) from rfl]
  by_cases hk:k=f
  ·rw [if_pos hk,Z6,Z6];omega
  ·rw [if_neg hk,Z6,Z6];omega
theorem kX.some_of{v:V}{o:Option Value}(r:kX (some v) o):∃u,o=some u/\cV v u:=by
 cases o with
 |none=>exact(show False from r).elim
 |some u=>exact⟨u,rfl,r⟩
theorem kX.none_of{o:Option Value}(r:kX none o):o=none:=by
 cases o with
 |none=>rfl
 |some u=>exact(show False from r).elim
theorem zw4{v:V}{u:Value}(r:cV v u):PySem.W.handedIn u=true:=by
 cases v with
 |non=>cases(show u=Value.none from r);rfl
 |bl b=>cases(show u=Value.bool b from r);rfl
 |int i=>obtain⟨t,e⟩:=(show ∃t,u=Value.int i t from r);cases e;rfl
 |str x=>obtain⟨t,e⟩:=(show ∃t,u=Value.str x t from r);cases e;rfl
 |byt b=>obtain⟨t,e⟩:=(show ∃t,u=Value.bytes b t from r);cases e;rfl
 |flt b=>obtain⟨t,e⟩:=(show ∃t,u=Value.float b t from r);cases e;rfl
 |ref a=>cases(show u=Value.ref a from r);rfl
 |ty n=>cases(show u=Value.type n from r);rfl
section
variable{P:Program}{w:World}{H H':Hp}{h h':Heap}{a C dx:Addr}{fs fs':List (Str×V)}
theorem zr6(hok:HOk P w H h)(e:H a=some (.ins C dx fs)):∃mA,ObjM h a dx C mA/\(∀f,kX (fs.lookup f) (mA f))/\PySem.Within mA (fs.map (·.1))/\fs.length<=1000/\H dx=some (.own a):=by
 obtain⟨d,z,ne,ob,mA,n,r,q⟩:=(show eI P w H h a (.ins C dx fs) from hok a _ e)
 exact⟨mA,⟨ob,n,ne⟩,r,q,z,d⟩
end
structure Cls(K:tz0)(C:Addr):Prop where
 pg:PySem.W.plainGet K C Str.empty=true
 hd:PySem.W.hasDictIn K C=true
 po:PySem.W.plainOver K C=true
 sa:PySem.W.findIn K (.ref C) "__setattr__"=some (some (.builtin "object.__setattr__"))
theorem Cls.get{K:tz0}{C:Addr}(c:Cls K C)(f:Str):PySem.W.plainGet K C f=true:=c.pg
def cN(K:tz0)(C:Addr)(f:Str):Prop:=PySem.W.findIn K (.ref C) f=some none
theorem cN.taker{K:tz0}{C:Addr}{f:Str}(n:cN K C f):PySem.W.takerIn K C f=some none:=by
 unfold PySem.W.takerIn
 rw [show PySem.W.findIn K (.ref C) f=some none from n]
 rfl
structure Meth(K:tz0)(C:Addr)(m:Str)(f:Addr):Prop where
 at_:PySem.W.findIn K (.ref C) m=some (some (.ref f))
 fn:PySem.W.isFn K (.ref f)=true
 kp:PySem.W.keepIn K (.ref f)=true
section
variable{X:Cx}{pins:tzB}{σ:St}{H:Hp}{s:Shared}{a C dx:Addr}{fs:List (Str×V)}{f:Str}{v:V}{A:Around}{E:Value->Shared->Prop}
theorem yv1{b:Bool}{Q:Value->Shared->Prop}(I:Inv X pins σ H s)(e:H a=some (.ins C dx fs))(c:Cls X.K C)(n:cN X.K C f)(l:fs.lookup f=some v)
  (h:∀u s',Inv X pins σ H s'->cV v u->Q u s'):wpAny (model X.prog X.w) A (getAttr (.ref a) f b) Q E s:=by
 obtain⟨mA,O,r,_,_,_⟩:=zr6 I.hok e
 obtain⟨u,hu,ru⟩:=kX.some_of (v:=v) (o:=mA f) (by rw [<-l];exact r f)
 exact yp8 I.kIn O (c.get f) c.hd n hu (zw4 ru) (h u _ (I.tok _) ru)
theorem zl8{m:Str}{g:Addr}{pl:Sem Bool}{Q:Value×List Value->Shared->Prop}(I:Inv X pins σ H s)(e:H a=some (.ins C dx fs))(c:Cls X.K C)(k:Meth X.K C m g)(l:fs.lookup m=none)
  (h:Q (.ref g,[.ref a]) s):wpAny (model X.prog X.w) A (getMethod (.ref a) m pl) Q E s:=by
 obtain⟨mA,O,r,_,_,_⟩:=zr6 I.hok e
 have hn:mA m=none:=kX.none_of (by rw [<-l];exact r m)
 exact yf6 I.kIn O (c.get m) k.at_ k.fn hn h
theorem yv2{y:V}{u:Value}{Q:Unit->Shared->Prop}(I:Inv X pins σ H s)(e:H a=some (.ins C dx fs))(c:Cls X.K C)(n:cN X.K C f)(hl:fs.length<1000)(ry:cV y u)
  (h:∀s',Inv X pins σ (upd H a (.ins C dx (gV f y fs))) s'->Q () s'):wpAny (model X.prog X.w) A (setAttr (.ref a) f u) Q E s:=by
 obtain⟨mA,O,r,wi,_,ho⟩:=zr6 I.hok e
 have hz:(fs.map (·.1)).length<=sizeLine:=by rw [Zd,ZP];omega
 refine xz6 I.kIn O c.sa c.po n.taker c.hd wi hz fun h' O' sb=>h _ ?_
 have hd:∃o,h'.get? dx=some o:=let ⟨o,_,_,e',_⟩:=O'.ns;⟨o,e'⟩
 refine I.write (x:=a) (e:=dx) (by rw [e];exact True.intro) (.inr ho) (fun b q hb z=>(sb.2 b hb).trans z) hd ?_
 refine⟨by rw [bR O.ne];exact ho,?_,O.ne,O'.obj,_,O'.ns,fun g=> ?_,fun g hg=> ?_⟩
 ·have:=zi4 f y fs;omega
 ·show kX ((gV f y fs).lookup g) (if g=f then some u else mA g)
  rw [zi3]
  by_cases q:g=f
  ·rw [if_pos q,if_pos q];exact ry
  ·rw [if_neg q,if_neg q];exact r g
 ·by_cases q:g=f
  ·rw [q];exact(za8 f y fs).1
  ·refine(za8 f y fs).2 g (wi g fun z=>hg ?_)
   show(if g=f then some u else mA g)=none
   rw [if_neg q];exact z
theorem Inv.made(I:Inv X pins σ H s):Inv X pins σ (upd (upd H s.heap.objs.size (.own (s.heap.objs.size+1))) (s.heap.objs.size+1) (.ins C s.heap.objs.size []))
  {s with heap:=(s.heap.push PySem.W.emptyDict).push (PySem.W.instObj C s.heap.objs.size)}:=by
 have e1:(s.heap.push PySem.W.emptyDict).get? s.heap.objs.size=some PySem.W.emptyDict:=Zw s.heap rfl
 have e2:((s.heap.push PySem.W.emptyDict).push (PySem.W.instObj C s.heap.objs.size)).get? (s.heap.objs.size+1)=some (PySem.W.instObj C s.heap.objs.size):=by
  have:=Zw (s.heap.push PySem.W.emptyDict) (o:=PySem.W.instObj C s.heap.objs.size) rfl
  rwa [Wg] at this
 have e3:(s.heap.push PySem.W.emptyDict).Ns s.heap.objs.size (fun _=>none):=⟨PySem.W.emptyDict,#[],_,e1,rfl,(fun e he=>absurd he (by simp)),fun _=>rfl⟩
 have I1:=I.laid (a:=s.heap.objs.size) (o:= .own (s.heap.objs.size+1)) (h':=s.heap.push PySem.W.emptyDict) (t':=s.toks) (fun b u q=>Zf _ q) (Z7 _) ⟨_,e1⟩
 refine I1.laid (a:=s.heap.objs.size+1) (o:= .ins C s.heap.objs.size []) (t':=s.toks) (fun b u q=>Zf _ q) (Nat.le_of_eq (Wg _ _)) ?_
 have ne:s.heap.objs.size≠s.heap.objs.size+1:=ZF (YS _)
 refine⟨by rw [bR ne,dG],ZL _,ne,e2,fun _=>none,(Heap.Ns1.of_empty e3).at fun o q=>Zf _ q,fun _=>True.intro,fun y hy=>absurd rfl hy⟩
theorem yp9{prog:Program}{w:World}{env:Env}{e:Expr}{f:Str}{pos:Pos}{s:Shared}{Q:Value->Shared->Prop}(hb:attributeBase e f env (eval e env)=eval e env)
  (h:wpAny (model prog w) A (eval e env) (fun o s₁=>wpAny (model prog w) A (getAttr o f true) Q E s₁) E s):wpAny (model prog w) A (eval (.Attribute e f pos) env) Q E s:=
 Attribute_any_ h (by rw [arm_eval_Attribute,hb])
end
def wv4(K:tz0)(ta:TE)(f:Str):TE:=fun σ H Q=>ta σ H fun x H1=>∃a C dx fs v,x= .ref a/\H1 a=some (.ins C dx fs)/\Cls K C/\cN K C f/\fs.lookup f=some v/\Q v H1
def wv5(K:tz0)(ta tv:TE)(f:Str):TS:=fun D σ H=>tv σ H fun y H1=>ta σ H1 fun x H2=>∃a C dx fs,x= .ref a/\H2 a=some (.ins C dx fs)/\Cls K C/\cN K C f/\fs.length<1000/\
 D.nx σ (upd H2 a (.ins C dx (gV f y fs)))
section
variable{X:Cx}{o e value:Expr}{f:Str}{pos pos' tpos:Pos}{ta tv:TE}
theorem wh4(he:PE X e ta)(hb:attributeBase e f X.env (eval e X.env)=eval e X.env):PE X (.Attribute e f pos) (wv4 X.K ta f):=⟨by
 intro pins s σ H Q I h
 refine yp9 hb (thn (he pins s σ H _ I h) fun u s1 ⟨x,H1,I1,rx,a,C,dx,fs,v,ex,ea,c,n,l,q⟩=> ?_)
 subst ex
 obtain rfl:u=Value.ref a:=rx
 exact yv1 I1 ea c n l fun u' s2 I2 ru=>⟨v,H1,I2,ru,q⟩⟩
theorem wh5(ha:PE X o ta)(hv:PE X value tv)(hs:swapsWith value (some (.Attribute o f pos')) pos.line X.env=pure false):PS X (.Assign [.Attribute o f pos'] value pos) (wv5 X.K ta tv f):=⟨by
 intro pins s σ H D I h
 refine plainObj_wpAny_Assign_Attribute (thn (hv pins s σ H _ I h) fun u s1 ⟨y,H1,I1,ry,q⟩=>thn (ha pins s1 σ H1 _ I1 q) fun ov s2 ⟨x,H2,I2,rx,a,C,dx,fs,ex,ea,c,n,l,q2⟩=> ?_) hs
 subst ex
 obtain rfl:ov=Value.ref a:=rx
 exact yv2 I2 ea c n l ry fun s3 I3=>⟨σ,_,I3,q2⟩⟩
end
section
variable{X:Cx}{pins:tzB}{σ:St}{H:Hp}{s:Shared}{A:Around}{E:Value->Shared->Prop}{Q:Value->Shared->Prop}{c:Value}{b:Bool}
inductive TyOf(K:tz0)(H:Hp):V->Value->Prop where
 |non:TyOf K H .non (.type "NoneType")
 |bl (x:Bool):TyOf K H (.bl x) (.type "bool")
 |int (i:Int):TyOf K H (.int i) (.type "int")
 |str (x:Str):TyOf K H (.str x) (.type "str")
 |flt (x:UInt64):TyOf K H (.flt x) (.type "float")
 |lst {a:Addr} {xs:List V} (e:H a=some (.lst xs)):TyOf K H (.ref a) (.type "list")
 |frz {a:Addr} {o:Obj} {xs:List V} (e:H a=some (.frz o (.lst xs))):TyOf K H (.ref a) (.type "list")
 |tup {a:Addr} {xs:List V} (e:H a=some (.tup xs)):TyOf K H (.ref a) (.type "tuple")
 |dK {a:Addr} {kvs:List (Key×V)} (e:H a=some (.dK kvs)):TyOf K H (.ref a) (.type "dict")
 |dT {a:Addr} {kvs:List (List Key×V)} (e:H a=some (.dT kvs)):TyOf K H (.ref a) (.type "dict")
 | ins {a C dx:Addr} {fs:List (Str×V)} (e:H a=some (.ins C dx fs)) (cl:Cls K C) (ha:PySem.W.findIn K (.ref C) "__class__"=some (some (.builtin "object.__class__")))
   (hn:PySem.W.specialIn K (.builtin "object.__class__") "__get__"=some (some (.builtin "getset_descriptor.__get__"))) (htk:PySem.W.takesIn K (.builtin "object.__class__")=some true)
   (hm:PySem.W.mroIn K C (.type "object")=some true):TyOf K H (.ref a) (.ref C)
end
structure Room(k:Nat)(A:Around):Prop where
 hd:A.handled=none
 dp:A.depth+3*k+5<recursionLimit
 un:A.units+16*k+200<cLine
theorem Room.mono{j k:Nat}{A:Around}(r:Room k A)(h:j<=k):Room j A:=⟨r.hd,by have:=r.dp;omega,by have:=r.un;omega⟩
theorem Room.deeper{k:Nat}{A:Around}(r:Room (k+1) A)(env:Env):Room k (A.deeper env):=
 ⟨r.hd,by have:=r.dp;show A.depth+1+3*k+5<_;omega,by have:=r.un;show A.units+3+16*k+200<_;omega⟩
theorem yv3{A:Around}{C:Addr}{us:List Value}{kw:List (Str×Value)}:(A.under (.builtin "type.__call__" ⟨.ref C::us,kw⟩)).depth=A.depth+1:=by
 first|rfl|simp [Around.under,Code.weight,Code.isCreation,Code.isGuard,Code.isCaller,Code.frames,Code.isFrame,guardIds]
theorem yv4{A:Around}{C:Addr}{us:List Value}{kw:List (Str×Value)}:(A.under (.builtin "type.__call__" ⟨.ref C::us,kw⟩)).units=A.units+1:=by
 first|rfl|simp [Around.under,Code.cUnits,Code.frames,Code.isFrame]
theorem Room.make{k:Nat}{A:Around}(r:Room (k+1) A)(C:Addr)(us:List Value)(kw:List (Str×Value)):Room k (A.under (.builtin "type.__call__" ⟨.ref C::us,kw⟩)):=
 ⟨r.hd,by have:=r.dp;rw [yv3];omega,by have:=r.un;rw [yv4];omega⟩
theorem Room.depth{k:Nat}{A:Around}(r:Room k A):A.depth<recursionLimit:=by have:=r.dp;omega
theorem Room.units{k:Nat}{A:Around}(r:Room k A):A.units+64<cLine:=by have:=r.un;omega
theorem Room.units0{k:Nat}{A:Around}(r:Room k A):A.units<cLine:=by have:=r.un;omega
def xa2:TA:=fun _ H Q=>Q [] H
def ws2(ta:TE)(tr:TA):TA:=fun σ H Q=>ta σ H fun x H1=>tr σ H1 fun xs H2=>Q (x::xs) H2
abbrev StE(e:PySem.Expr)(es:List PySem.Expr)(X:Cx):Prop:=starEach (e::es) X.env=(false,eval e X.env)::starEach es X.env
section
variable{X:Cx}{e:Expr}{es:List Expr}{te:TE}{t:TA}{pos:Pos}
theorem pE:PA X [] xa2:=⟨fun _ _ _ _ H Q I h=>X7 ⟨[],H,I,.nil,h⟩⟩
theorem gL(ha:PE X e te)(hr:PA X es t)(hs:StE e es X:=by rfl):PA X (e::es) (ws2 te t):=⟨by
 intro pos pins s σ H Q I h
 rw [hs]
 show wpAny _ _ (spliced ((false,eval e X.env)::backTo pos (starEach es X.env))) _ _ s
 refine YT (thn (ha pins s σ H _ I h) fun u s1 ⟨x,H1,I1,r1,q1⟩=> ?_)
 exact thn (hr pos pins s1 σ H1 _ I1 q1) fun us s2 ⟨xs,H2,I2,r2,q2⟩=>⟨x::xs,H2,I2,.cons r1 r2,q2⟩⟩
def wv6(t:TA):TE:=fun σ H Q=>t σ H fun xs H1=>xs.length<=sizeLine/\∀p,H1 p=none->Q (.ref p) (upd H1 p (.tup xs))
def wv7(t:TA):TE:=fun σ H Q=>t σ H fun xs H1=>xs.length<=sizeLine/\∀p,H1 p=none->Q (.ref p) (upd H1 p (.lst xs))
theorem wh6{x1}(h:PA X es t):PE X (.Tuple es x1 pos) (wv6 t):=⟨by
 intro pins s σ H Q I hq
 refine wpAny_Tuple_spliced (thn (h pos pins s σ H _ I hq) fun us s1 ⟨xs,H1,I1,r,z,q⟩=>⟨by rw [<-r.length];exact z,?_⟩)
 have hf:H1 s1.heap.objs.size=none:=I1.hok.fresh (Z7 _)
 refine⟨.ref s1.heap.objs.size,upd H1 s1.heap.objs.size (.tup xs),I1.laid (t':=s1.toks) (fun b u e=>Zf _ e) (Z7 _) ?_,rfl,q _ hf⟩
 exact⟨z,us,r,⟨_,Zw _ rfl,rfl,_,rfl⟩⟩⟩
theorem wh7(h:PA X es t):PE X (.List es pos) (wv7 t):=⟨by
 intro pins s σ H Q I hq
 refine wpAny_List_spliced (thn (h pos pins s σ H _ I hq) fun us s1 ⟨xs,H1,I1,r,z,q⟩=>⟨by rw [<-r.length];exact z,?_⟩)
 have hf:H1 s1.heap.objs.size=none:=I1.hok.fresh (Z7 _)
 refine⟨.ref s1.heap.objs.size,upd H1 s1.heap.objs.size (.lst xs),I1.laid (t':=s1.toks) (fun b u e=>Zf _ e) (Z7 _) ?_,rfl,q _ hf⟩
 exact⟨z,us,0,r,Zw _ rfl⟩⟩
end
abbrev Sp:=List V->Hp->VK->XK->Prop
abbrev CXT:=List Env->Hp->Shared->XK->Value->Shared->Prop
structure Env0(P:Program)(w:World)(K:tz0)(mg:tzA)(base:Heap)(A:Around)(outer:List Env)(s:Shared)(H:Hp):Prop where
 frames:A.frames=some outer
 mod:Mod K mg base
 bs:∀b o,base.get? b=some o->s.heap.get? b=some o/\H b=none
 bsz:base.objs.size<=s.heap.objs.size
 funs:s.heap.FunFrames base outer
 frf:∀b∈frs outer,H b=none
 hok:HOk P w H s.heap
 bare:AllBare s.gens
def CE(outer:List Env)(P:Program)(w:World)(H:Hp)(s:Shared)(Q:VK)(u:Value)(s':Shared):Prop:=
 ∃v H',s'.os=s.os/\AllBare s'.gens/\Un (frs outer) [] H H' s.heap s'.heap/\HOk P w H' s'.heap/\cV v u/\Q v H'
def CR(CX:CXT)(outer:List Env)(P:Program)(w:World)(H:Hp)(s:Shared)(Q:VK)(E:XK)(r:Result)(s':Shared):Prop:=
 match r with
 | .ok (.ret u)=>CE outer P w H s Q u s'
 | .ok _=>False
 | .error e=>CX outer H s E e s'
structure FnOk(P:Program)(w:World)(K:tz0)(mg:tzA)(base:Heap)(CX:CXT)(k:Nat)(f:Addr)(fd:FuncData)(ps:List Str)(sp:Sp):Prop where
 len:∀vs H Q E,sp vs H Q E->vs.length=ps.length
 run:∀(A:Around) (outer:List Env) (s:Shared) (H:Hp) (args:Args) (us:List Value) (vs:List V) (Q:VK) (E:XK),Room k A->Env0 P w K mg base A outer s H->BindsTo s fd args (ps.zip us)->bW vs us->sp vs H Q E->
  codeAny (model P w) A (.call (.ref f) args) (CR CX outer P w H s Q E) s
theorem FnOk.mono{P:Program}{w:World}{K:tz0}{mg:tzA}{base:Heap}{CX:CXT}{j k:Nat}{f:Addr}{fd:FuncData}{ps:List Str}{sp:Sp}(F:FnOk P w K mg base CX j f fd ps sp)(h:j<=k):
  FnOk P w K mg base CX k f fd ps sp:=⟨F.len,fun A outer s H args us vs Q E hr=>F.run A outer s H args us vs Q E (hr.mono h)⟩
theorem FnOk.imp{P:Program}{w:World}{K:tz0}{mg:tzA}{base:Heap}{CX:CXT}{k:Nat}{f:Addr}{fd:FuncData}{ps:List Str}{sp sp':Sp}(F:FnOk P w K mg base CX k f fd ps sp)
  (h:∀vs H Q E,sp' vs H Q E->sp vs H Q E):FnOk P w K mg base CX k f fd ps sp':=
 ⟨fun vs H Q E q=>F.len vs H Q E (h _ _ _ _ q),fun A outer s H args us vs Q E hr he hb hv hs=>F.run A outer s H args us vs Q E hr he hb hv (h _ _ _ _ hs)⟩
theorem Env0.make{P:Program}{w:World}{K:tz0}{mg:tzA}{base:Heap}{A:Around}{outer:List Env}{s:Shared}{H:Hp}(e:Env0 P w K mg base A outer s H)(C:Addr)(us:List Value)(kw:List (Str×Value)):
  Env0 P w K mg base (A.under (.builtin "type.__call__" ⟨.ref C::us,kw⟩)) outer s H:=⟨by first|exact e.frames|(simpa [Around.under,Code.envs,Code.isFrame,pushEnvs] using e.frames),e.mod,e.bs,e.bsz,e.funs,e.frf,e.hok,e.bare⟩
section
variable{X:Cx}{pins:tzB}{σ:St}{H:Hp}{s s':Shared}
theorem Inv.env0(I:Inv X pins σ H s):Env0 X.prog X.w X.K X.mg X.base X.A X.stack s H:=
 ⟨I.ok.frames,I.ok.mod,I.bs,Zr I.ok.bsz I.sz,I.stack,I.stkFree,I.hok,I.bare⟩
theorem Inv.after{Q:VK}{u:Value}(I:Inv X pins σ H s)(h:CE X.stack X.prog X.w H s Q u s'):EP X pins σ Q u s':=by
 obtain⟨v,H',os,bare,un,hok,r,q⟩:=h
 obtain⟨hh,g,d,t,os'⟩:=s'
 obtain rfl:os'=s.os:=os
 exact⟨v,H',I.call (h':=hh) (g':=g) (d':=d) (t':=t) (ch:=[]) un hok bare (fun b z=>absurd z (by simp)),r,q⟩
end
def yd6(sp:Sp)(dvs:List V)(E:XK)(t:TA):TE:=fun σ H Q=>t σ H fun vs H1=>sp (vs++dvs) H1 Q E
def xy5(C:Addr)(m:Str)(sp:Sp)(dvs:List V)(E:XK)(ta:TE)(t:TA):TE:=fun σ H Q=>ta σ H fun x H1=>∃a dx fs,x= .ref a/\H1 a=some (.ins C dx fs)/\fs.lookup m=none/\
 t σ H1 fun vs H2=>sp (x::(vs++dvs)) H2 Q E
def ws3(C:Addr)(sp:Sp)(dvs:List V)(E:XK)(t:TA):TE:=fun σ H Q=>t σ H fun vs H1=>∀x dx,H1 x=none->H1 dx=none->dx≠x->
 sp (.ref x::(vs++dvs)) (upd (upd H1 dx (.own x)) x (.ins C dx [])) (fun v H2=>v= .non/\Q (.ref x) H2) E
def lS(K:tz0)(fd:FuncData)(ps:List Str)(ds:List Value):Prop:=
 ∀(s:Shared) (us:List Value),K.In s.heap->(us++ds).length=ps.length->BindsTo s fd ⟨us,[]⟩ (ps.zip (us++ds))
theorem lS.all{K:tz0}{fd:FuncData}{ps:List Str}(h:∀us:List Value,us.length=ps.length->bindArgs fd ⟨us,[]⟩=pure (ps.zip us)):lS K fd ps []:=fun s us _ hl=>by
 rw [Zi] at hl|-
 exact .of_eq (h us hl)
def nY(CX:CXT)(X:Cx)(E:XK):Prop:=∀(pins:tzB) (σ:St) (H:Hp) (s:Shared) (e:Value) (s':Shared),Inv X pins σ H s->CX X.stack H s E e s'->X.xe e s'
abbrev BkE(pos:PySem.Pos)(es:List PySem.Expr)(X:Cx):Prop:=(backTo pos (starEach es X.env)).any (·.1)=false
section
variable{X:Cx}{CX:CXT}{k:Nat}{f C:Addr}{fd:FuncData}{ps:List Str}{sp:Sp}{dvs:List V}{ds:List Value}{E:XK}{x m:Str}{p pos apos:Pos}{e o:Expr}{es:List Expr}{ta:TE}{t:TA}
theorem za9{pins:tzB}{σ:St}{H:Hp}{s:Shared}{Q:VK}{us:List Value}{vs:List V}(F:FnOk X.prog X.w X.K X.mg X.base CX k f fd ps sp)(hr:Room k X.A)(hb:lS X.K fd ps ds)(hd:bW dvs ds)(hx:nY CX X E)
  (I:Inv X pins σ H s) (r:bW vs us) (h:sp (vs++dvs) H Q E):wpAny (model X.prog X.w) X.A (call (.ref f) us) (EP X pins σ Q) X.xe s:=by
 have r2:bW (vs++dvs) (us++ds):=r.append hd
 have hl:(us++ds).length=ps.length:=by rw [<-r2.length];exact F.len _ _ _ _ h
 refine wpAny_call (Xg (F.run X.A X.stack s H ⟨us,[]⟩ (us++ds) (vs++dvs) Q E hr I.env0 (hb s us I.kIn hl) r2 h) fun r s' hq=> ?_)
 cases r with
 |error e=>exact hx pins σ H s e s' I hq
 |ok fl=>
  cases fl with
  |ret u=>exact I.after hq
  |next=>exact False.elim hq
  |brk=>exact False.elim hq
  |cont=>exact False.elim hq
theorem yq0(F:FnOk X.prog X.w X.K X.mg X.base CX k f fd ps sp)(hr:Room k X.A)(hg:Gl X x)(hm:X.mg x=some (.ref f))(hk:PySem.W.keepIn X.K (.ref f)=true)(hb:lS X.K fd ps ds)(hd:bW dvs ds)(hx:nY CX X E)
  (ha:PA X (e::es) t) (hdb:NDb x:=by decide) (he:StE e es X:=by rfl) (hpl:BkE pos es X:=by rfl):
  PE X (.Call (.Name x p) (e::es) [] pos) (yd6 sp dvs E t):=⟨by
 intro pins s σ H Q I h
 refine Y6 (tZ I hg hm ?_ hdb)
 refine Yr (h₀:=X.base) I.ok.mod.kin hk (thn (ha pos pins s σ H _ I h) fun us s1 ⟨vs,H1,I1,r,q⟩=>⟨I1.kIn,?_⟩) he hpl
 exact za9 F hr hb hd hx I1 r q⟩
theorem xo8(F:FnOk X.prog X.w X.K X.mg X.base CX k f fd ps sp)(hr:Room k X.A)(hg:Gl X x)(hm:X.mg x=some (.ref f))(hk:PySem.W.keepIn X.K (.ref f)=true)(hb:lS X.K fd ps ds)(hd:bW dvs ds)(hx:nY CX X E)
  (hdb:NDb x:=by decide):PE X (.Call (.Name x p) [] [] pos) (yd6 sp dvs E xa2):=⟨by
 intro pins s σ H Q I h
 refine Y6 (tZ I hg hm ?_ hdb)
 exact Wk I.kIn hk (za9 (us:=[]) F hr hb hd hx I .nil h)⟩
theorem xz7{pl:Sem Bool}(he:PE X o ta)(c:Cls X.K C)(hm:Meth X.K C m f)(F:FnOk X.prog X.w X.K X.mg X.base CX k f fd ps sp)(hr:Room k X.A)(hb:lS X.K fd ps ds)(hd:bW dvs ds)(hx:nY CX X E)(ha:PA X (e::es) t)
  (hst:StE e es X:=by rfl) (hpl:BkE pos es X:=by rfl)
  (ht:eval (.Call (.Attribute o m apos) (e::es) [] pos) X.env=(do
   let ov<-eval o X.env
   standAt apos.atName
   let (f,first)<-holding [ov] (getMethod ov m pl)
   callWith pos f first (backTo pos (starEach (e::es) X.env)) (backToKw pos (keywordEach [] X.env))):=by rfl):
  PE X (.Call (.Attribute o m apos) (e::es) [] pos) (xy5 C m sp dvs E ta t):=⟨by
 intro pins s σ H Q I h
 refine X9 (pl:=pl) (thn (he pins s σ H _ I h) fun u s1 ⟨x,H1,I1,rx,a,dx,fs,ex,ea,l,q⟩=> ?_) ht
 subst ex
 obtain rfl:u=Value.ref a:=rx
 refine zl8 I1 ea c hm l ?_
 refine Yr (first:=[.ref a]) (h₀:=X.base) I.ok.mod.kin hm.kp (thn (ha pos pins s1 σ H1 _ I1 q) fun us s2 ⟨vs,H2,I2,r,q2⟩=>⟨I2.kIn,?_⟩) hst hpl
 exact za9 (us:= .ref a::us) (vs:= .ref a::vs) F hr hb hd hx I2 (.cons rfl r) q2⟩
theorem xo9{pl:Sem Bool}(he:PE X o ta)(c:Cls X.K C)(hm:Meth X.K C m f)(F:FnOk X.prog X.w X.K X.mg X.base CX k f fd ps sp)(hr:Room k X.A)(hb:lS X.K fd ps ds)(hd:bW dvs ds)(hx:nY CX X E)
  (ht:eval (.Call (.Attribute o m apos) [] [] pos) X.env=(do
   let ov<-eval o X.env
   standAt apos.atName
   let (f,first)<-holding [ov] (getMethod ov m pl)
   callWith pos f first (backTo pos (starEach [] X.env)) (backToKw pos (keywordEach [] X.env))):=by rfl):
  PE X (.Call (.Attribute o m apos) [] [] pos) (xy5 C m sp dvs E ta xa2):=⟨by
 intro pins s σ H Q I h
 refine X9 (pl:=pl) (thn (he pins s σ H _ I h) fun u s1 ⟨x,H1,I1,rx,a,dx,fs,ex,ea,l,q⟩=> ?_) ht
 subst ex
 obtain rfl:u=Value.ref a:=rx
 refine zl8 I1 ea c hm l ?_
 exact Wk (first:=[.ref a]) I1.kIn hm.kp (za9 (us:=[.ref a]) (vs:=[.ref a]) F hr hb hd hx I1 (.cons rfl .nil) q)⟩
structure Mk(K:tz0)(C f:Addr):Prop where
 makes:PySem.W.makesIn K C=true
 init:PySem.W.findIn K (.ref C) "__init__"=some (some (.ref f))
 fn:PySem.W.isFn K (.ref f)=true
 kp:PySem.W.keepIn K (.ref C)=true
theorem xp0{pins:tzB}{σ:St}{H:Hp}{s:Shared}{Q:VK}{us:List Value}{vs:List V}(M:Mk X.K C f)(F:FnOk X.prog X.w X.K X.mg X.base CX k f fd ps sp)(hr:Room (k+1) X.A)(hb:lS X.K fd ps ds)(hd:bW dvs ds)
  (hx:nY CX X E) (I:Inv X pins σ H s) (r:bW vs us)
  (h:∀x dx,H x=none->H dx=none->dx≠x->sp (.ref x::(vs++dvs)) (upd (upd H dx (.own x)) x (.ins C dx [])) (fun v H2=>v= .non/\Q (.ref x) H2) E):
  wpAny (model X.prog X.w) X.A (call (.ref C) us) (EP X pins σ Q) X.xe s:=by
 have hq:=h (s.heap.objs.size+1) s.heap.objs.size (I.hok.fresh (Nat.le_succ _)) (I.hok.fresh (Z7 _)) (ZF (YS _))
 have I2:=Inv.made (C:=C) I
 have r2:bW (V.ref (s.heap.objs.size+1)::(vs++dvs)) (Value.ref (s.heap.objs.size+1)::(us++ds)):= .cons rfl (r.append hd)
 have hl:(Value.ref (s.heap.objs.size+1)::us++ds).length=ps.length:=by
  have e:=r2.length
  rw [F.len _ _ _ _ hq] at e
  exact e.symm
 refine wpAny_call (xo7 (f:=f) I.kIn M.makes M.init (YI.mp M.fn) (Xg (F.run _ X.stack _ _ ⟨Value.ref (s.heap.objs.size+1)::us,[]⟩ (Value.ref (s.heap.objs.size+1)::(us++ds)) _ _ E (hr.make C us [])
  (I2.env0.make C us []) (hb _ (Value.ref (s.heap.objs.size+1)::us) I2.kIn hl) r2 hq) fun r s' hq'=> ?_))
 cases r with
 |error e=>exact hx pins σ _ _ e s' I2 hq'
 | ok fl=>
  cases fl with
  |ret u=>
   obtain⟨v,H',I3,rv,ev,q3⟩:=I2.after hq'
   subst ev
   exact⟨rv,⟨V.ref (s.heap.objs.size+1),H',I3,rfl,q3⟩⟩
  |next=>exact False.elim hq'
  |brk=>exact False.elim hq'
  |cont=>exact False.elim hq'
theorem xz8(M:Mk X.K C f)(F:FnOk X.prog X.w X.K X.mg X.base CX k f fd ps sp)(hr:Room (k+1) X.A)(hg:Gl X x)(hm:X.mg x=some (.ref C))(hb:lS X.K fd ps ds)(hd:bW dvs ds)(hx:nY CX X E)
  (ha:PA X (e::es) t) (hdb:NDb x:=by decide) (he:StE e es X:=by rfl) (hpl:BkE pos es X:=by rfl):
  PE X (.Call (.Name x p) (e::es) [] pos) (ws3 C sp dvs E t):=⟨by
 intro pins s σ H Q I h
 refine Y6 (tZ I hg hm ?_ hdb)
 refine Yr (h₀:=X.base) I.ok.mod.kin M.kp (thn (ha pos pins s σ H _ I h) fun us s1 ⟨vs,H1,I1,r,q⟩=>⟨I1.kIn,?_⟩) he hpl
 exact xp0 M F hr hb hd hx I1 r q⟩
end
structure FnScope(N P:List Str)(sc:Scope):Prop where
 kind:sc.kind= .function
 co:sc.isCoroutine=false
 gen:sc.isGenerator=false
 nd:N.Nodup
 pre:N.take P.length=P
 par:∀x∈P,sc.names.lookup x=some .local\/sc.names.lookup x=some .cell
 nofree:∀y∈sc.names,y.2≠ .free
theorem zw5{kindOf:Str->Option NameKind}{x:Str}:∀{binds:List (Str×Value)} {m:tzA},(∀v,(x,v)∉binds)->bindL kindOf binds m x=m x
 |[],_,_=>rfl
 | (n,v)::r,m,h=>by
  unfold bindL
  rw [zw5 fun w hw=>h w (Z1 _ hw)]
  split
  ·have:x≠n:=by rintro rfl;exact h v Z0
   simp [this]
  ·rfl
theorem zw6{kindOf:Str->Option NameKind}{x:Str}:∀{binds:List (Str×Value)} {m:tzA},(∀v,(x,v)∉binds)->bindC kindOf binds m x=m x
 |[],_,_=>rfl
 | (n,v)::r,m,h=>by
  unfold bindC
  rw [zw6 fun w hw=>h w (Z1 _ hw)]
  split
  ·rfl
  ·have:x≠n:=by rintro rfl;exact h v Z0
   simp [this]
theorem zw7{kindOf:Str->Option NameKind}{x:Str}{v:Value}:∀{P:List Str} {vs:List Value} {i:Nat} {m:tzA},P.Nodup->P[i]? =some x->vs[i]? =some v->kindOf x=some .local->
  bindL kindOf (P.zip vs) m x=some v
 |[],_,_,_,_,h,_,_=>by simp at h
 |_::_,[],_,_,_,_,h,_=>by simp at h
 |p::P,w::vs,0,m,nd,h1,h2,hk=>by
  simp at h1 h2;subst h1;subst h2
  show bindL kindOf ((p,w)::P.zip vs) m p=_
  unfold bindL
  rw [zw5 fun v hv=>(Zu.mp nd).1 (XC hv).1,if_pos hk]
  simp
 |p::P,w::vs,i+1,m,nd,h1,h2,hk=>by
  show bindL kindOf ((p,w)::P.zip vs) m x=_
  unfold bindL
  exact zw7 (i:=i) (Zu.mp nd).2 (by simpa using h1) (by simpa using h2) hk
theorem zw8{kindOf:Str->Option NameKind}{x:Str}{v:Value}:∀{P:List Str} {vs:List Value} {i:Nat} {m:tzA},P.Nodup->P[i]? =some x->vs[i]? =some v->kindOf x≠some .local->
  bindC kindOf (P.zip vs) m x=some v
 |[],_,_,_,_,h,_,_=>by simp at h
 |_::_,[],_,_,_,_,h,_=>by simp at h
 |p::P,w::vs,0,m,nd,h1,h2,hk=>by
  simp at h1 h2;subst h1;subst h2
  show bindC kindOf ((p,w)::P.zip vs) m p=_
  unfold bindC
  rw [zw6 fun v hv=>(Zu.mp nd).1 (XC hv).1,if_neg hk]
  simp
 |p::P,w::vs,i+1,m,nd,h1,h2,hk=>by
  show bindC kindOf ((p,w)::P.zip vs) m x=_
  unfold bindC
  exact zw8 (i:=i) (Zu.mp nd).2 (by simpa using h1) (by simpa using h2) hk
def start(N:List Str)(vs:List V):St:=vs.map some++List.replicate (N.length-vs.length) none
def iW(CX:CXT)(P:Program)(w:World)(K:tz0)(mg:tzA)(base:Heap)(N:List Str)(qual:Str)(scope:Scope)(f:Addr)(cd:Value)(A:Around)(outer:List Env)(s:Shared)(H:Hp)(E:XK):Cx where
 prog:=P
 w:=w
 K:=K
 mg:=mg
 base:=base
 A:=A.deeper (envOfC qual scope s.heap.objs.size f cd)
 N:=N
 s₀:=s
 H₀:=H
 env:=envOfC qual scope s.heap.objs.size f cd
 outer:=outer
 stack:=envOfC qual scope s.heap.objs.size f cd::outer
 ex:=[]
 calm:=true
 fn:=fun _=>true
 pn:=[]
 xe:=fun e s'=>wpAny (model P w) (A.deeper (envOfC qual scope s.heap.objs.size f cd)) (leaving (envOfC qual scope s.heap.objs.size f cd) e) (fun _ s''=>CX outer H s E e s'') (fun e' s''=>CX outer H s E e' s'') s'
theorem yf7{sc:Scope}{n:Nat}{x:Str}(h:sc.names.lookup x=some .cell):∃c,(cellsFrom n sc.names []).lookup x=some c:=by
 have q:=W0 sc.names n [] (.inl h)
 exact Option.isSome_iff_exists.mp q
theorem xd1{CX:CXT}{P:Program}{w:World}{K:tz0}{mg:tzA}{base:Heap}{N ps:List Str}{qual:Str}{scope:Scope}{f:Addr}{cd:Value}{A:Around}{outer:List Env}{s s1:Shared}{H:Hp}{E:XK}{us:List Value}{vs:List V}
  (S:FnScope N ps scope) (hd:A.handled=none) (e0:Env0 P w K mg base A outer s H) (hl:vs.length=ps.length) (r:bW vs us)
  (x:InCallC s s.heap.objs.size (bindL (envOfC qual scope s.heap.objs.size f cd).kindOf (ps.zip us) fun _=>none) (cellsFrom (s.heap.objs.size+1) scope.names []) (bindC (envOfC qual scope s.heap.objs.size f cd).kindOf (ps.zip us) fun _=>none) s1):
  Inv (iW CX P w K mg base N qual scope f cd A outer s H E) [] (start N vs) H s1:=by
 have hpl:ps.length<=N.length:=by have:=ZV List.length S.pre;rw [Yy] at this;omega
 obtain⟨h1,tk,rfl,hk⟩:=x.done
 have noA:∀b:Addr,b∉(iW CX P w K mg base N qual scope f cd A outer s H E).ex:=fun b z=>absurd (show b∈([]:List Addr) from z) (by simp)
 refine⟨⟨e0.mod,S.kind,rfl,rfl,Z7 _,fun y z c h1 h2=> ?_,fun y hy=> ?_,fun y c _ h=> ?_,fun _=>hd,Around.frames_deeper e0.frames,.inr ⟨rfl,rfl⟩,fun b z=>absurd z (noA b),e0.bs,e0.bsz,fun b _ _=>noA b,fun b z=>absurd z (noA b),e0.funs,e0.frf⟩,
  rfl,e0.bare,Un.kept hk,⟨_,x.toInCall.ns,fun i y v h1 h2 h3=> ?_⟩,fun y c h=>⟨_,x.cell y c h⟩,e0.hok.fresh (Z7 _),fun y c h=> ?_,fun p hp=>absurd (show p∈([]:tzB) from hp) (by simp),e0.hok.kept hk,?_⟩
 ·exact name_of_addr x.apart (Yd h1) (Yd h2)
 ·have hy:scope.names.lookup y=some .cell\/scope.names.lookup y=some .free:=hy
  rcases hy with hy|hy
  ·exact yf7 hy
  ·exact absurd rfl (S.nofree _ (Yd hy))
 ·exact YZ (x.above y c (Yd h))
 ·have hi:i<vs.length:=by
   unfold start at h2
   by_cases hi:i<vs.length
   ·exact hi
   ·rw [YJ (by simpa using hi)] at h2
    rw [Yu] at h2
    split at h2<;>cases h2
  have ha:vs[i]? =some v:=by
   unfold start at h2
   rw [ZS (by simpa using hi),Zc] at h2
   cases e:vs[i]? with
   |none=>rw [e] at h2;cases h2
   |some a=>rw [e] at h2;cases h2;rfl
  obtain⟨u,hu,rv⟩:=r.get ha
  have hp:ps[i]? =some y:=by
   rw [<-S.pre,List.getElem?_take_of_lt (by omega)];exact h1
  have ndP:ps.Nodup:=by rw [<-S.pre];exact S.nd.sublist (List.take_sublist _ _)
  refine⟨u,rv,?_⟩
  rcases S.par y (ZG hp) with k|k
  ·exact .inl ⟨k,zw7 ndP hp hu k⟩
  ·obtain⟨c,e⟩:=yf7 (n:=s.heap.objs.size+1) k
   refine .inr ⟨.inl k,c,e,?_⟩
   have q:=x.cell y c e
   rw [zw8 ndP hp hu (by show scope.names.lookup y≠_;rw [k];decide)] at q
   exact q
 ·exact e0.hok.fresh (YZ (x.above y c (Yd h)))
 ·unfold start
  show _=N.length
  rw [Z2,Zd,Xa]
  omega
theorem xx4{CX:CXT}{P:Program}{w:World}{K:tz0}{mg:tzA}{base:Heap}{k:Nat}{f:Addr}{name qual:Str}{params:Arguments}{body:List Stmt}{scope:Scope}{dV kV doc pm cdv ct oc:Value}{an od:Option Addr}
  {osl:Array (Option Value)} {N ps:List Str} {sp:Sp} (lk:K.lookup f=some ⟨oc,od,.func (PySem.W.fnOf name qual params body scope dV kV doc pm an cdv ct),osl⟩) (hcd:PySem.W.codeIn K cdv qual=true) (S:FnScope N ps scope)
  (len:∀vs H Q E,sp vs H Q E->vs.length=ps.length)
  (hbody:∀(A:Around) (outer:List Env) (s:Shared) (H:Hp) (vs:List V) (Q:VK) (E:XK),Room k (A.deeper (envOfC qual scope s.heap.objs.size f cdv))->sp vs H Q E->
   ∃t,PSs (iW CX P w K mg base N qual scope f cdv A outer s H E) body t/\t {nx:=fun _ H'=>Q .non H',rt:=Q} (start N vs) H):
  FnOk P w K mg base CX (k+1) f (PySem.W.fnOf name qual params body scope dV kV doc pm an cdv ct) ps sp:=by
 refine⟨len,fun A outer s H args us vs Q E hr e0 hb r hsp=> ?_⟩
 have hl:=len _ _ _ _ hsp
 have KX:K.In s.heap:=e0.mod.kin.keeps fun b o e=>(e0.bs b o e).1
 have lim:s.heap.NoLimit:=e0.mod.nolimit.keeps fun b o e=>(e0.bs b o e).1
 have hkind:∀y∈ps.zip us,scope.names.lookup y.1=some .local\/(scope.names.lookup y.1=some .cell/\((cellsFrom (s.heap.objs.size+1) scope.names []).lookup y.1).isSome=true):=fun⟨n,v⟩ hy=>by
  rcases S.par n (XC hy).1 with q|q
  ·exact .inl q
  ·exact .inr ⟨q,W0 _ _ _ (.inl q)⟩
 refine codeAny_call_function hr.depth (KX _ _ lk) rfl S.co S.gen rfl (PySem.W.codeRec_of KX hcd) (hb _ _ _ _ ?_)
 refine wpAny_newFunctionEnv_cells S.kind hkind fun env he s1 x=> ?_
 subst he
 refine⟨lim.keeps x.toInCall.keep,codeAny_func ?_⟩
 obtain⟨t,ht,hq⟩:=hbody A outer s H vs Q E (hr.deeper _) hsp
 have I:Inv (iW CX P w K mg base N qual scope f cdv A outer s H E) [] (start N vs) H s1:=xd1 S hr.hd e0 hl r x
 refine ZW (ht [] s1 (start N vs) H _ I hq) (fun fl s' hs=> ?_) fun e s' hs=>hs
 have fin:∀{σ':St} {H':Hp} {v:V} {u:Value},Inv (iW CX P w K mg base N qual scope f cdv A outer s H E) [] σ' H' s'->cV v u->Q v H'->CE outer P w H s Q u s':=
  fun {σ' H' v u} J rv q=>⟨v,H',J.os,J.bare,J.base,J.hok,rv,q⟩
 cases fl with
 |ret u=>
  obtain⟨v,σ',H',J,rv,q⟩:=hs
  exact fin J rv q
 |next=>
  obtain⟨σ',H',J,q⟩:=hs
  exact fin (v:=V.non) (u:=Value.none) J rfl q
 |brk=>
  obtain⟨_,_,_,q⟩:=hs
  exact False.elim q
 |cont=>
  obtain⟨_,_,_,q⟩:=hs
  exact False.elim q
section
variable{X:Cx}{x:Str}{p pos:Pos}{e:Expr}{es:List Expr}{t:TA}{id T:String}{r:List V->Hp->VK->Prop}
def tCB(r:List V->Hp->VK->Prop)(t:TA):TE:=fun σ H Q=>t σ H fun vs H1=>r vs H1 Q
theorem uL(hc:CallR X (.builtin id) r)(hg:Gl X x)(hm:X.mg x=none)(hv:bootBuiltins x=some (.builtin id))(ha:PA X (e::es) t)(hn:x≠"__name__":=by decide)(hdb:NDb x:=by decide)
  (he:StE e es X:=by rfl) (hpl:BkE pos es X:=by rfl):PE X (.Call (.Name x p) (e::es) [] pos) (tCB r t):=⟨by
 intro pins s σ H Q I h
 refine Y6 (wV I hg hm hv ?_ hn hdb)
 exact Xu (thn (ha pos pins s σ H _ I h) fun us s1 ⟨vs,H1,I1,r1,q1⟩=>hc pins s1 σ H1 vs us Q I1 r1 q1) he hpl⟩
theorem xd2(hc:CallR X (.type T) r)(hg:Gl X x)(hm:X.mg x=none)(hv:bootBuiltins x=some (.type T))(ha:PA X (e::es) t)(hn:x≠"__name__":=by decide)(hdb:NDb x:=by decide)
  (he:StE e es X:=by rfl) (hpl:BkE pos es X:=by rfl):PE X (.Call (.Name x p) (e::es) [] pos) (tCB r t):=⟨by
 intro pins s σ H Q I h
 refine Y6 (wV I hg hm hv ?_ hn hdb)
 exact Yi (thn (ha pos pins s σ H _ I h) fun us s1 ⟨vs,H1,I1,r1,q1⟩=>hc pins s1 σ H1 vs us Q I1 r1 q1) he hpl⟩
end
end L2
namespace HT
open PySem PyProof.Rows
def lexLt:List Int->List Int->Bool
 |[],[]=>false
 |[],_::_=>true
 |_::_,[]=>false
 |x::xs,y::ys=>if x=y then lexLt xs ys else decide (x<y)
theorem yv5(x y:Int)(xs ys:List Int):lexLt (x::xs) (y::ys)=if x=y then lexLt xs ys else decide (x<y):=rfl
theorem yb7:lexLt [] []=false:=rfl
theorem zr7(y:Int)(ys:List Int):lexLt [] (y::ys)=true:=rfl
theorem zr8(x:Int)(xs:List Int):lexLt (x::xs) []=false:=rfl
theorem xp1(A:Around)(s:Shared)(a:Int)(t:Tok)(c:Int)(u:Tok):∃e,SeqAt.EqAt A s (.int a t) (.int c u) e/\(e=true↔a=c):=
 ⟨(a==c),SeqAt.EqAt.int_int a t c u,by simp⟩
theorem xp2(A:Around)(s:Shared)(a:Int)(t:Tok)(c:Int)(u:Tok)(prog:Program)(w:World)(E:Value->Shared->Prop)(Q:Value->Shared->Prop)(h:Q (.bool (decide (a<c))) s):
  wpAny (model prog w) A (richCompare .Lt (.int a t) (.int c u)) Q E s:=
 (PyProof.Rows.lt_int h:wpAny (model prog w) A (compareOp .Lt (.int a t) (.int c u)) Q E s)
section
open PySem.SeqAt
open PySem.AutoSeq1 (wpAny_loadPart')
open PySem.MeetsSeq PySem.MeetsSeq2 PySem.MeetsSeq3
theorem yb8(l b:Addr)(items items2:Array Value)(n n2:Nat)(dd dd2:Option Addr)(sl sl2:Array (Option Value))(ns ms:List Int)(hi:IntsAre items.toList ns)(hj:IntsAre items2.toList ms):
  Meets (Builtin.«tuple.__lt__» ⟨[.ref l,.ref b],[]⟩)
   (fun _ R s=>s.heap.get? l=some {cls:= .type "tuple",dict:=dd,data:= .seq items n,slots:=sl}/\s.heap.get? b=some {cls:= .type "tuple",dict:=dd2,data:= .seq items2 n2,slots:=sl2}/\
    R (.ok (.ret (.bool (lexLt ns ms)))) s):=
 .of_wp fun prog w A R s h=>by
  obtain⟨hp,g,d,tk,os⟩:=s;obtain⟨hl,hb,h⟩:=h
  have f2:=Wp
  have z1:items.size=ns.length:=by rw [<-hi.length];simp
  have z2:items2.size=ms.length:=by rw [<-hj.length];simp
  wp_walk using Yk hl,Yk hb,wpAny_forIn_list _ (fun rest b s'=>b.1=none/\s'=⟨hp,g,d,tk,os⟩/\∃(vs ws:List Value) (ns' ms':List Int),rest=vs.zip ws/\
   IntsAre vs ns'/\IntsAre ws ms'/\ns'.length+items2.size=ms'.length+items.size/\R (.ok (.ret (.bool (lexLt ns' ms')))) ⟨hp,g,d,tk,os⟩) _
  case turn=>
   rintro⟨y,x⟩ rest b s' ⟨hb',rfl,vs,ws,ns',ms',hz,hvi,hwi,hlen,hR⟩
   cases hvi with
   |nil=>rw [Xp] at hz;cases hz
   | cons a t hvi'=>
    cases hwi with
    |nil=>rw [Wq] at hz;cases hz
    | cons c u hwi'=>
     rw [Yg] at hz
     injection hz with hyx hrest
     injection hyx with hy hx
     subst hy hx
     rw [yv5] at hR
     simp only [Z6] at hlen
     obtain⟨e,he,hiff⟩:=xp1 A.in1 ⟨hp,g,d,tk,os⟩ a t c u
     refine Zj (he prog w _ _ ?_)
     cases e with
     |true=>
      rw [if_pos (hiff.mp rfl)] at hR
      wp_walk
      exact⟨rfl,rfl,_,_,_,_,hrest,hvi',hwi',by omega,hR⟩
     |false=>
      rw [if_neg (fun q=>absurd (hiff.mpr q) Z9)] at hR
      have hri:=xp2 A.in1 ⟨hp,g,d,tk,os⟩ a t c u prog w
      wp_walk using hri
      exact⟨_,rfl,by simpa using hR⟩
  case fin=>
   rintro⟨b1,b2⟩ s' ⟨hb',rfl,vs,ws,ns',ms',hz,hvi,hwi,hlen,hR⟩
   simp only at hb'
   subst hb'
   have hv:lexLt ns' ms'=decide (items.size<items2.size):=by
    cases hvi with
    | nil=>
     cases hwi with
     |nil=>
      simp only [ZX] at hlen
      rw [yb7]
      exact(Za (by omega)).symm
     |cons c u hw=>
      simp only [ZX,Z6] at hlen
      rw [zr7]
      exact(Zk (by omega)).symm
    | cons a t hv=>
     cases hwi with
     |nil=>
      simp only [ZX,Z6] at hlen
      rw [zr8]
      exact(Za (by omega)).symm
     |cons c u hw=>
      rw [Yg] at hz
      cases hz
   rw [hv] at hR
   wp_walk
   exact⟨_,rfl,by simpa [Builtin.Tuple.tupleCompareSizes] using hR⟩
  case h=>
   exact⟨rfl,rfl,items.toList,items2.toList,ns,ms,rfl,hi,hj,by omega,h⟩
end
section
variable{prog:Program}{w:World}{A:Around}{E:Value->Shared->Prop}{s:Shared}
theorem lt_tupInts{l b:Addr}{items items2:Array Value}{ns ms:List Int}{Q:Value->Shared->Prop}(hl:IsTup s.heap l items)(hb:IsTup s.heap b items2)(hi:IntsAre items.toList ns)(hj:IntsAre items2.toList ms)
  (hu:A.units<cLine) (h:Q (.bool (lexLt ns ms)) s):wpAny (model prog w) A (compareOp .Lt (.ref l) (.ref b)) Q E s:=by
 obtain⟨⟨cls,dd,data,sl⟩,ho,hc,n,hd⟩:=id hl
 obtain⟨⟨cls2,dd2,data2,sl2⟩,ho2,hc2,n2,hd2⟩:=id hb
 simp only at hc hd hc2 hd2
 subst hc hd hc2 hd2
 exact richCompare_meets_room (op:= .Lt) ⟨_,ho,rfl⟩ ⟨_,ho2,rfl⟩ Wb W1 (XV _ _) (yb8 l b items items2 n n2 dd dd2 sl sl2 ns ms hi hj)
  ⟨ho,ho2,show Value.bool (lexLt ns ms)≠Value.notImplemented/\Q (.bool (lexLt ns ms)) s from⟨(fun x=>nomatch x),h⟩⟩ hu
theorem cat_tup{t b:Addr}{vs ws:List Value}{Q:Value->Shared->Prop}(ht:IsTup s.heap t vs.toArray)(hb:IsTup s.heap b ws.toArray)(hv:vs≠[])
  (h1:ws=[]->Q (.ref t) s) (h2:ws≠[]->Q (.ref s.heap.objs.size) {s with heap:=s.heap.push {cls:= .type "tuple",data:= .seq (vs++ws).toArray}})
  (hsz:vs.length+ws.length<=sizeLine):wpAny (model prog w) A (binaryOp .Add (.ref t) (.ref b)) Q E s:=by
 obtain⟨⟨cls,dd,data,sl⟩,ho,hc,n,hd⟩:=id ht
 obtain⟨⟨cls2,dd2,data2,sl2⟩,ho2,hc2,n2,hd2⟩:=id hb
 simp only at hc hd hc2 hd2
 subst hc hd hc2 hd2
 have e:vs.toArray++ws.toArray=(vs++ws).toArray:=by simp
 by_cases hw:ws=[]
 ·exact concat_meets ⟨_,ho,rfl⟩ ⟨_,ho2,rfl⟩ XN Ws X0 YU (YN _ _)
   (tuple_addW1 t b vs.toArray ws.toArray n n2 dd dd2 sl sl2 (by simpa using hv) (by simp [hw])) ⟨ho,ho2,h1 hw⟩
 ·refine concat_meets ⟨_,ho,rfl⟩ ⟨_,ho2,rfl⟩ XN Ws X0 YU (YN _ _)
   (tuple_addW2 t b vs.toArray ws.toArray n n2 dd dd2 sl sl2 (by simpa using hv) (by simpa using hw) (by rw [Zl,Zl];exact hsz)) ⟨ho,ho2,?_⟩
  rw [e]
  exact h2 hw
def sIx(n d:Nat):Option Int->Nat
 |none=>d
 |some v=>if v<0 then(v+(n:Int)).toNat else min v.toNat n
theorem sIx_none(n d:Nat):sIx n d none=d:=rfl
theorem sIx_nat(n d k:Nat):sIx n d (some (k:Int))=min k n:=by
 show(if (k:Int)<0 then((k:Int)+(n:Int)).toNat else min (k:Int).toNat n)=min k n
 rw [if_neg (by omega),YM]
end
end HT
namespace L2
open PySem PySem.Spec PyProof.Rows
abbrev TO:=St->Hp->(Option Int->Hp->Prop)->Prop
def POd(X:Cx)(e:Option Expr)(t:TO):Prop:=
 ∀(pins:tzB) (s:Shared) (σ:St) (H:Hp) (Q:Option Int->Hp->Prop),Inv X pins σ H s->t σ H Q->
  wpAny (model X.prog X.w) X.A (evalPart e X.env) (fun u s'=>∃o H',Inv X pins σ H' s'/\IsPart u o/\Q o H') X.xe s
structure PO(X:Cx)(e:Option Expr)(t:TO):Prop where
 go:POd X e t
instance {X:Cx} {e:Option Expr} {t:TO}:CoeFun (PO X e t) fun _=>POd X e t:=⟨PO.go⟩
def wf3:TO:=fun _ H Q=>Q none H
def ws4(t:TE):TO:=fun σ H Q=>t σ H fun x H1=>∃i,x= .int i/\Q (some i) H1
section
variable{X:Cx}{e:Expr}{te:TE}{lo hi:Option Expr}{tl th:TO}{pos p2:Pos}
theorem xz9:PO X none wf3:=⟨by
 intro pins s σ H Q I h
 rw [evalPart_none]
 exact ZI ⟨none,H,I,.none,h⟩⟩
theorem wa0(h:PE X e te):PO X (some e) (ws4 te):=⟨by
 intro pins s σ H Q I hw
 rw [evalPart_some]
 refine thn (h pins s σ H _ I hw) fun u s1 ⟨x,H1,I1,r1,q1⟩=> ?_
 obtain⟨i,rfl,q⟩:=q1
 obtain⟨t,rfl⟩:=r1
 exact⟨some i,H1,I1,.int i t,q⟩⟩
def SlR(X:Cx)(r:V->Option Int->Option Int->Hp->VK->Prop):Prop:=
 ∀(pins:tzB) (s:Shared) (σ:St) (H:Hp) (x:V) (v vl vu:Value) (lo hi:Option Int) (sl:Addr) (Q:VK),Inv X pins σ H s->cV x v->s.heap.IsSliceOf sl vl vu .none->IsPart vl lo->IsPart vu hi->r x lo hi H Q->
  ∃T id,typeLookup (.type T) "__getitem__"=pure (some (.builtin id))/\s.TypeIs v T/\wpAny (model X.prog X.w) X.A (getItem v (.ref sl)) (EP X pins σ Q) X.xe s
def tSl(r:V->Option Int->Option Int->Hp->VK->Prop)(te:TE)(tl th:TO):TE:=fun σ H Q=>te σ H fun x H1=>tl σ H1 fun l H2=>th σ H2 fun u H3=>r x l u H3 Q
theorem xp3{r:V->Option Int->Option Int->Hp->VK->Prop}(hr:SlR X r)(he:PE X e te)(hl:PO X lo tl)(hu:PO X hi th):PE X (.Subscript e (.Slice lo hi none p2) pos) (tSl r te tl th):=⟨by
 intro pins s σ H Q I h
 refine Subscript_ (thn (he pins s σ H _ I h) fun v s1 ⟨x,H1,I1,r1,q1⟩=> ?_)
 refine wpAny_Slice (thn (hl pins s1 σ H1 _ I1 q1) fun vl s2 ⟨l,H2,I2,pl,q2⟩=>thn (hu pins s2 σ H2 _ I2 q2) fun vu s3 ⟨u,H3,I3,pu,q3⟩=> ?_)
 rw [evalPart_none]
 refine ZI ?_
 have I4:Inv X pins σ H3 {s3 with heap:=s3.heap.push {cls:= .type "slice",data:= .fields #[vl,vu,.none]}}:=I3.kept (t':=s3.toks) fun b ob q=>Zf _ q
 obtain⟨T,id,hT,ht,hg⟩:=hr pins {s3 with heap:=s3.heap.push {cls:= .type "slice",data:= .fields #[vl,vu,.none]}} σ H3 x v vl vu l u s3.heap.objs.size Q I4 r1 (Heap.IsSliceOf.new ..) pl pu q3
 show wpAny (model X.prog X.w) X.A (subscriptTail e (.Slice lo hi none p2) v (.ref s3.heap.objs.size)) (EP X pins σ Q) X.xe {s3 with heap:=s3.heap.push {cls:= .type "slice",data:= .fields #[vl,vu,.none]}}
 exact tail_any (ops:=[.ref s3.heap.objs.size,v]) ht hT hg (by with_unfolding_all rfl)⟩
def zv5(xs:List V)(lo hi:Option Int):List V:=(xs.drop (HT.sIx xs.length 0 lo)).take (HT.sIx xs.length xs.length hi-HT.sIx xs.length 0 lo)
theorem yo0(xs:List V)(lo hi:Option Int):(zv5 xs lo hi).length<=xs.length:=by
 unfold zv5
 rw [Yy,Xv]
 omega
def ws5(K:tz0):R2:=fun x y H Q=>∃a b xs ys,x= .ref a/\y= .ref b/\SqT K H a xs/\SqT K H b ys/\xs≠[]/\xs.length+ys.length<=sizeLine/\
 (ys=[]->Q (.ref a) H)/\(ys≠[]->∀p,H p=none->Q (.ref p) (upd H p (.tup (xs++ys))))
theorem bW.nil_iff{xs:List V}{us:List Value}(r:bW xs us):us=[]↔xs=[]:=by
 cases r with
 |nil=>simp
 |cons _ _=>simp
theorem wa1:OpR X (binaryOp .Add) (ws5 X.K):=⟨by
 intro pins s σ H x y v u Q I rx ry h
 obtain⟨a,b,xs,ys,rfl,rfl,ha,hb,hx,hz,q1,q2⟩:=h
 cases rx
 cases ry
 obtain⟨its,r1,p1,_⟩:=I.tuple ha
 obtain⟨its2,r2,p2,_⟩:=I.tuple hb
 refine HT.cat_tup p1 p2 (fun z=>hx (r1.nil_iff.mp z)) (fun z=>⟨.ref a,H,I,rfl,q1 (r2.nil_iff.mp z)⟩) (fun z=> ?_) (by rw [<-r1.length,<-r2.length];exact hz)
 refine⟨.ref s.heap.objs.size,_,I.laid (t':=s.toks) (o:= .tup (xs++ys)) (fun b ob q=>Zf _ q) (Z7 _) ?_,rfl,q2 (fun w=>z (r2.nil_iff.mpr w)) _ (I.hok.fresh (Z7 _))⟩
 exact⟨by rw [Z2];exact hz,_,r1.append r2,IsTup.new _ _⟩⟩
end
def ixN(n:Nat)(i:Int):Option Nat:=if 0<=i then(if i<n then some i.toNat else none) else if-(n:Int)<=i then some (i+n).toNat else none
def atI{α:Type}(xs:List α)(i:Int):Option α:=(ixN xs.length i).bind fun j=>xs[j]?
theorem zf4{n:Nat}{i:Int}{j:Nat}(h:ixN n i=some j):seqIndex? i n=some j/\j<n/\ -(n:Int)<=i/\i<n:=by
 unfold ixN at h
 by_cases h0:0<=i
 ·rw [if_pos h0] at h
  by_cases h1:i<n
  ·rw [if_pos h1] at h
   have e:i.toNat=j:=ZD h
   exact⟨by rw [seqIndex_of h0 h1,e],by omega,by omega,h1⟩
  ·rw [if_neg h1] at h;cases h
 ·rw [if_neg h0] at h
  by_cases h1: -(n:Int)<=i
  ·rw [if_pos h1] at h
   have e:(i+n).toNat=j:=ZD h
   exact⟨by rw [seqIndex_neg (by omega) h1,e],by omega,h1,by omega⟩
  ·rw [if_neg h1] at h;cases h
theorem jY{α:Type}{xs:List α}{i:Int}{v:α}(h:atI xs i=some v):∃j,seqIndex? i xs.length=some j/\xs[j]? =some v/\j<xs.length/\ -(xs.length:Int)<=i/\i<xs.length:=by
 unfold atI at h
 cases e:ixN xs.length i with
 |none=>rw [e] at h;cases h
 |some j=>
  rw [e] at h
  obtain⟨h1,h2,h3,h4⟩:=zf4 e
  exact⟨j,h1,h,h2,h3,h4⟩
theorem zr9{α:Type}{xs:List α}{j:Nat}{v:α}(h:xs[j]? =some v):atI xs (j:Int)=some v:=by
 have hj:j<xs.length:=(Z8.mp h).1
 have e:ixN xs.length (j:Int)=some j:=by
  unfold ixN
  rw [if_pos (by omega),if_pos (by omega)];simp
 unfold atI;rw [e];exact h
theorem fD{α:Type}(xs:List α)(v:α):atI (xs++[v]) (-1)=some v:=by
 have hl:(xs++[v]).length=xs.length+1:=by simp
 have e:ixN (xs++[v]).length (-1)=some xs.length:=by
  unfold ixN
  rw [hl,if_neg (by decide),if_pos (by omega)]
  congr 1
  omega
 unfold atI
 rw [e]
 show(xs++[v])[xs.length]? =some v
 simp
def zh1(b:Expr):Prop:=∀o i,subscripted b false o i=operate [o,i] (getItem o i)
def IxR(X:Cx)(r:R2):Prop:=
 ∀(value slice:Expr) (pins:tzB) (s:Shared) (σ:St) (H:Hp) (x y:V) (v u:Value) (Q:VK),Inv X pins σ H s->cV x v->cV y u->r x y H Q->
  subscripted slice false v u=operate [v,u] (getItem v u)->wpAny (model X.prog X.w) X.A (subscriptTail value slice v u) (EP X pins σ Q) X.xe s
def wn2(X:Cx)(id:String)(r:V->List V->Hp->VK->Prop):Prop:=
 ∀(pins:tzB) (s:Shared) (σ:St) (H:Hp) (x:V) (xs:List V) (v:Value) (us:List Value) (Q:VK),Inv X pins σ H s->cV x v->bW xs us->r x xs H Q->
  wpAny (model X.prog X.w) X.A (call (.builtin id) (v::us)) (EP X pins σ Q) X.xe s
structure MtR(X:Cx)(id:String)(r:V->List V->Hp->VK->Prop):Prop where
 go:wn2 X id r
instance {X:Cx} {id:String} {r:V->List V->Hp->VK->Prop}:CoeFun (MtR X id r) fun _=>wn2 X id r:=⟨MtR.go⟩
section
variable{X:Cx}{a b:Expr}{ta tb:TE}{pos:Pos}
theorem IxR.or{r r':R2}(h:IxR X r)(h':IxR X r'):IxR X (fun x y H Q=>r x y H Q\/r' x y H Q):=by
 intro value slice pins s σ H x y v u Q I rx ry q hs
 rcases q with q|q
 ·exact h value slice pins s σ H x y v u Q I rx ry q hs
 ·exact h' value slice pins s σ H x y v u Q I rx ry q hs
theorem yc8{r:R2}(hr:IxR X r)(ha:PE X a ta)(hb:PE X b tb)(hs:zh1 b):PE X (.Subscript a b pos) (tOp r ta tb):=⟨by
 intro pins s σ H Q I h
 exact Subscript_ (xo4 ha hb I h fun v u s2 x y H2 I2 rx ry q=>hr a b pins s2 σ H2 x y v u Q I2 rx ry q (hs _ _))⟩
def wn3(K:tz0):R2:=fun x y H Q=>∃p xs i v,x= .ref p/\y= .int i/\SqL K H p xs/\atI xs i=some v/\Q v H
def wn4(K:tz0):R2:=fun x y H Q=>∃p xs i v,x= .ref p/\y= .int i/\SqT K H p xs/\atI xs i=some v/\Q v H
def wn5:R2:=fun x y H Q=>∃z i c,x= .str z/\y= .int i/\z.length<=sizeLine/\atI z.cps.toList i=some c/\Q (.str ⟨#[c]⟩) H
theorem zs0:IxR X (wn3 X.K):=by
 intro value slice pins s σ H x y v u Q I rx ry h hs
 obtain⟨p,xs,i,z,rfl,rfl,hq,he,q⟩:=h
 cases rx
 obtain⟨t,rfl⟩:=ry
 obtain⟨its,r,pl,hz⟩:=I.list hq
 obtain⟨j,h1,h2,h3,h4,h5⟩:=jY he
 obtain⟨w,ew,rw'⟩:=r.get h2
 have hl:=r.length
 have hn:=uK
 have fin:EP X pins σ Q w s:=⟨z,H,I,rw',q⟩
 by_cases h0:0<=i
 ·have hj:i.toNat=j:=by
   rw [seqIndex_of h0 h5] at h1
   exact ZD h1
  exact item_listR pl.isList h0 (by omega) (by rw [hj];simpa using ew) fin hs
 ·have hj:(i+(its.toArray.size:Int)).toNat=j:=by
   rw [seqIndex_neg (by omega) h4] at h1
   rw [Zl,<-hl]
   exact ZD h1
  exact subscriptTail_builtinR (x:=w) pl.isList.typeIs slot_list_getitem.lookup
   (wpAny_getItem_list_neg (Q:=fun r s'=>r=w/\EP X pins σ Q r s') pl.isList (by omega) (by rw [Zl]<;>omega) (by omega) (by rw [hj];simpa using ew) ⟨rfl,fin⟩) hs
theorem wh8:IxR X (wn4 X.K):=by
 intro value slice pins s σ H x y v u Q I rx ry h hs
 obtain⟨p,xs,i,z,rfl,rfl,hq,he,q⟩:=h
 cases rx
 obtain⟨t,rfl⟩:=ry
 obtain⟨its,r,pl,hz⟩:=I.tuple hq
 obtain⟨j,h1,h2,h3,h4,h5⟩:=jY he
 obtain⟨w,ew,rw'⟩:=r.get h2
 have hl:=r.length
 have hn:=uK
 have fin:EP X pins σ Q w s:=⟨z,H,I,rw',q⟩
 exact subscriptTail_builtinR (x:=w) pl.typeIs slot_tuple_getitem.lookup
  (getItem_tuple (j:=j) (Q:=fun r s'=>r=w/\EP X pins σ Q r s') pl (by omega) (by omega) (by rw [Zl,<-hl];exact h1) (by simpa using ew) ⟨rfl,fin⟩) hs
theorem wh9:IxR X wn5:=by
 intro value slice pins s σ H x y v u Q I rx ry h hs
 obtain⟨z,i,c,rfl,rfl,hz,he,q⟩:=h
 obtain⟨t,rfl⟩:=rx
 obtain⟨t',rfl⟩:=ry
 obtain⟨j,h1,h2,h3,h4,h5⟩:=jY he
 have hl:z.cps.toList.length=z.length:=by simp [Str.length]
 rw [hl] at h1 h4 h5
 have hn:=uK
 exact tail_any (XD s z t) slot_str_getitem.lookup (getItem_str (c:=c) (by
  have e1:decide (i< -(2^63:Int))=false:=Za (by omega)
  have e2:decide (i>=2^63)=false:=Za (by omega)
  rw [e1,e2,Bool.or_false]) (by rw [h1];simpa using h2) ⟨.str ⟨#[c]⟩,H,I.tok _,⟨_,rfl⟩,q⟩) hs
def rIx(K:tz0):R2:=fun x y H Q=>wn3 K x y H Q\/wn4 K x y H Q\/wn5 x y H Q
theorem xd3:IxR X (rIx X.K):=zs0.or (wh8.or wh9)
theorem yv6(its:List Value)(n j:Nat)(u:Value):Obj.mapSeq (·.setIfInBounds j u) {cls:= .type "list",data:= .seq its.toArray n}={cls:= .type "list",data:= .seq (its.set j u).toArray n}:=by
 simp [Obj.mapSeq]
theorem Inv.lst{pins:tzB}{σ:St}{H:Hp}{s:Shared}{p:Addr}{xs:List V}(I:Inv X pins σ H s)(h:H p=some (.lst xs)):
  ∃(its:List Value) (n:Nat),bW xs its/\s.heap.get? p=some {cls:= .type "list",data:= .seq its.toArray n}/\xs.length<=sizeLine:=by
 obtain⟨z,its,n,r,e⟩:=I.hok p _ h
 exact⟨its,n,r,e,z⟩
theorem Inv.lstUpd{pins:tzB}{σ:St}{H:Hp}{s:Shared}{p:Addr}{xs ys:List V}{its its':List Value}{n n':Nat}{f:Obj->Obj}(I:Inv X pins σ H s)(h:H p=some (.lst xs))
  (ho:s.heap.get? p=some {cls:= .type "list",data:= .seq its.toArray n}) (hf:f {cls:= .type "list",data:= .seq its.toArray n}={cls:= .type "list",data:= .seq its'.toArray n'}) (r:bW ys its') (hz:ys.length<=sizeLine) (t:Nat):
  Inv X pins σ (upd H p (.lst ys)) {s with heap:=s.heap.update p f,toks:=t}:=by
 have e:(s.heap.update p f).get? p=some {cls:= .type "list",data:= .seq its'.toArray n'}:=by
  rw [Xo f ho (by rw [hf]<;>rfl),hf]
 refine I.write (x:=p) (e:=p) (by rw [h];trivial) (.inl rfl) (fun b u hb q=>(Y4 _ _ (Y8 hb)).trans q) ⟨_,e⟩ ?_
 exact⟨hz,its',n',r,e⟩
def ws6:V->V->V->Hp->(Hp->Prop)->Prop:=fun o i v H Q=>∃p xs k j,o= .ref p/\i= .int k/\H p=some (.lst xs)/\ixN xs.length k=some j/\Q (upd H p (.lst (xs.set j v)))
theorem xp4:wm6 X ws6:=by
 intro pins s σ H o i v ov iv u Q I ro ri rv h
 obtain⟨p,xs,k,j,rfl,rfl,hp,hj,q⟩:=h
 cases ro
 obtain⟨t,rfl⟩:=ri
 obtain⟨its,n,r,ho,hz⟩:=I.lst hp
 obtain⟨h1,h2,h3,h4⟩:=zf4 hj
 have hl:=r.length
 have hn:=uK
 have I':Inv X pins σ (upd H p (.lst (xs.set j v))) {s with heap:=s.heap.update p (Obj.mapSeq (·.setIfInBounds j u))}:=
  I.lstUpd hp ho (yv6 its n j u) (r.set rv j) (by rw [List.length_set];exact hz) s.toks
 by_cases h0:0<=k
 ·have hk:k.toNat=j:=by
   rw [seqIndex_of h0 h4] at h1
   exact ZD h1
  exact PySem.W.ki_setAt ho h0 (by omega) (by rw [Zl,<-hl];exact h4) (by rw [hk];exact⟨_,I',q⟩)
 ·have hk:(k+(its.toArray.size:Int)).toNat=j:=by
   rw [seqIndex_neg (by omega) h3] at h1
   rw [Zl,<-hl]
   exact ZD h1
  exact PySem.W.ki_setBack ho (by omega) (by rw [Zl,<-hl];exact h3) (by omega) (by rw [hk];exact⟨_,I',q⟩)
theorem yf8(lo hi:Option Int)(n:Nat):(sliceBounds lo hi none n).1=((HT.sIx n 0 lo:Nat):Int)/\(sliceBounds lo hi none n).2.1=((HT.sIx n n hi:Nat):Int)/\(sliceBounds lo hi none n).2.2=1:=by
 refine⟨?_,?_,rfl⟩
 ·cases lo with
  |none=>simp [sliceBounds,HT.sIx]
  |some i=>
   simp only [sliceBounds,HT.sIx,Option.getD_none,show(1:Int)>0 by decide,Y2]
   by_cases h:i<0
   ·simp only [h,Y2]<;>omega
   ·simp only [h,Ym]<;>omega
 ·cases hi with
  |none=>simp [sliceBounds,HT.sIx]
  |some i=>
   simp only [sliceBounds,HT.sIx,Option.getD_none,show(1:Int)>0 by decide,Y2]
   by_cases h:i<0
   ·simp only [h,Y2]<;>omega
   ·simp only [h,Ym]<;>omega
theorem yb9(its:List Value)(lo hi:Option Int):slicePick its.toArray lo hi none=((its.drop (HT.sIx its.length 0 lo)).take (HT.sIx its.length its.length hi-HT.sIx its.length 0 lo)).toArray:=by
 obtain⟨h1,h2,h3⟩:=yf8 lo hi its.toArray.size
 unfold slicePick
 rw [h1,h2,h3]
 simp only [sliceRange_one,pick_run,Zl]<;>rfl
def wv8(K:tz0):V->Option Int->Option Int->Hp->VK->Prop:=fun x lo hi H Q=>∃a xs,x= .ref a/\SqL K H a xs/\∀p,H p=none->Q (.ref p) (upd H p (.lst (zv5 xs lo hi)))
theorem wa2:SlR X (wv8 X.K):=by
 intro pins s σ H x v vl vu lo hi sl Q I rx hs pl pu h
 obtain⟨a,xs,rfl,hx,q⟩:=h
 cases rx
 obtain⟨its,r,ht,hz⟩:=I.list hx
 have hlen:=r.length
 refine⟨"list",_,slot_list_getitem.lookup,ht.isList.typeIs,?_⟩
 refine wpAny_getItem_list_slice ht.isList hs pl pu .none (by simp) ?_ (by rw [Zl]<;>omega)
 rw [yb9,<-hlen]
 refine⟨.ref s.heap.objs.size,_,I.laid (t':=s.toks) (o:= .lst (zv5 xs lo hi)) (fun b ob q=>Zf _ q) (Z7 _) ?_,rfl,q _ (I.hok.fresh (Z7 _))⟩
 exact⟨Zr (yo0 xs lo hi) hz,_,0,(r.drop (HT.sIx xs.length 0 lo)).take (HT.sIx xs.length xs.length hi-HT.sIx xs.length 0 lo),Zw _ rfl⟩
def lT:V->Bool
 | .non=>true
 | .bl _=>true
 | .int _=>true
 | .str _=>true
 |_=>false
def eqV:V->V->Bool
 | .non,.non=>true
 | .bl a,.bl b=>a==b
 | .bl a,.int b=>(if a then 1 else 0)==b
 | .int a,.bl b=>a==(if b then 1 else 0)
 | .int a,.int b=>a==b
 | .str a,.str b=>a==b
 |_,_=>false
theorem wi0{A:Around}{s:Shared}{y x:V}{u v:Value}(ry:cV y u)(rx:cV x v)(fy:lT y=true)(fx:lT x=true):SeqAt.EqAt A s u v (eqV y x):=by
 cases y with
 |non=>
  cases ry
  cases x with
  |non=>cases rx;exact SeqAt.EqAt.same _
  |bl b=>cases rx;exact SeqAt.EqAt.none_bool b
  |int b=>obtain⟨t,rfl⟩:=rx;exact SeqAt.EqAt.none_int b t
  |str b=>obtain⟨t,rfl⟩:=rx;exact SeqAt.EqAt.none_str b t
  |_=>exact absurd (show false=true from fx) Z9
 |bl a=>
  cases ry
  cases x with
  |non=>cases rx;exact SeqAt.EqAt.bool_none a
  |bl b=>cases rx;exact SeqAt.EqAt.bool_bool a b
  |int b=>obtain⟨t,rfl⟩:=rx;exact SeqAt.EqAt.bool_int a b t
  |str b=>obtain⟨t,rfl⟩:=rx;exact SeqAt.EqAt.bool_str a b t
  |_=>exact absurd (show false=true from fx) Z9
 |int a=>
  obtain⟨t',rfl⟩:=ry
  cases x with
  |non=>cases rx;exact SeqAt.EqAt.int_none a t'
  |bl b=>cases rx;exact SeqAt.EqAt.int_bool a t' b
  |int b=>obtain⟨t,rfl⟩:=rx;exact SeqAt.EqAt.int_int a t' b t
  |str b=>obtain⟨t,rfl⟩:=rx;exact SeqAt.EqAt.int_str a t' b t
  |_=>exact absurd (show false=true from fx) Z9
 |str a=>
  obtain⟨t',rfl⟩:=ry
  cases x with
  |non=>cases rx;exact SeqAt.EqAt.str_none a t'
  |bl b=>cases rx;exact SeqAt.EqAt.str_bool a t' b
  |int b=>obtain⟨t,rfl⟩:=rx;exact SeqAt.EqAt.str_int a t' b t
  |str b=>obtain⟨t,rfl⟩:=rx;exact SeqAt.EqAt.str_str a t' b t
  |_=>exact absurd (show false=true from fx) Z9
 |_=>exact absurd (show false=true from fy) Z9
def eqU(x:V)(u:Value):Bool:=match u with
 | .none=>eqV .non x
 | .bool b=>eqV (.bl b) x
 | .int i _=>eqV (.int i) x
 | .str z _=>eqV (.str z) x
 |_=>false
theorem xd4{x y:V}{u:Value}(r:cV y u)(f:lT y=true):eqU x u=eqV y x:=by
 cases y with
 |non=>cases r;rfl
 |bl b=>cases r;rfl
 |int i=>obtain⟨t,rfl⟩:=r;rfl
 |str z=>obtain⟨t,rfl⟩:=r;rfl
 |_=>exact absurd (show false=true from f) Z9
theorem zs1{x:V}:∀{xs:List V} {us:List Value},bW xs us->xs.all lT=true->us.any (eqU x)=xs.any fun y=>eqV y x
 |_,_,.nil,_=>rfl
 |y::xs,u::us,.cons r t,f=>by
  rw [XO,Zx] at f
  rw [YO,YO,xd4 r f.1,zs1 t f.2]
theorem zj0{A:Around}{s:Shared}{x:V}{v:Value}(rx:cV x v)(fx:lT x=true):∀{xs:List V} {us:List Value},bW xs us->xs.all lT=true->∀u∈us,SeqAt.EqAt A s u v (eqU x u)
 |_,_,.nil,_=>fun u hu=>by cases hu
 |y::xs,u::us,.cons r t,f=>fun u' hu=>by
  rw [XO,Zx] at f
  rcases Z5.mp hu with rfl|hu
  ·rw [xd4 r f.1];exact wi0 r rx f.1 fx
  ·exact zj0 rx fx t f.2 u' hu
def inV(x:V)(xs:List V):Bool:=xs.any fun y=>eqV y x
def rIn(K:tz0)(neg:Bool):R2:=fun x y H Q=>∃p xs,y= .ref p/\(SqL K H p xs\/SqT K H p xs)/\lT x=true/\xs.all lT=true/\Q (.bl (if neg then !inV x xs else inV x xs)) H
theorem xd5:OpR X (compareOp .In) (rIn X.K false):=⟨by
 intro pins s σ H x y v u Q I rx ry h
 obtain⟨p,xs,rfl,hq,fx,fs,q⟩:=h
 cases ry
 rcases hq with hq|hq
 ·obtain⟨its,r,pl,hz⟩:=I.list hq
  refine SeqAt.in_listAt (eqU x) pl.isList (fun w hw=>zj0 rx fx r fs w (by simpa using hw)) ⟨.bl _,H,I,rfl,?_⟩
  rw [show its.toArray.any (eqU x)=its.any (eqU x) by simp,zs1 r fs]
  exact q
 ·obtain⟨its,r,pl,hz⟩:=I.tuple hq
  refine SeqAt.in_tupleAt (eqU x) pl (fun w hw=>zj0 rx fx r fs w (by simpa using hw)) ⟨.bl _,H,I,rfl,?_⟩
  rw [show its.toArray.any (eqU x)=its.any (eqU x) by simp,zs1 r fs]
  exact q⟩
theorem jZ:CallR X (.builtin "len") (fun xs H Q=>∃p ys,xs=[.ref p]/\(SqL X.K H p ys\/SqT X.K H p ys)/\Q (.int ys.length) H):=⟨by
 intro pins s σ H xs us Q I r h
 obtain⟨p,ys,rfl,hq,q⟩:=h
 obtain⟨u,rfl,rx⟩:=oG r
 cases rx
 have hn:=uK
 rcases hq with hq|hq
 ·obtain⟨its,r',pl,hz⟩:=I.list hq
  have hlen:=r'.length
  exact Calls.call_len_list pl.isList (by simp only [Zl]<;>omega) ⟨.int ys.length,H,I.tok _,⟨s.toks+1,by rw [Zl,hlen]⟩,q⟩
 ·obtain⟨its,r',pl,hz⟩:=I.tuple hq
  have hlen:=r'.length
  exact len_tuple pl (by simp only [Zl]<;>omega) ⟨.int ys.length,H,I.tok _,⟨s.toks+1,by rw [Zl,hlen]⟩,q⟩⟩
theorem yf9:CallR X (.builtin "len") (fun xs H Q=>∃z,xs=[.str z]/\z.length<=sizeLine/\Q (.int z.length) H):=⟨by
 intro pins s σ H xs us Q I r h
 obtain⟨z,rfl,hz,q⟩:=h
 obtain⟨u,rfl,t,rfl⟩:=oG r
 have hn:=uK
 exact len_str (by omega) ⟨.int z.length,H,I.tok _,⟨_,rfl⟩,q⟩⟩
theorem zU:CallR X (.type "tuple") (fun xs H Q=>∃p ys,xs=[.ref p]/\((SqL X.K H p ys/\∀l,H l=none->Q (.ref l) (upd H l (.tup ys)))\/(SqT X.K H p ys/\Q (.ref p) H))):=⟨by
 intro pins s σ H xs us Q I r h
 obtain⟨p,ys,rfl,h⟩:=h
 obtain⟨u,rfl,rx⟩:=oG r
 cases rx
 rcases h with ⟨hq,q⟩|⟨hq,q⟩
 ·obtain⟨its,r',pl,hz⟩:=I.list hq
  have hlen:=r'.length
  refine call_tuple_list pl.isList (fun h' kp=> ?_) (by simp only [Zl]<;>omega)
  have I1:Inv X pins σ H {s with heap:=h'}:=I.kept (t':=s.toks) kp
  have I2:Inv X pins σ (upd H h'.objs.size (.tup ys)) {s with heap:=h'.push {cls:= .type "tuple",data:= .seq its.toArray}}:=
   I1.laid (t':=s.toks) (fun b o e=>Zf _ e) (Z7 _) (show eI X.prog X.w _ _ _ (.tup ys) from⟨hz,its,r',IsTup.new _ _⟩)
  exact⟨.ref h'.objs.size,_,I2,rfl,q _ (I1.hok.fresh (Z7 _))⟩
 ·obtain⟨its,r',pl,hz⟩:=I.tuple hq
  exact call_tuple_same pl ⟨.ref p,H,I,rfl,q⟩⟩
def tyV(K:tz0)(T:String)(x:V)(H:Hp):Prop:=match x with
 | .str _=>T="str"
 | .int _=>T="int"
 | .ref p=>(T="list"/\∃xs,SqL K H p xs)\/(T="tuple"/\∃o,K.lookup p=some o/\o.cls= .type "tuple"/\o.dict=none)\/
   (T="dict"/\((∃kvs,H p=some (.dK kvs))\/∃kvs,H p=some (.dT kvs)))\/(T="set"/\∃S n,H p=some (.set S n))
 |_=>False
theorem xd6{pins:tzB}{σ:St}{H:Hp}{s:Shared}{T:String}{x:V}{v:Value}(I:Inv X pins σ H s)(r:cV x v)(ty:tyV X.K T x H):
  s.TypeIs v T/\∀a,v= .ref a->∃ob,s.heap.get? a=some ob/\ob.dict=none:=by
 cases x with
 |str z=>
  obtain⟨t,rfl⟩:=r
  cases(show T="str" from ty)
  exact⟨XD s z t,fun _ e=>nomatch e⟩
 |int i=>
  obtain⟨t,rfl⟩:=r
  cases(show T="int" from ty)
  exact⟨typeIs_int s i t,fun _ e=>nomatch e⟩
 | ref p=>
  cases r
  rcases ty with ⟨rfl,xs,hq⟩|⟨rfl,o,hk,hc,hd⟩|⟨rfl,hk⟩|⟨rfl,S,n,hk⟩
  ·obtain⟨its,_,pl,_⟩:=I.list hq
   refine⟨pl.isList.typeIs,fun a e=> ?_⟩
   cases e
   obtain⟨o,n,e,c,hd,_⟩:=pl
   exact⟨o,e,hd⟩
  ·refine⟨⟨o,I.kIn p o hk,hc⟩,fun a e=> ?_⟩
   cases e
   exact⟨o,I.kIn _ o hk,hd⟩
  ·have z:∃o,s.heap.get? p=some o/\o.ExactDict:=by
    rcases hk with ⟨kvs,hk⟩|⟨kvs,hk⟩
    ·obtain⟨_,_,_,_,o,_,_,e,ex,_⟩:=I.hok p _ hk
     exact⟨o,e,ex⟩
    ·obtain⟨_,_,_,_,o,_,_,e,ex,_⟩:=I.hok p _ hk
     exact⟨o,e,ex⟩
   obtain⟨o,e,ex⟩:=z
   refine⟨⟨o,e,ex.1⟩,fun a e2=> ?_⟩
   cases e2
   exact⟨o,e,ex.2.1⟩
  ·obtain⟨o,_,_,_,e,ex,_⟩:=I.hok p _ hk
   refine⟨⟨o,e,ex.1⟩,fun a e2=> ?_⟩
   cases e2
   exact⟨o,e,ex.2.1⟩
 |_=>exact False.elim ty
def wv9(K:tz0)(T:String)(r:V->List V->Hp->VK->Prop)(to:TE):TE:=fun σ H Q=>to σ H fun x H1=>tyV K T x H1/\r x [] H1 Q
def tBM(K:tz0)(T:String)(r:V->List V->Hp->VK->Prop)(to:TE)(t:TA):TE:=fun σ H Q=>to σ H fun x H1=>tyV K T x H1/\t σ H1 fun xs H2=>r x xs H2 Q
variable{o e:Expr}{es:List Expr}{to:TE}{t:TA}{name:Str}{apos cpos:Pos}{T id:String}{r:V->List V->Hp->VK->Prop}
theorem wi1(pa:PlainAttrs T)(slot:Slot T name id)(hty:typeOf (.builtin id)=pure (.type "method_descriptor"))(hm:MtR X id r)(ho:PE X o to)
  (hbase:attributeBase o name X.env (eval o X.env)=eval o X.env:=by rfl) (hline:(apos.endLine==cpos.line)=true:=by rfl):PE X (.Call (.Attribute o name apos) [] [] cpos) (wv9 X.K T r to):=⟨by
 intro pins s σ H Q I h
 refine wpAny_Call_method0_late hbase hline (thn (ho pins s σ H _ I h) fun v s1 ⟨x,H1,I1,r1,ty,q1⟩=> ?_)
 obtain⟨h1,h2⟩:=xd6 I1 r1 ty
 exact⟨T,id,pa,slot,hty,h1,h2,Xh rfl (PySem.evalArgs_none (hm pins s1 σ H1 x [] v [] Q I1 r1 .nil q1))⟩⟩
theorem xx5(pa:PlainAttrs T)(slot:Slot T name id)(hty:typeOf (.builtin id)=pure (.type "method_descriptor"))(hm:MtR X id r)(ho:PE X o to)(ha:PA X (e::es) t)
  (hbase:attributeBase o name X.env (eval o X.env)=eval o X.env:=by rfl)
  (hfew:((backTo cpos (starEach (e::es) X.env)).all (fun x=> !x.1)&&(backToKw cpos (keywordEach [] X.env)).all (fun x=>x.1.isSome)
   &&decide ((e::es).length+([]:List Keyword).length+(if ([]:List Keyword).isEmpty then 0 else 1)<30))=true:=by rfl)
  (hline:(apos.endLine==cpos.line)=true:=by rfl) (hs:StE e es X:=by rfl) (hplain:(backTo cpos (starEach es X.env)).any (·.1)=false:=by rfl):
  PE X (.Call (.Attribute o name apos) (e::es) [] cpos) (tBM X.K T r to t):=⟨by
 intro pins s σ H Q I h
 refine wpAny_Call_method_late hbase hfew hline rfl (thn (ho pins s σ H _ I h) fun v s1 ⟨x,H1,I1,r1,ty,q1⟩=> ?_)
 obtain⟨h1,h2⟩:=xd6 I1 r1 ty
 refine⟨T,id,pa,slot,hty,h1,h2,?_⟩
 have hA:=ha cpos pins s1 σ H1 _ I1 q1
 rw [hs] at hA|-
 refine Xh (by show(false||(backTo cpos (starEach es X.env)).any (·.1))=false;rw [hplain]<;>rfl) (Calls.evalArgs_plain ?_)
 exact thn hA fun us s2 ⟨vs,H2,I2,r2,q2⟩=>hm pins s2 σ H2 x vs v us Q I2 r1 r2 q2⟩
end
theorem bW.one:∀{x:V} {us:List Value},bW [x] us->∃u,us=[u]/\cV x u
 |_,_,.cons r .nil=>⟨_,rfl,r⟩
theorem bW.zero:∀{us:List Value},bW [] us->us=[]
 |_,.nil=>rfl
theorem bW.dropLast{xs:List V}{us:List Value}(h:bW xs us):bW xs.dropLast us.dropLast:=by
 induction h with
 |nil=>exact .nil
 |cons r t ih=>
  cases t with
  |nil=>exact .nil
  |cons q t'=>exact .cons r ih
theorem bW.rep{xs:List V}{us:List Value}(h:bW xs us):∀k:Nat,bW (List.replicate k xs).flatten (List.replicate k us).flatten
 |0=> .nil
 |k+1=>by
  rw [ZU,ZU,Y9,Y9]
  exact bW.append h (bW.rep h k)
theorem yv7{α:Type}(l:List α):l.eraseIdx (l.length-1)=l.dropLast:=by
 induction l with
 |nil=>rfl
 | cons a r ih=>
  cases r with
  |nil=>rfl
  | cons b r=>
   have e:(a::b::r).length-1=((b::r).length-1)+1:=by
    have h1:(a::b::r).length=r.length+2:=rfl
    have h2:(b::r).length=r.length+1:=rfl
    omega
   rw [e,List.eraseIdx_cons_succ,ih]
   all_goals rfl
theorem zw9(its:List Value):∀(k:Nat) (acc:List Value),
  List.foldl (fun x1 x2=>x1++x2) acc.toArray (List.replicate k its.toArray)=(acc++(List.replicate k its).flatten).toArray
 |0,acc=>by simp
 | k+1,acc=>by
  have e:acc.toArray++its.toArray=(acc++its).toArray:=by simp
  have e2:(acc++its)++(List.replicate k its).flatten=acc++(List.replicate (k+1) its).flatten:=by
   rw [ZU,Y9,Zh]
  rw [<-e2,<-zw9 its k (acc++its),<-e,ZU,List.foldl_cons]
section
variable{X:Cx}{pins:tzB}{σ:St}{H:Hp}{s:Shared}{l b:Addr}{xs ys zs:List V}
theorem Inv.lset{its its':List Value}{n:Nat}{f:Array Value->Array Value}{t':Nat}(I:Inv X pins σ H s)(hH:H l=some (.lst xs))
  (e:s.heap.get? l=some {cls:= .type "list",data:= .seq its.toArray n}) (hf:f its.toArray=its'.toArray) (hv:bW ys its') (hz:ys.length<=sizeLine):
  Inv X pins σ (upd H l (.lst ys)) {s with heap:=s.heap.update l (Obj.mapSeq f),toks:=t'}:=by
 have q:=PySem.IsL.update e f
 rw [hf] at q
 refine I.write (x:=l) (e:=l) (by rw [hH];exact trivial) (.inl rfl) (fun b' u hb hu=>(Y4 s.heap (Obj.mapSeq f) (Y8 hb)).trans hu) ⟨_,q⟩ ?_
 exact⟨hz,its',_,hv,q⟩
theorem Inv.lnew{its:List Value}{t':Nat}(I:Inv X pins σ H s)(hv:bW ys its)(hz:ys.length<=sizeLine):
  Inv X pins σ (upd H s.heap.objs.size (.lst ys)) {s with heap:=s.heap.push {cls:= .type "list",data:= .seq its.toArray},toks:=t'}:=
 I.laid (fun _ _ q=>Zf _ q) (Z7 _) ⟨hz,its,0,hv,Zw _ rfl⟩
theorem Inv.fresh(I:Inv X pins σ H s):H s.heap.objs.size=none:=I.hok.fresh (Z7 _)
theorem Inv.lstM(I:Inv X pins σ H s)(hH:H l=some (.lst xs)):xs.length<=sizeLine/\∃(its:List Value) (n:Nat),bW xs its/\xs.length=its.length/\s.heap.get? l=some {cls:= .type "list",data:= .seq its.toArray n}:=by
 obtain⟨z,its,n,r,e⟩:=I.hok l _ hH
 exact⟨z,its,n,r,r.length,e⟩
end
section
variable{X:Cx}
def wf4:V->List V->Hp->VK->Prop:=fun x vs H Q=>∃l xs y,x= .ref l/\vs=[y]/\H l=some (.lst xs)/\xs.length<sizeLine/\Q .non (upd H l (.lst (xs++[y])))
theorem zx0:MtR X "list.append" wf4:=⟨by
 intro pins s σ H x vs v us Q I rx rv h
 obtain⟨l,xs,y,rfl,rfl,hH,hz,q⟩:=h
 cases rx
 obtain⟨u,rfl,ru⟩:=rv.one
 obtain⟨z,its,n,r,hl,e⟩:=I.lstM hH
 refine YV F.slot_list_append ⟨_,e,rfl⟩ F.entry_list_append (F.args_list_append_2 _ _) (PySem.list_append l its.toArray n u (by rw [Zl];omega)) ⟨e,?_⟩
 refine⟨.non,_,I.lset (its':=its++[u]) hH e (by simp) (r.append (.cons ru .nil)) ?_,rfl,q⟩
 rw [Z2,Wc]
 omega⟩
def ww0:V->List V->Hp->VK->Prop:=fun x vs H Q=>∃l xs y,x= .ref l/\vs=[]/\H l=some (.lst xs)/\xs[xs.length-1]? =some y/\Q y (upd H l (.lst xs.dropLast))
theorem wi2:MtR X "list.pop" ww0:=⟨by
 intro pins s σ H x vs v us Q I rx rv h
 obtain⟨l,xs,y,rfl,rfl,hH,hy,q⟩:=h
 cases rx
 have hus:=rv.zero
 subst hus
 obtain⟨z,its,n,r,hl,e⟩:=I.lstM hH
 obtain⟨u,hu,ru⟩:=r.get hy
 have hy':its.toArray[its.toArray.size-1]? =some u:=by
  show its.toArray[its.length-1]? =some u
  rw [<-Array.getElem?_toList,<-hl]
  exact hu
 refine YV F.slot_list_pop ⟨_,e,rfl⟩ F.entry_list_pop (F.args_list_pop_1 _) (MeetsSeq.list_pop_last l its.toArray n u hy' (by rw [Zl];omega)) ⟨e,?_⟩
 refine⟨y,_,I.lset (its':=its.dropLast) hH e ?_ r.dropLast ?_,ru,q⟩
 ·show its.toArray.eraseIdxIfInBounds (its.toArray.size-1)=its.dropLast.toArray
  rw [Zl,List.eraseIdxIfInBounds_toArray,yv7]
 ·rw [List.length_dropLast]
  omega⟩
theorem yq1{α:Type}(xs:List α)(k:Nat):(List.replicate k xs).flatten.length=k*xs.length:=by
 induction k with
 |zero=>simp
 |succ k ih=>rw [ZU,Y9,Z2,ih,Nat.succ_mul,Nat.add_comm]
end
end L2
namespace Att
open PySem PySem.W PySem.Calls PyProof.Rows
theorem zl9{P:Params}{h:Heap}:∀(ns:List Int) (vs:List Value),WellAll P h vs (ns.map WData.int)->IntsAre vs ns:=by
 intro ns
 induction ns with
 |nil=>
  intro vs w
  rw [X1] at w
  cases w
  exact .nil
 | cons n ns ih=>
  intro vs w
  rw [Zb] at w
  cases w with
  |cons a b=>
   cases a
   exact .cons _ _ (ih _ b)
theorem xd7{l:OpenLaw}{n:Nat}(hn:l.most=some n){P:Params}{h:Heap}{args:List WData}{vals:List Value}
  (hpre:l.row.toRowW.claim.pre args=true) (hwl:WellAll P h vals args):
  ∃a vs ns,vals=[Value.ref a]/\args=[WData.list (ns.map WData.int)]/\h.get? a=some {cls:= .type "list",data:= .seq vs.toArray}/\IntsAre vs ns/\ns.length<=n:=by
 have hsh:WShape.hasAll [] args [.list .int]=true:=(pre_splitW hpre).1
 have hc:l.pre.holds [] {args:=args}=true:=(pre_splitW hpre).2
 obtain⟨d,r,rfl,h1,h2⟩:=hasAllW_cons hsh
 obtain rfl:=hasAllW_nil h2
 obtain⟨xs,rfl,h3⟩:=hasW_list h1
 obtain⟨ns,rfl⟩:=items_int h3
 have hlen:ns.length<=n:=by
  unfold OpenLaw.pre at hc
  have h4:(WTm.not (.lt (.lit (.int (n:Int))) (.len (.arg 0)))).holds [] {args:=[.list (ns.map .int)]}=true:=by
   have h4:=(holds_andW hc).1
   rw [hn] at h4
   exact h4
  have h5:=condW_of h4 (w_not (w_lt w_lit (w_len_list (w_arg rfl))))
  rw [Zd] at h5
  refine Nat.le_of_not_lt fun q=> ?_
  have q':(n:Int)<((ns.length:Nat):Int):=by omega
  first
   |(rw [Zk q'] at h5;exact absurd h5 (by decide))
   |(simp at h5;omega)
 cases hwl with
 |cons w1 w2=>
  cases w2
  cases w1 with
  |list ho hall=>exact⟨_,_,ns,rfl,rfl,ho,zl9 ns _ hall,hlen⟩
theorem xd8(l:OpenLaw)(args:List WData):l.row.toRowW.claim.post args (.bool true) args=true:=
 postW_of (r:=l.row.toRowW) (X:=(true==true))
  (show WShape.has [] (.bool true) .bool=true by first|rfl|decide|simp [WShape.has,WShape.arms,WShape.armsAll])
  (show(WTm.eq .res (.lit (.bool true))).value [] {args:=args,res:=some (.bool true),after:=args}=some (.bool (true==true)) from w_eq_bool (w_res rfl) w_lit) rfl
theorem attach_call{l:OpenLaw}{n:Nat}{q:Program}{loose:List Str}{XP:(tzA)->Heap->Prop}{YP:World->Heap->Prop}{d:DefRec}
  (hn:l.most=some n) (hdf:d.params.defaults=[])
  (call:∀(w:World) (s₀ s₁:Shared) (mg mb:tzA) (fa:Addr) (o:Obj) (pm cd doc:Value) (a:Addr) (vs:List Value) (ns:List Int),
   Ground q loose [] XP w s₀ mg mb s₁.heap->YP w s₁.heap->
   s₁.heap.get? fa=some o->o.data= .func (docDef d.name d.params d.body d.scope pm cd doc)->s₁.heap.CodeRec cd d.name->mg d.name=some (.ref fa)->
   s₁.heap.get? a=some {cls:= .type "list",data:= .seq vs.toArray}->IntsAre vs ns->ns.length<=n->s₁.gens= #[]->
   codeAny (model l.prog w) callerA (.call (.ref fa) ⟨[.ref a],[]⟩) (fun r s'=>r= .ok (.ret (.bool true))/\OldK s₁.heap s'.heap/\s'.os=s₁.os/\AllBare s'.gens) s₁):
  WalkO q loose XP YP l.row.toRowW d [] (fun f vs=>PySem.call f vs):=by
 intro w s₀ s₁ mg mb G Y fa o pm cd doc dV kV ho hd hcd hD hmg hg args vals as hpre hlay hrd hwl hlo
 obtain rfl:dV= .none:=Dflts.none hD hdf
 obtain rfl:kV= .none:=Dflts.noKw hD
 obtain⟨a,vs,ns,rfl,rfl,hobj,hints,hlen⟩:=xd7 hn hpre hwl
 refine enter_call (Xg (call w s₀ s₁ mg mb fa o pm cd doc a vs ns G Y ho (fd_plain hd) hcd hmg hobj hints hlen hg) fun r s' hq=> ?_)
 obtain⟨rfl,h2,h3,h4⟩:=hq
 exact⟨.inl ⟨.bool true,.bool true,[],rfl,fun _=>rfl,.bool true,xd8 l _,fun _=>⟨List.Pairwise.nil,fun _ hm=>(nomatch hm)⟩⟩,h2,h3,h4⟩
end Att
namespace L2
open PySem PySem.Spec PyProof.Rows
theorem zx1:∀{vs:List Value} {ns:List Int},IntsAre vs ns->bW (ns.map V.int) vs
 |_,_,.nil=> .nil
 |_,_,.cons n t h=> .cons ⟨t,rfl⟩ (zx1 h)
def xw2(H:Hp):Prop:=∀b,H b=none\/∃o xs,H b=some (.frz o (.lst xs))
theorem xp5{P:Program}{w:World}{K:tz0}{mg mb:tzA}{CX:CXT}{k:Nat}{fa a:Addr}{fd:FuncData}{x:Str}{sp:Sp}{s₁:Shared}{vs:List Value}{ns:List Int}
  (KX:K.In s₁.heap) (hns:s₁.heap.Ns mainGlobals mg) (hb:s₁.heap.Ns builtinsNs mb) (hbb:∀x:Str,x≠"__name__"->mb x=bootBuiltins x) (hlim:s₁.heap.NoLimit) (hg:s₁.gens= #[])
  (ha:s₁.heap.get? a=some {cls:= .type "list",data:= .seq vs.toArray}) (hi:IntsAre vs ns) (hl:ns.length<=sizeLine) (hr:Room k callerA)
  (F:∀base:Heap,K.In base->base.Ns mainGlobals mg->FnOk P w K mg base CX k fa fd [x] sp) (hbind:∀(s:Shared) (u:Value),BindsTo s fd ⟨[u],[]⟩ [(x,u)])
  (hsp:∀H:Hp,xw2 H->SqL K H a (ns.map V.int)->sp [.ref a] H (fun v _=>v= .bl true) fun _ _ _=>False)
  (hCX:∀H e s',CX [] H s₁ (fun _ _ _=>False) e s'->False):
  codeAny (model P w) callerA (.call (.ref fa) ⟨[.ref a],[]⟩) (fun r s'=>r= .ok (.ret (.bool true))/\OldK s₁.heap s'.heap/\s'.os=s₁.os/\AllBare s'.gens) s₁:=by
 have rv:=zx1 hi
 have lenV:=hi.length
 have core:∀H:Hp,xw2 H->SqL K H a (ns.map V.int)->HOk P w H s₁.heap->(∀b,H b≠none->b=a)->(H a≠none->K.lookup a=none)->
   codeAny (model P w) callerA (.call (.ref fa) ⟨[.ref a],[]⟩) (fun r s'=>r= .ok (.ret (.bool true))/\OldK s₁.heap s'.heap/\s'.os=s₁.os/\AllBare s'.gens) s₁:=by
  intro H hO hS hok hA hK
  have base_of:∀{b:Addr} {o:Obj},s₁.heap.get? b=some o->H b=none->(zB s₁.heap H).get? b=some o:=fun e n=>xo1 e n
  have noA:∀{b:Addr} {o:Obj} {es:Array DictEntry} {ep:Nat},s₁.heap.get? b=some o->o.data= .dict es ep->H b=none:=fun {b o es ep} e d=>by
   cases q:H b with
   |none=>rfl
   |some u=>
    have e':b=a:=hA b (by rw [q];simp)
    subst e'
    rw [ha] at e;cases e
    have d':Data.seq vs.toArray _=Data.dict es ep:=d
    cases d'
  have nsK:∀{b:Addr} {m:tzA},s₁.heap.Ns b m->(zB s₁.heap H).Ns b m:=fun {b m} ⟨o,es,ep,e,d,r⟩=>⟨o,es,ep,base_of e (noA e d),d,r⟩
  have hKb:K.In (zB s₁.heap H):=fun b o e=>base_of (KX b o e) (by
   cases q:H b with
   |none=>rfl
   |some u=>
    have e':b=a:=hA b (by rw [q];simp)
    subst e'
    rw [hK (by rw [q];simp)] at e;cases e)
  have hM:Mod K mg (zB s₁.heap H):=⟨hKb,nsK hns,⟨mb,nsK hb,hbb⟩,let ⟨mc,h1,h2⟩:=hlim;⟨mc,nsK h1,h2⟩⟩
  have e0:Env0 P w K mg (zB s₁.heap H) callerA [] s₁ H:=⟨rfl,hM,fun b o e=>xz1 e,Nat.le_of_eq (xb8 _ _),trivial,fun b hb=>absurd (show b∈([]:List Addr) from hb) (by simp),hok,.of_eq hg⟩
  refine Xg ((F _ hKb (nsK hns)).run callerA [] s₁ H ⟨[.ref a],[]⟩ [.ref a] [.ref a] _ _ hr e0 (hbind s₁ (.ref a)) (.cons rfl .nil) (hsp H hO hS)) fun r s' h=> ?_
  cases r with
  |error e=>exact(hCX H e s' h).elim
  | ok fl=>
   cases fl with
   |next=>exact False.elim h
   |brk=>exact False.elim h
   |cont=>exact False.elim h
   | ret u=>
    obtain⟨v,H',os,bare,un,hok',r',q⟩:=h
    have q':v= .bl true:=q
    subst q'
    obtain rfl:u=Value.bool true:=r'
    refine⟨rfl,OldK.of_keep fun b o e=> ?_,os,bare⟩
    cases q:H b with
    |none=>exact un.keep b o e q (by intro z;exact absurd (show b∈([]:List Addr) from z) (by simp)) (by simp)
    | some u=>
     rcases hO b with z|⟨ob,xs,z⟩
     ·rw [q] at z;cases z
     ·have z2:=un.frzs b ob _ z
      obtain⟨e1,_⟩:=hok b _ z
      obtain⟨e2,_⟩:=hok' b _ z2
      rw [e] at e1;cases e1
      exact e2
 cases hk:K.lookup a with
 |some o=>
  have e:=KX a o hk
  rw [ha] at e
  cases e
  refine core (fun _=>none) (fun _=> .inl rfl) (.inr ⟨_,vs.toArray,_,hk,rfl,rfl,rfl,by rw [Zl,lenV];exact hl,by simpa using rv⟩) (fun b u z=>by have z':(none:Option HO)=some u:=z;cases z') (fun b z=>absurd rfl z) fun z=>absurd rfl z
 | none=>
  refine core (fun b=>if b=a then some (.frz {cls:= .type "list",data:= .seq vs.toArray} (.lst (ns.map V.int))) else none) (fun b=> ?_) (.inl (.inr ⟨{cls:= .type "list",data:= .seq vs.toArray},if_pos rfl⟩)) (fun b u z=> ?_) (fun b z=> ?_) fun _=>hk
  ·by_cases hb:b=a
   ·exact .inr ⟨_,_,if_pos hb⟩
   ·exact .inl (if_neg hb)
  ·by_cases hb:b=a
   ·have z':=(if_pos hb).symm.trans z
    cases z'
    subst hb
    exact⟨ha,by rw [Zd];exact hl,vs,_,rv,ha⟩
   ·have z':=(if_neg hb).symm.trans z
    cases z'
  ·by_cases hb:b=a
   ·exact hb
   ·exact absurd (if_neg hb) z
theorem wa3{l:PySem.W.OpenLaw}{n k:Nat}{q:Program}{loose:List Str}{XP:(tzA)->Heap->Prop}{YP:World->Heap->Prop}{d:DefRec}{K:Params->tz0}{CX:World->CXT}{sp:World->Sp}{x:Str}
  (hn:l.most=some n) (hn2:n<=sizeLine) (hdf:d.params.defaults=[]) (hr:Room k callerA)
  (hY:∀(w:World) (h:Heap),YP w h->(K w.params).In h)
  (F:∀(w:World) (mg:tzA) (fa:Addr) (h:Heap),(K w.params).In h->h.Ns mainGlobals mg->mg d.name=some (.ref fa)->
   ∃fd:FuncData,(∀(s:Shared) (u:Value),BindsTo s fd ⟨[u],[]⟩ [(x,u)])/\
    ∀base:Heap,(K w.params).In base->base.Ns mainGlobals mg->FnOk l.prog w (K w.params) mg base (CX w) k fa fd [x] (sp w))
  (hsp:∀(w:World) (H:Hp) (a:Addr) (ns:List Int),ns.length<=n->xw2 H->SqL (K w.params) H a (ns.map V.int)->sp w [.ref a] H (fun v _=>v= .bl true) fun _ _ _=>False)
  (hCX:∀(w:World) (H:Hp) (s:Shared) (e:Value) (s':Shared),CX w [] H s (fun _ _ _=>False) e s'->False):
  PySem.W.WalkO q loose XP YP l.row.toRowW d [] (fun f vs=>PySem.call f vs):=by
 refine Att.attach_call hn hdf fun w s₀ s₁ mg mb fa o pm cd doc a vs ns G Y ho hd hcd hmg hobj hints hlen hg=> ?_
 have KX:=hY w _ Y
 obtain⟨fd,hb,hF⟩:=F w mg fa _ KX G.T.g hmg
 exact xp5 KX G.T.g G.T.b G.T.builtins G.T.nolimit hg hobj hints (Zr hlen hn2) hr hF hb (fun H hO hS=>hsp w H a ns hlen hO hS) fun H e s'=>hCX w H s₁ e s'
def iR(s:Stmt)(j:Nat):Stmt:=match s with
 | .ClassDef _ _ _ body _ _ _ _ _ _ _=>body.getD j (.Pass ⟨0,0,0,0⟩)
 |_=> .Pass ⟨0,0,0,0⟩
def xM(s:Stmt):Arguments:=match s with
 | .FunctionDef _ a _ _ _ _ _ _ _ _=>a
 |_=>{posonlyargs:=[],args:=[],vararg:=none,kwonlyargs:=[],kw_defaults:=[],kwarg:=none,defaults:=[]}
def nK(s:Stmt):List Stmt:=match s with
 | .FunctionDef _ _ b _ _ _ _ _ _ _=>b
 |_=>[]
def aW(s:Stmt):Scope:=match s with
 | .FunctionDef _ _ _ _ _ _ sc _ _ _=>sc
 |_=>{kind:= .function,names:=[],isGenerator:=false,isCoroutine:=false}
abbrev CX0:CXT:=fun _ _ _ _ _ _=>False
abbrev E0:XK:=fun _ _ _=>False
theorem zf5{X:Cx}:nY CX0 X E0:=fun _ _ _ _ _ _ _ h=>h.elim
structure Fun(K:tz0)(x qual:Str)(st:Stmt)(f:Addr)(fd:FuncData):Prop where
 ex:∃(oc:Value) (od:Option Addr) (kV doc pm:Value) (an:Option Addr) (cdv ct:Value) (osl:Array (Option Value)),
  fd=PySem.W.fnOf x qual (xM st) (nK st) (aW st) .none kV doc pm an cdv ct/\K.lookup f=some ⟨oc,od,.func fd,osl⟩/\PySem.W.codeIn K cdv qual=true
 kp:PySem.W.keepIn K (.ref f)=true
section
variable{P:Program}{w:World}{K:tz0}{mg:tzA}{base:Heap}
theorem Fun.ok{x qual:Str}{st:Stmt}{f:Addr}{fd:FuncData}{N ps:List Str}{k:Nat}{sp:Sp}(F:Fun K x qual st f fd)(S:FnScope N ps (aW st))(len:∀vs H Q E,sp vs H Q E->vs.length=ps.length)
  (hbody:∀(cdv:Value) (A:Around) (outer:List Env) (s:Shared) (H:Hp) (vs:List V) (Q:VK) (E:XK),Room k (A.deeper (envOfC qual (aW st) s.heap.objs.size f cdv))->sp vs H Q E->
   ∃t,PSs (iW CX0 P w K mg base N qual (aW st) f cdv A outer s H E).nox (nK st) t/\t {nx:=fun _ H'=>Q .non H',rt:=Q} (start N vs) H):FnOk P w K mg base CX0 (k+1) f fd ps sp:=by
 obtain⟨oc,od,kV,doc,pm,an,cdv,ct,osl,rfl,lk,hcd⟩:=F.ex
 refine xx4 lk hcd S len fun A outer s H vs Q E hr hsp=> ?_
 obtain⟨t,h,q⟩:=hbody cdv A outer s H vs Q E hr hsp
 exact⟨t,h.nox,q⟩
theorem Fun.binds{x qual:Str}{st:Stmt}{f:Addr}{fd:FuncData}{ps:List Str}(F:Fun K x qual st f fd)
  (h:∀(kV doc pm:Value) (an:Option Addr) (cdv ct:Value) (us:List Value),us.length=ps.length->bindArgs (PySem.W.fnOf x qual (xM st) (nK st) (aW st) .none kV doc pm an cdv ct) ⟨us,[]⟩=pure (ps.zip us)):lS K fd ps []:=by
 obtain⟨oc,od,kV,doc,pm,an,cdv,ct,osl,rfl,lk,hcd⟩:=F.ex
 exact .all (h kV doc pm an cdv ct)
theorem xd9{x qual:Str}{st:Stmt}{f:Addr}{oc:Value}{od an:Option Addr}{osl:Array (Option Value)}{kV doc pm cdv ct:Value}(l:K.lookup f=some ⟨oc,od,.func (PySem.W.fnOf x qual (xM st) (nK st) (aW st) .none kV doc pm an cdv ct),osl⟩)
  (c:PySem.W.codeIn K cdv qual=true) (k:PySem.W.keepIn K (.ref f)=true):Fun K x qual st f (PySem.W.fnOf x qual (xM st) (nK st) (aW st) .none kV doc pm an cdv ct):=⟨⟨oc,od,kV,doc,pm,an,cdv,ct,osl,rfl,l,c⟩,k⟩
end
theorem zf6{A:Around}{k:Nat}(hr:Room k A):A.units+1<cLine:=Ys (Nat.add_le_add_left (by decide:1<=64) _) hr.units
theorem vI{n:Nat}(h:n<=1000):n<sizeLine:=Ys h (by decide)
section
variable{X:Cx}
theorem pv(i:Nat){x:Str}{pos:Pos}(hN:X.N[i]? =some x:=by rfl)(hv:Vis X.env.scope x:=by first|exact Or.inl rfl|exact Or.inr (Or.inl rfl)|exact Or.inr (Or.inr rfl))(hd:NDb x:=by decide)
  (hcd:(x==("__classdict__":Str))=false:=by decide):PE X (.Name x pos) (wm3 i):=wU hN hv hd hcd
end
theorem wt3{c A B:Prop}[Decidable c](h1:c->A)(h2:¬c->B):if c then A else B:=by
 by_cases h:c
 ·rw [if_pos h]
  exact h1 h
 ·rw [if_neg h]
  exact h2 h
def xa3(H H':Hp):Prop:=∀b o,H b=some o->H' b=some o
theorem xa3.free{H H':Hp}(e:xa3 H H'){l:Addr}(h:H' l=Option.none):H l=Option.none:=by
 cases q:H l with
 |none=>rfl
 |some o=>
  rw [e l o q] at h
  cases h
section
variable{κ:Type}[DecidableEq κ]
def qS(kvs:List (κ×V))(k:κ):Option V:=(kvs.find? fun kv=>decide (kv.1=k)).map (·.2)
def kE(kvs:List (κ×V))(k:κ)(v:V):List (κ×V):=
 if (kvs.any fun kv=>decide (kv.1=k))=true then kvs.map (fun kv=>if kv.1=k then(kv.1,v) else kv) else kvs++[(k,v)]
theorem uM{p:κ×V}{r:List (κ×V)}{k:κ}(e:p.1=k):qS (p::r) k=some p.2:=by simp [qS,Yo,e]
theorem uN{p:κ×V}{r:List (κ×V)}{k:κ}(e:¬p.1=k):qS (p::r) k=qS r k:=by simp [qS,Yo,e]
theorem zj1(k:κ):∀kvs:List (κ×V),(kvs.any fun kv=>decide (kv.1=k))=(qS kvs k).isSome
 |[]=>rfl
 |p::r=>by
  rw [YO]
  by_cases e:p.1=k
  ·simp only [uM e,Zk e,Bool.true_or,Option.isSome_some]
  ·rw [uN e,Za e,Bool.false_or];exact zj1 k r
theorem zi5(kvs:List (κ×V))(k:κ)(v:V):(kE kvs k v).length<=kvs.length+1:=by
 unfold kE
 split
 ·rw [Zd];omega
 ·rw [Z2,Z6,ZX];omega
theorem kX.isSome_eq{o:Option V}{u:Option Value}(r:kX o u):o.isSome=u.isSome:=by
 cases o with
 |none=>cases u with
  |none=>rfl
  |some _=>exact(show False from r).elim
 |some _=>cases u with
  |none=>exact(show False from r).elim
  |some _=>rfl
theorem KV.val{kvs:List (κ×V)}{vs:List (κ×Value)}(r:KV kvs vs)(k:κ):kX (qS kvs k) (valueAt vs k):=by
 unfold KV at r
 induction r with
 |nil=>exact True.intro
 | @cons p q ps qs h t ih=>
  obtain⟨h1,h2⟩:=h
  by_cases e:p.1=k
  ·have e':q.1=k:=h1.symm.trans e
   have b:valueAt (q::qs) k=some q.2:=by simp [valueAt,Yo,e']
   rw [uM e,b];exact h2
  ·have e':¬q.1=k:=fun z=>e (h1.trans z)
   have b:valueAt (q::qs) k=valueAt qs k:=by simp [valueAt,Yo,e']
   rw [uN e,b];exact ih
theorem KV.any{kvs:List (κ×V)}{vs:List (κ×Value)}(r:KV kvs vs)(k:κ):(kvs.any fun kv=>decide (kv.1=k))=vs.any fun kv=>decide (kv.1=k):=by
 unfold KV at r
 induction r with
 |nil=>rfl
 |cons h t ih=>rw [YO,YO,ih,h.1]
theorem KV.repl{kvs:List (κ×V)}{vs:List (κ×Value)}(r:KV kvs vs)(k:κ){y:V}{u:Value}(ry:cV y u):
  KV (kvs.map fun kv=>if kv.1=k then(kv.1,y) else kv) (vs.map fun kv=>if kv.1=k then(kv.1,u) else kv):=by
 unfold KV at r|-
 induction r with
 |nil=>exact .nil
 | @cons p q ps qs h t ih=>
  rw [Zb,Zb]
  refine .cons ?_ ih
  obtain⟨h1,h2⟩:=h
  by_cases e:p.1=k
  ·rw [if_pos e,if_pos (h1.symm.trans e)];exact⟨h1,ry⟩
  ·rw [if_neg e,if_neg (fun z=>e (h1.trans z))];exact⟨h1,h2⟩
theorem KV.put{kvs:List (κ×V)}{vs:List (κ×Value)}(r:KV kvs vs)(k:κ){y:V}{u:Value}(ry:cV y u):KV (kE kvs k y) (stored vs k u):=by
 unfold kE stored
 rw [r.any k]
 by_cases e:(vs.any fun kv=>decide (kv.1=k))=true
 ·rw [if_pos e,if_pos e];exact r.repl k ry
 ·rw [if_neg e,if_neg e];exact Paired.snoc r ⟨rfl,ry⟩
theorem KV.length{kvs:List (κ×V)}{vs:List (κ×Value)}(r:KV kvs vs):kvs.length=vs.length:=ZM r
end
theorem yc9{P:Program}{w:World}{k:Key}{u:Value}(r:cV (kV k) u):(fK P w).is k u=true:=by
 cases k with
 |inl i=>obtain⟨t,e⟩:=(show ∃t,u=Value.int i t from r);subst e;exact yn8 P w i t
 |inr x=>obtain⟨t,e⟩:=(show ∃t,u=Value.str x t from r);subst e;exact yn9 P w x t
theorem zx2{P:Program}{w:World}:∀{ks:List Key} {us:List Value},bW (ks.map kV) us->ItemsAre (fK P w) ks us
 |[],_,r=>by rw [X1] at r;cases r;exact .nil
 |k::ks,_,r=>by
  rw [Zb] at r
  cases r with
  |cons h t=>exact .cons (yc9 h) (zx2 t)
abbrev KT(H:Hp):List (List Key×V)->List (List Key×Addr×Value)->Prop:=Paired fun p q=>p.1=q.1/\H q.2.1=some (.tup (p.1.map kV))/\cV p.2 q.2.2
theorem KT.val{H:Hp}{kvs:List (List Key×V)}{xs:List (List Key×Addr×Value)}(r:KT H kvs xs)(k:List Key):kX (qS kvs k) ((atKey xs k).map (·.2)):=by
 induction r with
 |nil=>exact True.intro
 | @cons p q ps qs h t ih=>
  obtain⟨h1,_,h2⟩:=h
  by_cases e:p.1=k
  ·have e':q.1=k:=h1.symm.trans e
   have b:atKey (q::qs) k=some q.2:=by simp [atKey,Yo,e']
   rw [uM e,b];exact h2
  ·have e':¬q.1=k:=fun z=>e (h1.trans z)
   have b:atKey (q::qs) k=atKey qs k:=by simp [atKey,Yo,e']
   rw [uN e,b];exact ih
theorem KT.repl{H:Hp}{kvs:List (List Key×V)}{xs:List (List Key×Addr×Value)}(r:KT H kvs xs)(k:List Key){y:V}{u:Value}(ry:cV y u):
  KT H (kvs.map fun kv=>if kv.1=k then(kv.1,y) else kv) (xs.map (putAt k u)):=by
 induction r with
 |nil=>exact .nil
 | @cons p q ps qs h t ih=>
  rw [Zb,Zb]
  refine .cons ?_ ih
  obtain⟨h1,h2,h3⟩:=h
  unfold putAt
  by_cases e:p.1=k
  ·rw [if_pos e,if_pos (h1.symm.trans e)];exact⟨h1,h2,ry⟩
  ·rw [if_neg e,if_neg (fun z=>e (h1.trans z))];exact⟨h1,h2,h3⟩
theorem KT.put{H:Hp}{kvs:List (List Key×V)}{xs:List (List Key×Addr×Value)}(r:KT H kvs xs)(k:List Key){b:Addr}{y:V}{u:Value}(hb:H b=some (.tup (k.map kV)))(ry:cV y u):
  KT H (kE kvs k y) (storedH xs k b u):=by
 have e:(kvs.any fun kv=>decide (kv.1=k))=(atKey xs k).isSome:=by
  rw [zj1,(r.val k).isSome_eq,Wv]
 unfold kE storedH
 rw [e]
 by_cases q:(atKey xs k).isSome=true
 ·rw [if_pos q,if_pos q];exact r.repl k ry
 ·rw [if_neg q,if_neg q];exact Paired.snoc r ⟨rfl,hb,ry⟩
theorem KT.keeps{H H':Hp}{kvs:List (List Key×V)}{xs:List (List Key×Addr×Value)}(r:KT H kvs xs)(ht:∀b ys,H b=some (.tup ys)->H' b=some (.tup ys)):KT H' kvs xs:=
 Paired.mapP r fun _ _ z=>⟨z.1,ht _ _ z.2.1,z.2.2⟩
section
variable{P:Program}{w:World}{H:Hp}{h:Heap}{a:Addr}
theorem xx6{u:HO}(ok:HOk P w H h)(e:Rd H a u):eI P w H h a u:=e.ok ok
theorem xW{kvs:List (Key×V)}(ok:HOk P w H h)(e:Rd H a (.dK kvs)):kvs.length<=sizeLine/\(a==sysModules)=false/\∃vs,KV kvs vs/\h.DictOf (fK P w) a vs:=
 show eI P w H h a (.dK kvs) from xx6 ok e
theorem wp6{kvs:List (Key×V)}(ok:HOk P w H h)(e:H a=some (.dK kvs)):kvs.length<=sizeLine/\(a==sysModules)=false/\∃vs,KV kvs vs/\h.DictOf (fK P w) a vs:=xW ok (.inl e)
theorem zm0{ks:List Key}(ok:HOk P w H h)(e:H a=some (.tup (ks.map kV))):(tupleKind (fK P w)).is h ks a:=by
 obtain⟨_,its,r,o,h1,h2,n,h3⟩:=(show eI P w H h a (.tup (ks.map kV)) from ok a _ e)
 exact⟨o,its.toArray,n,h1,h2,h3,by simpa using zx2 r⟩
theorem zm1{kvs:List (List Key×V)}(ok:HOk P w H h)(e:Rd H a (.dT kvs)):kvs.length<=sizeLine/\(a==sysModules)=false/\
  ∃xs,KT H kvs xs/\h.DictOfH (tupleKind (fK P w)) a xs:=by
 obtain⟨z,y,xs,r,o,es,ep,h1,h2,h3,h4,h5⟩:=(show eI P w H h a (.dT kvs) from xx6 ok e)
 refine⟨z,y,xs,r,o,es,ep,h1,h2,h3,h4,fun x hx=> ?_,h5⟩
 have all:∀{l:List (List Key×V)} {m:List (List Key×Addr×Value)},KT H l m->∀x∈m,(tupleKind (fK P w)).is h x.1 x.2.1:=by
  intro l m q
  induction q with
  |nil=>intro x hx;exact nomatch hx
  | @cons p q ps qs hq t ih=>
   intro x hx
   rcases Z5.mp hx with e|hx
   ·subst e
    exact zm0 ok (by rw [<-hq.1];exact hq.2.1)
   ·exact ih x hx
 exact all r x hx
theorem wp7{kvs:List (List Key×V)}(ok:HOk P w H h)(e:H a=some (.dT kvs)):kvs.length<=sizeLine/\(a==sysModules)=false/\
  ∃xs,KT H kvs xs/\h.DictOfH (tupleKind (fK P w)) a xs:=zm1 ok (.inl e)
end
def zv6(H:Hp)(a:Addr)(y:V)(r:Option V):Prop:=
 (∃kvs k,Rd H a (.dK kvs)/\y=kV k/\r=qS kvs k)\/∃kvs k b,Rd H a (.dT kvs)/\y= .ref b/\H b=some (.tup (k.map kV))/\r=qS kvs k
def wn6(H:Hp)(a:Addr)(y v:V)(H':Hp):Prop:=
 (∃kvs k,H a=some (.dK kvs)/\y=kV k/\kvs.length<sizeLine/\H'=upd H a (.dK (kE kvs k v)))\/
 ∃kvs k b,H a=some (.dT kvs)/\y= .ref b/\H b=some (.tup (k.map kV))/\kvs.length<sizeLine/\H'=upd H a (.dT (kE kvs k v))
section
variable{X:Cx}{pins:tzB}{σ:St}{H:Hp}{s:Shared}{a:Addr}{y v:V}{u r:Value}{o:Option V}{A:Around}{E:Value->Shared->Prop}
theorem Inv.big(I:Inv X pins σ H s):sysModules<s.heap.objs.size:=by
 have h:mainGlobals<s.heap.objs.size:=(I.mod.glob.keeps I.bk).lt
 exact Nat.lt_trans (by decide) h
theorem xe0{Q:Value->Shared->Prop}(hu:A.units+1<cLine)(I:Inv X pins σ H s)(g:zv6 H a y (some v))(ry:cV y u)(h:∀w' s',Inv X pins σ H s'->cV v w'->Q w' s'):
  wpAny (model X.prog X.w) A (getItem (.ref a) u) Q E s:=by
 rcases g with ⟨kvs,k,e,ey,l⟩|⟨kvs,k,b,e,ey,eb,l⟩
 ·subst ey
  obtain⟨z,hd,vs,rel,dd⟩:=xW I.hok e
  obtain⟨w',hw,rw'⟩:=kX.some_of (v:=v) (o:=valueAt vs k) (by rw [l];exact rel.val k)
  exact wpAny_getItem_of (yc9 ry) dd.mapOf hw (h w' _ (I.tok _) rw')
 ·subst ey
  cases(show u=Value.ref b from ry)
  obtain⟨z,hd,xs,rel,dd⟩:=zm1 I.hok e
  obtain⟨w',hw,rw'⟩:=kX.some_of (v:=v) (o:=(atKey xs k).map (·.2)) (by rw [l];exact rel.val k)
  obtain⟨p,hp,hp2⟩:=Zt.mp hw
  refine wpAny_getItem_heap (XE hu) (zm0 I.hok eb) dd hp ?_
  rw [hp2]
  exact h w' _ (I.tok _) rw'
theorem wa4{Q:Value->Shared->Prop}(hu:A.units+1<cLine)(I:Inv X pins σ H s)(g:zv6 H a y o)(ry:cV y u)(h:∀s',Inv X pins σ H s'->Q (.bool (!o.isSome)) s'):
  wpAny (model X.prog X.w) A (compareOp .NotIn u (.ref a)) Q E s:=by
 rcases g with ⟨kvs,k,e,ey,l⟩|⟨kvs,k,b,e,ey,eb,l⟩
 ·subst ey
  obtain⟨z,hd,vs,rel,dd⟩:=xW I.hok e
  refine wpAny_notIn_of (yc9 ry) hd dd.mapOf ?_
  rw [<-(rel.val k).isSome_eq,<-l]
  exact h _ (I.tok _)
 ·subst ey
  cases(show u=Value.ref b from ry)
  obtain⟨z,hd,xs,rel,dd⟩:=zm1 I.hok e
  refine wpAny_notIn_heap (XE hu) (zm0 I.hok eb) hd dd ?_
  have q:=(rel.val k).isSome_eq
  rw [Wv] at q
  rw [<-q,<-l]
  exact h _ (I.tok _)
theorem yq2{h':Heap}{t':Nat}{ob:HO}(I:Inv X pins σ H s)(mu:Mut (H a))(hs:Heap.SameBut a s.heap h')(he:∃q,h'.get? a=some q)(new:eI X.prog X.w (upd H a ob) h' a ob):
  Inv X pins σ (upd H a ob) {s with heap:=h',toks:=t'}:=
 I.write (x:=a) (e:=a) mu (.inl rfl) (fun b q hb z=>(hs.2 b hb).trans z) he new
theorem wi3{P:Program}{w:World}{H':Hp}{h':Heap}{kvs:List (Key×V)}{vs:List (Key×Value)}(z:kvs.length<=sizeLine)(hd:(a==sysModules)=false)(rel:KV kvs vs)(dd:h'.DictOf (fK P w) a vs):
  eI P w H' h' a (.dK kvs):=⟨z,hd,vs,rel,dd⟩
theorem xe1{H':Hp}{Q:Unit->Shared->Prop}(hu:A.units+1<cLine)(I:Inv X pins σ H s)(g:wn6 H a y v H')(ry:cV y u)(rv:cV v r)(h:∀s',Inv X pins σ H' s'->Q () s'):
  wpAny (model X.prog X.w) A (setItem (.ref a) u r) Q E s:=by
 rcases g with ⟨kvs,k,e,ey,l,eH⟩|⟨kvs,k,b,e,ey,eb,l,eH⟩
 ·subst ey eH
  obtain⟨z,hd,vs,rel,dd⟩:=wp6 I.hok e
  have hz:vs.length<=sizeLine:=by rw [<-rel.length];exact z
  have hl:(kE kvs k v).length<=sizeLine:=by have:=zi5 kvs k v;omega
  refine wpAny_setItem_pairs (hsz:=hz) (yc9 ry) dd fun h' dd' hs=>h _ ?_
  have he:∃q,h'.get? a=some q:=let ⟨q,_,_,hq,_⟩:=dd';⟨q,hq⟩
  exact yq2 I (by rw [e];exact True.intro) hs he (wi3 hl hd (rel.put k rv) dd')
 ·subst ey eH
  cases(show u=Value.ref b from ry)
  obtain⟨z,hd,xs,rel,dd⟩:=wp7 I.hok e
  have hz:xs.length<=sizeLine:=by rw [<-ZM rel];exact z
  have hl:(kE kvs k v).length<=sizeLine:=by have:=zi5 kvs k v;omega
  refine wpAny_setItem_heap (hsz:=hz) (XE hu) (zm0 I.hok eb) dd fun h' dd' hs=>h _ ?_
  obtain⟨q,es,ep,hq,h2,h3,h4,_,h5⟩:=dd'
  refine yq2 I (by rw [e];exact True.intro) hs ⟨q,hq⟩ ⟨hl,hd,_,(rel.put k eb rv).keeps fun c ys ec=> ?_,q,es,ep,hq,h2,h3,h4,h5⟩
  rw [bR (wo8 ec e (fun z=>nomatch z))]
  exact ec
end
section
variable{X:Cx}{pins:tzB}{σ:St}{H:Hp}{s:Shared}{a:Addr}{kvs:List (Key×V)}{k:Key}{u:Value}{A:Around}{E:Value->Shared->Prop}
theorem wa5{Q:Bool->Shared->Prop}(I:Inv X pins σ H s)(e:Rd H a (.dK kvs))(h:∀s',Inv X pins σ H s'->Q (!kvs.isEmpty) s'):wpAny (model X.prog X.w) A (truthy (.ref a)) Q E s:=by
 obtain⟨z,hd,vs,rel,dd⟩:=xW I.hok e
 refine wpAny_truthy_dict hd dd (by rw [<-rel.length];rw [ZP] at z;omega) ?_
 have q:kvs.isEmpty=vs.isEmpty:=by cases rel<;>rfl
 rw [<-q]
 exact h _ (I.tok _)
end
def xw3(i:Expr):Prop:=∀ov iv,subscripted i false ov iv=operate [ov,iv] (getItem ov iv)
theorem wa6{prog:Program}{w:World}{A:Around}{E:Value->Shared->Prop}{s:Shared}{env:Env}{value slice:Expr}{pos:Pos}{T id:String}{Q:Value->Shared->Prop}
  (hl:typeLookup (.type T) "__getitem__"=pure (some (.builtin id))) (hs:xw3 slice)
  (h:wpAny (model prog w) A (eval value env) (fun o s₁=>wpAny (model prog w) A (eval slice env) (fun i s₂=>s₂.TypeIs o T/\wpAny (model prog w) A (getItem o i) Q E s₂) E s₁) E s):
  wpAny (model prog w) A (eval (.Subscript value slice pos) env) Q E s:=by
 refine Subscript_ (ZW h (fun o s₁ h₁=>ZW h₁ (fun i s₂ h₂=> ?_) fun _ _ x=>x) fun _ _ x=>x)
 obtain⟨hT,h₂⟩:=h₂
 unfold subscriptTail
 refine Zj ?_
 rw [getitemInPython_of_ne hT.not_modules]
 refine Zj (wpAny_specialOf hT hl ?_)
 have fin:wpAny (model prog w) A (subscripted slice false o i) (fun r s₃=>wpAny (model prog w) A (letTemporaryGo value o r>>=fun _=>pure r) Q E s₃) E s₂:=by
  rw [hs o i]
  exact wpAny_operating (ZW h₂ (fun r s₃ h₃=>Zj (wpAny_letTemporaryGo (ZI h₃))) fun _ _ x=>x)
 first
  |exact ZI (Zj fin)
  |exact Zj (ZI (Zj fin))
  |exact Zj fin
theorem yo1{X:Cx}{pins:tzB}{σ:St}{H:Hp}{s:Shared}{a:Addr}{y:V}{o:Option V}(I:Inv X pins σ H s)(g:zv6 H a y o):s.TypeIs (.ref a) "dict":=by
 rcases g with ⟨kvs,k,e,_,_⟩|⟨kvs,k,b,e,_,_,_⟩
 ·obtain⟨_,_,vs,_,dd⟩:=xW I.hok e
  exact dd.typeIs
 ·obtain⟨_,_,xs,_,dd⟩:=zm1 I.hok e
  exact dd.typeIs
def ws7(td ty:TE):TE:=fun σ H Q=>td σ H fun x H1=>ty σ H1 fun y H2=>∃a v,x= .ref a/\zv6 H2 a y (some v)/\Q v H2
def wf5(ty td:TE):TE:=fun σ H Q=>ty σ H fun y H1=>td σ H1 fun x H2=>∃a o,x= .ref a/\zv6 H2 a y o/\Q (.bl (!o.isSome)) H2
def ws8(td ty tv:TE):TS:=fun D σ H=>tv σ H fun v H1=>td σ H1 fun x H2=>ty σ H2 fun y H3=>∃a H4,x= .ref a/\wn6 H3 a y v H4/\D.nx σ H4
section
variable{X:Cx}{o i e value:Expr}{pos pos' tpos:Pos}{td ty tv:TE}
theorem wa7(hu:X.A.units+1<cLine)(ho:PE X o td)(hi:PE X i ty)(hs:xw3 i):PE X (.Subscript o i pos) (ws7 td ty):=⟨by
 intro pins s σ H Q I h
 refine wa6 PySem.F.slot_dict_getitem.lookup hs (thn (ho pins s σ H _ I h) fun u s1 ⟨x,H1,I1,rx,q1⟩=>thn (hi pins s1 σ H1 _ I1 q1) fun iv s2 ⟨y,H2,I2,ry,a,v,ex,g,q2⟩=> ?_)
 subst ex
 obtain rfl:u=Value.ref a:=rx
 exact⟨yo1 I2 g,xe0 hu I2 g ry fun w' s3 I3 rw'=>⟨v,H2,I3,rw',q2⟩⟩⟩
theorem xe2(hu:X.A.units+1<cLine)(hi:PE X i ty)(ho:PE X o td):PC X .NotIn i o (wf5 ty td):=by
 intro pins s σ H Q I h
 refine thn (hi pins s σ H _ I h) fun iv s1 ⟨y,H1,I1,ry,q1⟩=>thn (ho pins s1 σ H1 _ I1 q1) fun u s2 ⟨x,H2,I2,rx,a,ov,ex,g,q2⟩=> ?_
 subst ex
 obtain rfl:u=Value.ref a:=rx
 exact wa4 hu I2 g ry fun s3 I3=>⟨.bl (!ov.isSome),H2,I3,rfl,q2⟩
theorem wa8(hu:X.A.units+1<cLine)(ho:PE X o td)(hi:PE X i ty)(hv:PE X value tv)(hs:swapsWith value (some (.Subscript o i pos')) pos.line X.env=pure false):
  PS X (.Assign [.Subscript o i pos'] value pos) (ws8 td ty tv):=⟨by
 intro pins s σ H D I h
 refine wpAny_Assign_Subscript (thn (hv pins s σ H _ I h) fun r s1 ⟨v,H1,I1,rv,q1⟩=>thn (ho pins s1 σ H1 _ I1 q1) fun u s2 ⟨x,H2,I2,rx,q2⟩=>thn (hi pins s2 σ H2 _ I2 q2) fun iv s3 ⟨y,H3,I3,ry,a,H4,ex,g,q3⟩=> ?_) hs
 subst ex
 obtain rfl:u=Value.ref a:=rx
 exact xe1 hu I3 g ry rv fun s4 I4=>⟨σ,H4,I4,q3⟩⟩
end
theorem xp6{P:Program}{w:World}{H:Hp}(h:Heap)(hb:sysModules<h.objs.size):eI P w H (h.push {cls:= .type "dict",data:= .dict #[]}) h.objs.size (.dK []):=
 ⟨ZL _,Yb.mpr (Y8 (ZF hb)),[],.nil,Heap.DictOf.new h⟩
def wn7:TE:=fun _ H Q=>∀p,H p=none->Q (.ref p) (upd H p (.dK []))
section
variable{X:Cx}{pos:Pos}
theorem xp7:PE X (.Dict [] [] pos) wn7:=⟨fun pins s σ H Q I h=>
 wpAny_Dict_empty ⟨.ref s.heap.objs.size,_,I.laid (a:=s.heap.objs.size) (o:= .dK []) (t':=s.toks) (fun _ _ q=>Zf _ q) (Z7 _) (xp6 s.heap I.big),rfl,h _ (I.hok.fresh (Z7 _))⟩⟩
end
def IsD(H:Hp)(a:Addr):Prop:=(∃kvs,Rd H a (.dK kvs))\/∃kvs,Rd H a (.dT kvs)
theorem wi4{X:Cx}{pins:tzB}{σ:St}{H:Hp}{s:Shared}{a:Addr}(I:Inv X pins σ H s)(d:IsD H a):
  s.TypeIs (.ref a) "dict"/\(∀b,Value.ref a= .ref b->∃ob,s.heap.get? b=some ob/\ob.dict=none)/\(a==sysModules)=false:=by
 rcases d with ⟨kvs,e⟩|⟨kvs,e⟩
 ·obtain⟨_,hd,vs,_,dd⟩:=xW I.hok e
  refine⟨dd.typeIs,fun b q=> ?_,hd⟩
  cases q
  obtain⟨ob,_,_,h1,h2,_⟩:=dd
  exact⟨ob,h1,h2.2.1⟩
 ·obtain⟨_,hd,xs,_,dd⟩:=zm1 I.hok e
  refine⟨dd.typeIs,fun b q=> ?_,hd⟩
  cases q
  obtain⟨ob,_,_,h1,h2,_⟩:=dd
  exact⟨ob,h1,h2.2.1⟩
structure Dn(K:tz0)(mg:tzA)(x:Str)(st:Stmt)(ps:List Str)(f:Addr)(fd:FuncData):Prop where
 F:Fun K x x st f fd
 b:lS K fd ps []
 m:mg x=some (.ref f)
section
variable{X:Cx}{x:Str}{st:Stmt}{ps:List Str}{f:Addr}{fd:FuncData}{k:Nat}{sp:Sp}{p pos:Pos}{e:Expr}{es:List Expr}{t:TA}
theorem yv8(D:Dn X.K X.mg x st ps f fd)(G:FnOk X.prog X.w X.K X.mg X.base CX0 k f fd ps sp)(hr:Room k X.A)(hg:Gl X x)(ha:PA X (e::es) t)
  (hdb:NDb x:=by decide) (he:StE e es X:=by rfl) (hpl:BkE pos es X:=by rfl):
  PE X (.Call (.Name x p) (e::es) [] pos) (yd6 sp [] E0 t):=yq0 G hr hg D.m D.F.kp D.b .nil zf5 ha hdb he hpl
theorem wi5(D:Dn X.K X.mg x st ps f fd)(G:FnOk X.prog X.w X.K X.mg X.base CX0 k f fd ps sp)(hr:Room k X.A)(hg:Gl X x)
  (hdb:NDb x:=by decide):PE X (.Call (.Name x p) [] [] pos) (yd6 sp [] E0 xa2):=xo8 G hr hg D.m D.F.kp D.b .nil zf5 hdb
end
theorem xp8{H:Hp}{p:Addr}(h:H p=none)(o:HO):xa3 H (upd H p o):=fun b u q=>by rw [bR (nC q h)];exact q
theorem yd0{n:Nat}(h:n<=1000):n<=sizeLine:=YZ (vI h)
section
variable{X:Cx}
theorem zx3:∀{bs:List Bool} {us:List Value},bW (bs.map V.bl) us->LSm.BoolsAre us bs
 |[],_,.nil=> .nil
 |b::bs,_,.cons r t=>by
  cases(show _=Value.bool b from r)
  exact .cons b (zx3 t)
theorem xX:∀{ns:List Int} {us:List Value},bW (ns.map V.int) us->IntsAre us ns
 |[],_,.nil=> .nil
 |n::ns,_,.cons r t=>by
  obtain⟨k,rfl⟩:=r
  exact .cons n k (xX t)
theorem xe3(hc:X.calm=true):CallR X (.builtin "all") (fun xs H Q=>∃(a:Addr) (bs:List Bool),xs=[.ref a]/\SqL X.K H a (bs.map V.bl)/\Q (.bl (bs.all id)) H):=⟨by
 intro pins s σ H xs us Q I r h
 obtain⟨a,bs,rfl,hq,q⟩:=h
 obtain⟨u,rfl,rx⟩:=oG r
 cases(show u=Value.ref a from rx)
 obtain⟨its,rv,p,hz⟩:=I.list hq
 have hl:=p.isList
 have hb:=zx3 rv
 have hlt:a<s.heap.objs.size:=by obtain⟨_,e,_⟩:=hl;exact Zm e
 refine call_all_walk (wpAny_pyIter_list hl ?_)
 refine⟨s.heap.objs.size,[s.heap.objs.size,a],[s.heap.objs.size],its.toArray.size,_,_,fun i=>(bs[i]?).getD true,rfl,Walks.list (A:=X.A.in1) (I.ok.hd hc) _ a (ZF hlt) its.toArray,
  ⟨⟨_,Zw _ rfl,rfl,rfl⟩,hl.push _⟩,fun i v s' Q' E' hP hQ=> ?_,fun h' tk hk=> ?_⟩
 ·obtain⟨b,e,rfl⟩:=hb.get i v (by simpa using hP)
  simp only [e,Option.getD_some] at hQ
  exact Y3 hQ
 ·have e:((List.range its.toArray.size).all fun i=>(bs[i]?).getD true)=bs.all id:=by
   rw [Zl,hb.length];exact LSm.range_all bs
  rw [e]
  exact⟨.bl (bs.all id),H,I.kept (LSm.kept_iter hk),rfl,q⟩⟩
theorem xe4(hc:X.calm=true):CallR X (.builtin "sum") (fun xs H Q=>∃(a:Addr) (ns:List Int),xs=[.ref a]/\SqL X.K H a (ns.map V.int)/\Q (.int ns.sum) H):=⟨by
 intro pins s σ H xs us Q I r h
 obtain⟨a,ns,rfl,hq,q⟩:=h
 obtain⟨u,rfl,rx⟩:=oG r
 cases(show u=Value.ref a from rx)
 obtain⟨its,rv,p,hz⟩:=I.list hq
 have hi:=xX rv
 obtain⟨xs,hx⟩:=hi.allInts.items
 have hl':s.heap.IsList a (intItems xs):=hx▸p.isList
 refine sum_intListG (I.ok.hd hc) hl' fun h' tk t' hk=> ?_
 have e1:ns=xs.toList.map (·.1):=by
  rw [<-nums_intItems,<-hx]
  exact(show numsOf its.toArray.toList=ns from hi.numsOf).symm
 have e2:preSum (numAt xs) xs.size=ns.sum:=by
  rw [preSum_eq,W2 (by simp),e1]
 rw [e2]
 exact⟨.int ns.sum,H,I.kept hk,⟨_,rfl⟩,q⟩⟩
theorem xe5(hc:X.calm=true):CallR X (.builtin "max") (fun xs H Q=>∃(a:Addr) (ns:List Int),xs=[.ref a]/\SqL X.K H a (ns.map V.int)/\0<ns.length/\∀m,m∈ns->(∀n∈ns,n<=m)->Q (.int m) H):=⟨by
 intro pins s σ H xs us Q I r h
 obtain⟨a,ns,rfl,hq,hne,q⟩:=h
 obtain⟨u,rfl,rx⟩:=oG r
 cases(show u=Value.ref a from rx)
 obtain⟨its,rv,p,hz⟩:=I.list hq
 have hi:=xX rv
 obtain⟨xs,e⟩:=hi.allInts.items
 have hns:ns=xs.toList.map (·.1):=by
  rw [<-hi.numsOf,<-nums_intItems,<-e]
 have hsz:0<xs.size:=by
  have h3:=hne;rw [hns,Zd,ZZ] at h3;exact h3
 have hl':s.heap.IsList a (intItems xs):=e▸p.isList
 refine max_intList (I.ok.hd hc) hl' hsz fun v h' tk hv hk=> ?_
 obtain⟨t,rfl⟩:=intItems_at hv
 obtain⟨h1,h2⟩:=argBest_gt (numAt xs) (xs.size-1)
 refine⟨.int _,H,I.kept hk,⟨t,rfl⟩,q _ ?_ fun b hb=> ?_⟩
 ·rw [hns,numAt_eq];exact getD_mem (by rw [Zd,ZZ];omega)
 ·rw [hns] at hb
  obtain⟨j,hj,rfl⟩:=mem_getD hb
  rw [Zd,ZZ] at hj
  rw [<-numAt_eq];exact h2 j (by omega)⟩
end
theorem xY{env:Env}:∀(names:List (Str×NameKind)) (cs:List (Str×Addr)),
  (∀y∈names,y.2= .free->∃c,env.cells.lookup y.1=some c)->(∀x c,cs.lookup x=some c->env.cells.lookup x=some c)->
  ∃ cl,(forIn names cs fun(y:Str×NameKind) (r:List (Str×Addr))=>
    (if (y.2== .free)=true then(do let a<-cellOf env y.1;pure (ForInStep.yield ((y.1,a)::r))) else pure (ForInStep.yield r):Sem (ForInStep (List (Str×Addr)))))=pure cl/\
   (∀x c,cl.lookup x=some c->env.cells.lookup x=some c)/\(∀x c,cs.lookup x=some c->∃c',cl.lookup x=some c')/\(∀y∈names,y.2= .free->∃c,cl.lookup y.1=some c)
 |[],cs,_,hc=>⟨cs,rfl,hc,fun x c h=>⟨c,h⟩,fun y hy=>absurd hy (ZJ)⟩
 | (n,k)::r,cs,hn,hc=>by
  have hr:∀y∈r,y.2= .free->∃c,env.cells.lookup y.1=some c:=fun y hy=>hn y (Z1 _ hy)
  by_cases hk:k= .free
  ·subst hk
   obtain⟨c,e⟩:=hn (n,.free) Z0 rfl
   have hc':∀x c',((n,c)::cs).lookup x=some c'->env.cells.lookup x=some c':=fun x c' h=>by
    rw [ZA] at h
    cases hx:x==n with
    |true=>
     rw [hx] at h
     have e1:x=n:=by simpa using hx
     have e2:c=c':=ZD h
     rw [e1,<-e2];exact e
    |false=>rw [hx] at h;exact hc x c' h
   obtain⟨cl,h1,h2,h3,h4⟩:=xY (env:=env) r ((n,c)::cs) hr hc'
   refine⟨cl,?_,h2,fun x c' h=> ?_,fun y hy hf=> ?_⟩
   ·rw [List.forIn_cons]
    have e0:cellOf env n=pure c:=by unfold cellOf;rw [e]
    simp only [e0]
    exact h1
   ·cases hx:x==n with
    |true=>
     have e1:x=n:=by simpa using hx
     exact h3 x c (by rw [ZA,hx])
    |false=>exact h3 x c' (by rw [ZA,hx];exact h)
   ·rcases Z5.mp hy with e1|hy
    ·rw [e1];exact h3 n c (by rw [ZA];simp)
    ·exact h4 y hy hf
  ·obtain⟨cl,h1,h2,h3,h4⟩:=xY (env:=env) r cs hr hc
   refine⟨cl,?_,h2,h3,fun y hy hf=> ?_⟩
   ·rw [List.forIn_cons]
    have e0:(k==NameKind.free)=false:=by simpa using hk
    simp only [e0]
    exact h1
   ·rcases Z5.mp hy with e1|hy
    ·rw [e1] at hf;exact absurd hf hk
    ·exact h4 y hy hf
theorem yv9{env:Env}{scope:Scope}(h:∀y∈scope.names,y.2= .free->∃c,env.cells.lookup y.1=some c):
  ∃cl,closureFor scope env=pure cl/\(∀x c,cl.lookup x=some c->env.cells.lookup x=some c)/\(∀y∈scope.names,y.2= .free->∃c,cl.lookup y.1=some c):=by
 obtain⟨cl,h1,h2,_,h4⟩:=xY (env:=env) scope.names [] h (fun x c e=>by simp at e)
 refine⟨cl,?_,h2,h4⟩
 have e:((forIn scope.names [] fun(y:Str×NameKind) (r:List (Str×Addr))=>
    (if (y.2== .free)=true then(do let a<-cellOf env y.1;pure (ForInStep.yield ((y.1,a)::r))) else pure (ForInStep.yield r):Sem (ForInStep (List (Str×Addr)))))>>=fun s=>pure s)=pure cl:=by rw [h1];rfl
 exact e
structure CScope(sc:Scope)(NX N:List Str)(pick:List (Option Nat))(scope:Scope):Prop where
 kind:scope.kind= .function
 nocell:∀y∈scope.names,y.2≠ .cell
 names:∀y∈scope.names,y.2= .local->scope.names.lookup y.1=some .local
 frees:∀y∈scope.names,y.2= .free->sc.names.lookup y.1=some .cell\/sc.names.lookup y.1=some .free
 pk:∀p∈N.zip pick,∀j∈p.2,NX[j]? =some p.1/\scope.names.lookup p.1=some .free
 nd:N.Nodup
 len:pick.length=N.length
def sY(pick:List (Option Nat))(σ:St):St:=pick.map fun o=>o.bind fun j=>(σ[j]?).join
def cxB(X:Cx)(N:List Str)(scope:Scope)(cl:List (Str×Addr))(fp:List Addr)(s:Shared)(H:Hp):Cx where
 prog:=X.prog
 w:=X.w
 K:=X.K
 mg:=X.mg
 base:=X.base
 A:=X.A
 N:=N
 s₀:=s
 H₀:=H
 env:=compEnvC scope cl s.heap.objs.size X.env
 outer:=X.stack
 stack:=X.stack
 ex:=fp
 fn:=fun _=>false
 calm:=X.calm
 pn:=[]
 xe:=fun _ _=>False
def wn8(X:Cx)(ifs:List Expr)(t:TT):Prop:=
 ∀(pins:tzB) (s:Shared) (σ:St) (H:Hp) (Q:Bool->Hp->Prop),Inv X pins σ H s->t σ H Q->
  wpAny (model X.prog X.w) X.A (forIn ifs true fun c r=>if r=true then do let ok<-isTrue c X.env (eval c X.env);pure (ForInStep.yield ok) else pure (ForInStep.yield r)) (TP X pins σ Q) X.xe s
structure PTs(X:Cx)(ifs:List Expr)(t:TT):Prop where
 go:wn8 X ifs t
instance {X:Cx} {ifs:List Expr} {t:TT}:CoeFun (PTs X ifs t) fun _=>wn8 X ifs t:=⟨PTs.go⟩
def ww1:TT:=fun _ H Q=>Q true H
theorem wi6{X:Cx}:PTs X [] ww1:=⟨fun pins s σ H Q I h=>wpAny_tests_nil ⟨H,I,h⟩⟩
section
variable{prog:Program}{w:World}{A:Around}{R:Result->Shared->Prop}{s:Shared}
theorem xe6{elt target iter:Expr}{ifs:List Expr}{scope:Scope}{pos:Pos}{it acc:Value}{env:Env}(I:Nat->Shared->Prop)
  (turn:∀n s,I n s->wpAny (model prog w) A (pyNext it) (fun r s1=>match r with
   |none=>R (.ok .next) s1
   | some v=>wpAny (model prog w) A (letOwnedTupleGo target it v) (fun _ s1=>wpAny (model prog w) A (assign target env v) (fun _ s2=>
     wpAny (model prog w) A (forIn ifs true fun c r=>if r=true then do let ok<-isTrue c env (eval c env);pure (ForInStep.yield ok) else pure (ForInStep.yield r)) (fun ok s3=>
      if ok=true then wpAny (model prog w) A (eval elt env) (fun x s4=>
       wpAny (model prog w) A (call (.builtin "list.append") [acc,x]) (fun _ s5=>∃m,m<n/\I m s5) (fun _ _=>False) s4) (fun _ _=>False) s3
      else ∃m,m<n/\I m s3) (fun _ _=>False) s2) (fun _ _=>False) s1) (fun _ _=>False) s1) (fun _ _=>False) s)
  (n:Nat) (h:I n s):codeAny (model prog w) A (.compLoop (.ListComp elt [⟨target,iter,ifs,0⟩] scope pos) 0 it acc env) R s:=by
 refine codeAny_loop rfl I (fun n s hI=> ?_) n h
 show wpAny _ A ((compTurn (.ListComp elt [⟨target,iter,ifs,0⟩] scope pos) 0 it acc env).onRaise (fun x=>do noteFrame x env;theTreesLotGoes x)) _ _ s
 refine wpAny_noted ?_
 rw [compTurn_list]
 refine Zj (Wo (Zj (ZW (turn n s hI) (fun r s1 h1=> ?_) fun _ _ z=>z.elim)))
 cases r with
 |none=>exact ZI h1
 | some v=>
  refine Zj (ZW h1 (fun _ s1 h1=>Zj (ZW h1 (fun _ s2 h2=>Zj (ZW h2 (fun ok s3 h3=> ?_) fun _ _ z=>z.elim)) fun _ _ z=>z.elim)) fun _ _ z=>z.elim)
  cases ok with
  |false=>exact ZI ⟨rfl,h3⟩
  |true=>
   exact Zj (Zj (ZW h3 (fun x s4 h4=>Zj (ZW h4 (fun _ s5 h5=>ZI (ZI ⟨rfl,h5⟩)) fun _ _ z=>z.elim)) fun _ _ z=>z.elim))
end
def wn9(pick:List (Option Nat))(wi:TI)(g:TG)(tt:TT)(te:TE)(σ:St)(H:Hp)(Q:Addr->Hp->Prop):Prop:=wi σ H fun J H1=>∀D,H1 D=none->
 ∃ W:Nat->Nat->St->Hp->Prop,(∃m,W 0 m (sY pick σ) (upd H1 D (.lst [])))/\∀i m σ' H',W i m σ' H'->
  (J.stop i H'/\Q D H')\/(J.go i H'/\∀x H2,J.yld i H' x H2->g x σ' H2 fun σ3 H3=>tt σ3 H3 fun b H4=>
   if b=true then te σ3 H4 fun y H5=>∃ys,H5 D=some (.lst ys)/\ys.length<sizeLine/\∃m',m'<m/\W (i+1) m' σ3 (upd H5 D (.lst (ys++[y]))) else ∃m',m'<m/\W (i+1) m' σ3 H4)
def ws9(pick:List (Option Nat))(wi:TI)(g:TG)(tt:TT)(te:TE):TE:=fun σ H Q=>wn9 pick wi g tt te σ H fun D H'=>Q (.ref D) H'
section
variable{X:Cx}{sc:Scope}{NX N:List Str}{pick:List (Option Nat)}{elt tg iter:Expr}{ifs:List Expr}{scope:Scope}{pos:Pos}{wi:TI}{g:TG}{tt:TT}{te:TE}
theorem jC{env:Env}:∀{names:List (Str×NameKind)} {x:Str} {k:NameKind},(∀y∈names,y.2≠ .cell)->
  (names.map fun(n,k)=>if (k==NameKind.free&&env.scope.kind== .function&&env.kindOf n==some .cell) then(n,NameKind.cell) else(n,k)).lookup x=some k->(k= .cell\/k= .free)->(x,NameKind.free)∈names
 |[],_,_,_,h,_=>by simp at h
 | (n,k0)::r,x,k,hn,h,hk=>by
  have hr:∀y∈r,y.2≠ .cell:=fun y hy=>hn y (Z1 _ hy)
  have h':List.lookup x ((if (k0==NameKind.free&&env.scope.kind== .function&&env.kindOf n==some .cell)=true then(n,NameKind.cell) else(n,k0))::(r.map fun(n,k)=>if (k==NameKind.free&&env.scope.kind== .function&&env.kindOf n==some .cell) then(n,NameKind.cell) else(n,k)))=some k:=h
  by_cases hc:(k0==NameKind.free&&env.scope.kind== .function&&env.kindOf n==some .cell)=true
  ·rw [if_pos hc,ZA] at h'
   cases hx:x==n with
   | true=>
    have e1:x=n:=by simpa using hx
    have e2:k0= .free:=by
     simp only [Zx,YI] at hc
     exact hc.1.1
    rw [e1,e2];exact Z0
   |false=>rw [hx] at h';exact Z1 _ (jC hr h' hk)
  ·rw [if_neg hc,ZA] at h'
   cases hx:x==n with
   | true=>
    rw [hx] at h'
    have e1:x=n:=by simpa using hx
    have e2:k0=k:=ZD h'
    have e3:k0= .free:=by
     rcases hk with z|z
     ·exact absurd (e2.trans z) (hn (n,k0) Z0)
     ·exact e2.trans z
    rw [e1,e3];exact Z0
   |false=>rw [hx] at h';exact Z1 _ (jC hr h' hk)
theorem vJ{env:Env}:∀{names:List (Str×NameKind)} {x:Str},names.lookup x=some .free->
  (names.map fun(n,k)=>if (k==NameKind.free&&env.scope.kind== .function&&env.kindOf n==some .cell) then(n,NameKind.cell) else(n,k)).lookup x=some .cell\/
  (names.map fun(n,k)=>if (k==NameKind.free&&env.scope.kind== .function&&env.kindOf n==some .cell) then(n,NameKind.cell) else(n,k)).lookup x=some .free
 |[],_,h=>by simp at h
 | (n,k0)::r,x,h=>by
  have ih:= @vJ env r x
  show List.lookup x ((if (k0==NameKind.free&&env.scope.kind== .function&&env.kindOf n==some .cell)=true then(n,NameKind.cell) else(n,k0))::_)=_\/List.lookup x ((if (k0==NameKind.free&&env.scope.kind== .function&&env.kindOf n==some .cell)=true then(n,NameKind.cell) else(n,k0))::_)=_
  rw [ZA] at h
  cases hx:x==n with
  |true=>
   rw [hx] at h
   have e:k0= .free:=ZD h
   subst e
   by_cases hc:(NameKind.free==NameKind.free&&env.scope.kind== .function&&env.kindOf n==some .cell)=true
   ·rw [if_pos hc];left;rw [ZA,hx]
   ·rw [if_neg hc];right;rw [ZA,hx]
  | false=>
   rw [hx] at h
   rcases ih h with z|z
   ·left
    by_cases hc:(k0==NameKind.free&&env.scope.kind== .function&&env.kindOf n==some .cell)=true
    ·rw [if_pos hc,ZA,hx];exact z
    ·rw [if_neg hc,ZA,hx];exact z
   ·right
    by_cases hc:(k0==NameKind.free&&env.scope.kind== .function&&env.kindOf n==some .cell)=true
    ·rw [if_pos hc,ZA,hx];exact z
    ·rw [if_neg hc,ZA,hx];exact z
theorem xe7{pins:tzB}{σ:St}{H:Hp}{s:Shared}{cl:List (Str×Addr)}{fp:List Addr}{h':Heap}{tk:Nat}(S:CScope sc NX N pick scope)(hsc:X.env.scope=sc)(hNX:X.N=NX)
  (I:Inv X pins σ H s) (hf:∀b∈fp,pN X pins H b) (ho:∀b∈fp,∃o,s.heap.get? b=some o)
  (c1:∀x c,cl.lookup x=some c->X.env.cells.lookup x=some c) (c2:∀y∈scope.names,y.2= .free->∃c,cl.lookup y.1=some c)
  (hns:h'.Ns s.heap.objs.size fun _=>none) (hk:∀b o,s.heap.get? b=some o->h'.get? b=some o):
  Inv (cxB X N scope cl fp s H) [] (sY pick σ) H {s with heap:=h',toks:=tk}:=by
 have lt:∀b∈fp,b<s.heap.objs.size:=fun b hb=>by obtain⟨o,e⟩:=ho b hb;exact Zm e
 refine⟨⟨I.ok.mod,S.kind,I.ok.glob,I.ok.blt,Z7 _,fun x y c h1 h2=>I.ok.inj x y c (c1 x c h1) (c1 y c h2),fun x hx=> ?_,fun x c z=>absurd z (by simp [cxB]),I.ok.hd,I.ok.frames,.inl rfl,
  fun b hb=>⟨ZF (lt b hb),fun x c e=>(hf b hb).2.2.2.2.1 x c (c1 x c e)⟩,I.bs,Zr I.ok.bsz I.sz,fun b o e hb=> ?_,fun b hb z=> ?_,I.stack,I.stkFree⟩,
  rfl,I.bare,Un.kept hk,⟨_,hns,fun i x v h1 h2 h3=> ?_⟩,fun x c e=> ?_,I.hok.fresh (Z7 _),fun x c e=>I.freeC x c (c1 x c e),fun p hp=>absurd (show p∈([]:tzB) from hp) (by simp),I.hok.kept hk,?_⟩
 ·have hx':(relabel scope X.env).names.lookup x=some .cell\/(relabel scope X.env).names.lookup x=some .free:=hx
  have hm:(x,NameKind.free)∈scope.names:=by
   rcases hx' with z|z
   ·exact jC S.nocell z (.inl rfl)
   ·exact jC S.nocell z (.inr rfl)
  exact c2 _ hm rfl
 ·rcases(hf b hb).2.2.2.1 with z|z
  ·exact I.ok.noex b o e z
  ·exact absurd (Zz (Zm e) (Zr I.ok.bsz z)) (Y5 _)
 ·rcases Z5.mp (I.stkSub b z) with z|z
  ·exact(hf b hb).2.1 z
  ·exact(hf b hb).2.2.1 z
 ·
  have hN':N[i]? =some x:=h1
  have h2':(sY pick σ)[i]? =some (some v):=h2
  unfold sY at h2'
  rw [Zc] at h2'
  cases ep:pick[i]? with
  |none=>rw [ep] at h2';cases h2'
  | some o=>
   rw [ep] at h2'
   cases o with
   |none=>cases h2'
   | some j=>
    have h4:(σ[j]?).join=some v:=ZD h2'
    have h5:σ[j]? =some (some v):=by
     cases e:σ[j]? with
     |none=>rw [e] at h4;cases h4
     |some q=>rw [e] at h4;exact ZV some h4
    have hz:(x,some j)∈N.zip pick:=by
     refine ZG (i:=i) ?_
     rw [List.getElem?_zip_eq_some];exact⟨hN',ep⟩
    obtain⟨h6,h7⟩:=S.pk _ hz j rfl
    have hfr:(x,NameKind.free)∈scope.names:=Yd h7
    have hcf:=S.frees _ hfr rfl
    have hcf':X.env.kindOf x=some .cell\/X.env.kindOf x=some .free:=by
     show X.env.scope.names.lookup x=_\/X.env.scope.names.lookup x=_
     rw [hsc];exact hcf
    obtain⟨m,hn,hl⟩:=I.loc
    obtain⟨u,ru,lk⟩:=hl j x v (by rw [hNX];exact h6) h5 (.inr hcf')
    refine⟨u,ru,.inr ⟨vJ h7,?_⟩⟩
    obtain⟨c,ec⟩:=c2 _ hfr rfl
    refine⟨c,ec,?_⟩
    rcases lk with ⟨k1,_⟩|⟨_,c',ec',hcell⟩
    ·rcases hcf' with z|z
     ·rw [k1] at z;cases z
     ·rw [k1] at z;cases z
    ·have e':=c1 x c ec
     rw [ec'] at e'
     cases e'
     obtain⟨o,e1,e2⟩:=hcell
     exact⟨o,hk _ _ e1,e2⟩
 ·obtain⟨v,o,e1,e2⟩:=I.cell x c (c1 x c e)
  exact⟨v,o,hk _ _ e1,e2⟩
 ·show(sY pick σ).length=N.length
  unfold sY
  rw [Zd];exact S.len
theorem yw0{pins:tzB}{σ σ':St}{H H':Hp}{s s':Shared}{cl:List (Str×Addr)}{fp:List Addr}(I:Inv X pins σ H s)(hf:∀b∈fp,pN X pins H b)
  (J:Inv (cxB X N scope cl fp s H) [] σ' H' s'):Inv X pins σ H' s':=
 I.call' (ch:=fp) J.os J.base J.hok J.bare fun b hb=>⟨(hf b hb).2.2.2.1,(hf b hb).2.1,(hf b hb).2.2.2.2.1,(hf b hb).2.2.2.2.2⟩
theorem yw1{pins:tzB}{σ:St}{H2:Hp}{s2:Shared}{cl:List (Str×Addr)}{J:It}{fp:List Addr}{it:Addr}{tn:Nat->Heap->Prop}{RR:Value->Addr->Result->Shared->Prop}{E:Value->Shared->Prop}{Q:Addr->Hp->Prop}
  (S:CScope sc NX N pick scope) (hsc:X.env.scope=sc) (hNX:X.N=NX) (hc:X.calm=true)
  (hg:∀cl fp s H,PG (cxB X N scope cl fp s H) tg g) (ht:∀cl fp s H,PTs (cxB X N scope cl fp s H) ifs tt) (he:∀cl fp s H,PE (cxB X N scope cl fp s H) elt te)
  (I2:Inv X pins σ H2 s2) (T:Turn X.prog X.w X.K tg J fp it tn) (st2:tn 0 s2.heap) (f2:∀b∈fp,pN X pins H2 b)
  (c1:∀x c,cl.lookup x=some c->X.env.cells.lookup x=some c) (c2:∀y∈scope.names,y.2= .free->∃c,cl.lookup y.1=some c)
  (q:∀D,H2 D=none->∃W:Nat->Nat->St->Hp->Prop,(∃m,W 0 m (sY pick σ) (upd H2 D (.lst [])))/\∀i m σ' H',W i m σ' H'->
   (J.stop i H'/\Q D H')\/(J.go i H'/\∀x H2,J.yld i H' x H2->g x σ' H2 fun σ3 H3=>tt σ3 H3 fun b H4=>
    if b=true then te σ3 H4 fun y H5=>∃ys,H5 D=some (.lst ys)/\ys.length<sizeLine/\∃m',m'<m/\W (i+1) m' σ3 (upd H5 D (.lst (ys++[y]))) else ∃m',m'<m/\W (i+1) m' σ3 H4))
  (fin:∀D C H' s',Inv X pins σ H' s'->H' C=none->X.s₀.heap.objs.size<=C->C≠X.env.locals->(∀x c,X.env.cells.lookup x=some c->c≠C)->(∀p∈X.pn++pins,p.1≠C)->(∃m,s'.heap.Ns C m)->Q D H'->RR (.ref D) C (.ok .next) s'):
  wpAny (model X.prog X.w) X.A (newList []) (fun acc s3=>wpAny (model X.prog X.w) X.A (newFunctionEnv scope X.env.globals cl [] X.env.qual none .none (some X.env)) (fun cenv s4=>
   codeAny (model X.prog X.w) X.A (.compStart (.ListComp elt [⟨tg,iter,ifs,0⟩] scope pos) 0 (.ref it) acc {cenv with scope:=relabel scope X.env}) (RR acc cenv.locals) s4) E s3) E s2:=by
 have hD:H2 s2.heap.objs.size=none:=I2.hok.fresh (Z7 _)
 obtain⟨W,⟨m0,w0⟩,turn⟩:=q _ hD
 refine wpAny_newObj_type (wpAny_newFunctionEnv S.nocell (by intro y hy;simp at hy) (fun h1 hns hsb=> ?_) S.kind)
 have I3:Inv X pins σ (upd H2 s2.heap.objs.size (.lst [])) {s2 with heap:=s2.heap.push {cls:= .type "list",dict:=none,data:= .seq ([]:List Value).toArray}}:=
  I2.lnew (t':=s2.toks) (its:=[]) (ys:=[]) .nil (ZL _)
 have ne:∀b∈fp,b≠s2.heap.objs.size:=fun b hb z=>by
  obtain⟨o,e,_⟩:=T.obj _ _ st2 b hb
  exact absurd (Zm e) (by rw [z];exact Y5 _)
 have f3:∀b∈fp,pN X pins (upd H2 s2.heap.objs.size (.lst [])) b:=fun b hb=>⟨by rw [bR (ne b hb)];exact(f2 b hb).1,(f2 b hb).2⟩
 have ho3:∀b∈fp,∀o,s2.heap.get? b=some o->(s2.heap.push {cls:= .type "list",dict:=none,data:= .seq ([]:List Value).toArray}).get? b=some o:=fun b _ o e=>Zf _ e
 have st3:=T.keep _ _ _ st2 ho3
 generalize hH3:s2.heap.push {cls:= .type "list",dict:=none,data:= .seq ([]:List Value).toArray}=H3 at hns hsb I3 ho3 st3|-
 dsimp only at hns hsb|-
 have hk:∀b o,H3.get? b=some o->h1.get? b=some o:=fun b o e=>hsb.extBut b o (ZF (Zm e)) (Zf _ e)
 have B0:Inv (cxB X N scope cl fp {s2 with heap:=H3} (upd H2 s2.heap.objs.size (.lst []))) [] (sY pick σ) (upd H2 s2.heap.objs.size (.lst [])) {s2 with heap:=h1,toks:=s2.toks+([]:List (Str×Value)).length}:=
  xe7 (s:={s2 with heap:=H3}) S hsc hNX I3 f3 (fun b hb=>by obtain⟨o,e,_⟩:=T.obj _ _ st3 b hb;exact⟨o,e⟩) c1 c2 hns hk
 have st4:tn 0 h1:=T.keep _ _ _ st3 fun b _ o e=>hk b o e
 have fpY:∀{H':Hp},(∀b∈fp,H' b=none)->∀b∈fp,pN (cxB X N scope cl fp {s2 with heap:=H3} (upd H2 s2.heap.objs.size (.lst []))) [] H' b:=fun hn b hb=>
  ⟨hn b hb,(B0.ok.exf b hb).1,B0.ok.exfs b hb,.inl hb,(B0.ok.exf b hb).2,fun p hp=>absurd (show p∈([]:tzB) from hp) (by simp)⟩
 have loop:∀s4:Shared,s4={s2 with heap:=h1,toks:=s2.toks+([]:List (Str×Value)).length}->
   codeAny (model X.prog X.w) X.A (.compLoop (.ListComp elt [⟨tg,iter,ifs,0⟩] scope pos) 0 (.ref it) (.ref s2.heap.objs.size) (compEnvC scope cl H3.objs.size X.env)) (RR (.ref s2.heap.objs.size) H3.objs.size) s4:=by
  rintro s4 rfl
  refine xe6 (fun n s'=>∃i σ' H',Inv (cxB X N scope cl fp {s2 with heap:=H3} (upd H2 s2.heap.objs.size (.lst []))) [] σ' H' s'/\tn i s'.heap/\(∀b∈fp,H' b=none)/\W i n σ' H') ?_ m0
   ⟨0,_,_,B0,st4,fun b hb=>(f3 b hb).1,w0⟩
  rintro n s5 ⟨i,σ5,H5,I5,st5,fr5,w5⟩
  rcases turn i n σ5 H5 w5 with ⟨stop,qn⟩|⟨go,step⟩
  ·refine thn (T.done (cxB X N scope cl fp {s2 with heap:=H3} (upd H2 s2.heap.objs.size (.lst []))) rfl rfl rfl hc i [] s5 σ5 H5 _ I5 (fpY fr5) st5 stop) fun r s6 ⟨hr,I6⟩=> ?_
   subst hr
   obtain⟨m,hm,_⟩:=I6.loc
   have sz:X.s₀.heap.objs.size<=H3.objs.size:=I3.sz
   refine fin _ _ H5 s6 (yw0 I3 f3 I6) I6.free sz (XZ I3.lt) (fun x c e z=> ?_) (fun p hp z=> ?_) ⟨m,hm⟩ qn
   ·obtain⟨v,z2⟩:=I3.cell x c e
    exact absurd z2.lt (by rw [z];exact Y5 _)
   ·exact absurd (Zm (I3.pin p hp).1) (by rw [z];exact Y5 _)
  ·refine thn (T.item (cxB X N scope cl fp {s2 with heap:=H3} (upd H2 s2.heap.objs.size (.lst []))) rfl rfl rfl hc i [] s5 σ5 H5 _ I5 (fpY fr5) st5 go) fun r s6 ⟨u,hr,h6⟩=> ?_
   subst hr
   refine thn h6 fun _ s7 ⟨x,H7,I7,r7,y7,st7,fr7⟩=> ?_
   have I7':=I7.pinned (fpY fr7) (T.obj _ _ st7)
   have back:∀{σ8:St} {H8:Hp} {s8:Shared},Inv (cxB X N scope cl fp {s2 with heap:=H3} (upd H2 s2.heap.objs.size (.lst []))) ([]++xL fp s7.heap) σ8 H8 s8->
     tn (i+1) s8.heap/\∀b∈fp,H8 b=none:=fun {σ8 H8 s8} I8=>by
    refine⟨T.keep _ _ _ st7 fun b hb o e=>(I8.pin (b,o) (Ze _ (Ze _ (tJ hb e)))).1,fun b hb=> ?_⟩
    obtain⟨o,e,d⟩:=T.obj _ _ st7 b hb
    exact(I8.pin (b,o) (Ze _ (Ze _ (tJ hb e)))).2.1
   refine thn (hg _ _ _ _ _ s7 σ5 H7 x u _ I7' r7 (step x H7 y7)) fun _ s8 ⟨σ8,H8,I8,q8⟩=> ?_
   refine thn (ht _ _ _ _ _ s8 σ8 H8 _ I8 q8) fun ok s9 ⟨H9,I9,q9⟩=> ?_
   cases ok with
   |false=>
    rw [if_neg (by decide)] at q9|-
    obtain⟨m',hm,w9⟩:=q9
    obtain⟨b1,b2⟩:=back I9
    exact⟨m',hm,i+1,σ8,H9,I9.unpinned,b1,b2,w9⟩
   | true=>
    rw [if_pos rfl] at q9|-
    refine thn (he _ _ _ _ _ s9 σ8 H9 _ I9 q9) fun v s10 ⟨y,H10,I10,ry,ys,hys,hlen,m',hm,w10⟩=> ?_
    have ap:=zx0 (X:=cxB X N scope cl fp {s2 with heap:=H3} (upd H2 s2.heap.objs.size (.lst []))) ([]++xL fp s7.heap) s10 σ8 H10 (.ref s2.heap.objs.size) [y] (.ref s2.heap.objs.size) [v]
     (fun z H'=>z= .non/\H'=upd H10 s2.heap.objs.size (.lst (ys++[y]))) I10 rfl (.cons ry .nil) ⟨_,ys,y,rfl,rfl,hys,hlen,rfl,rfl⟩
    refine thn ap fun z s11 ⟨z',H11,I11,_,_,e11⟩=> ?_
    subst e11
    obtain⟨b1,b2⟩:=back I11
    exact⟨m',hm,i+1,σ8,_,I11.unpinned,b1,b2,w10⟩
 exact codeAny_compStart_list (loop _ rfl) (T.self _ _ _ _ _ st4 (loop _ rfl))
theorem wa9(S:CScope sc NX N pick scope)(hsc:X.env.scope=sc)(hNX:X.N=NX)(hc:X.calm=true)(hi:PI X tg iter wi)
  (hg:∀cl fp s H,PG (cxB X N scope cl fp s H) tg g) (ht:∀cl fp s H,PTs (cxB X N scope cl fp s H) ifs tt) (he:∀cl fp s H,PE (cxB X N scope cl fp s H) elt te)
  (hs:∀x,foldedSetIterable iter X.env x=pure x:=by intro _;rfl):PE X (.ListComp elt [⟨tg,iter,ifs,0⟩] scope pos) (ws9 pick wi g tt te):=⟨by
 intro pins s σ H Q I h
 rw [eval_ListComp]
 have hfr:∀y∈scope.names,y.2= .free->∃c,X.env.cells.lookup y.1=some c:=fun y hy hf=>I.ok.has y.1 (by
  show X.env.scope.names.lookup y.1=_\/X.env.scope.names.lookup y.1=_
  rw [hsc];exact S.frees y hy hf)
 obtain⟨cl,hcl,c1,c2⟩:=yv9 hfr
 refine wpAny_comprehension_free (use:=none) rfl hs hcl S.kind S.names (thn (hi pins s σ H _ I h) fun v s1 h1=>thn h1 fun itv s2 h2=> ?_)
 obtain⟨it,fp,tn,J,H2,e,I2,T,st2,f2,q⟩:=h2
 subst e
 refine yw1 (RR:=fun acc C=>compPost (model X.prog X.w) X.A X.xe none (EP X pins σ Q) acc C) (Q:=fun D H'=>Q (.ref D) H') S hsc hNX hc hg ht he I2 T st2 f2 c1 c2 q ?_
 intro D C H' s' I' n1 n2 n3 n4 n5 ⟨m,hm⟩ q'
 exact⟨m,hm,fun h' hb=>⟨.ref D,H',I'.turned (t':=s'.toks) (it:=C) (fun b o hbc e=>(hb.2 b hbc).trans e) n1 n3 (.inr n2) n4 n5,rfl,q'⟩⟩⟩
end
section
variable{X:Cx}{tg:Expr}
theorem zx4:∀(l:List (Str×Tok)),bW ((l.map (·.1)).map V.str) (strValues l)
 |[]=> .nil
 |(x,t)::r=> .cons ⟨t,rfl⟩ (zx4 r)
theorem yg0:∀{ys:List Str} {us:List Value},bW (ys.map V.str) us->StrsAre us ys
 |[],_,.nil=> .nil
 |y::ys,_,.cons r t=>by
  obtain⟨k,rfl⟩:=r
  exact .cons y k (yg0 t)
theorem xp9:MtR X "str.split" (fun x xs H Q=>∃z y,x= .str z/\xs=[.str y]/\(y.length==0)=false/\z.length<1000000/\∀p,H p=none->Q (.ref p) (upd H p (.lst ((Txt.split z y).map V.str)))):=⟨by
 intro pins s σ H x xs v us Q I rx r h
 obtain⟨z,y,rfl,rfl,hy,hz,q⟩:=h
 obtain⟨t,rfl⟩:=rx
 obtain⟨u,rfl,t',rfl⟩:=oG r
 have hs:sizeLine=16777216:=ZP
 have hsz:z.length<=sizeLine:=by omega
 have hoc:=StrLaws.occ_length_le_len z y 0 z.length (z.length+1)
 have hpb:(Builtin.Str.partsBetween z (Builtin.Str.occurrences z y 0 z.length (z.length+1)) y.length).length<=z.length+2:=by
  unfold Builtin.Str.partsBetween
  rw [Zd,List.length_zip]
  simp only [Z6,Zd,Z2,ZX]
  omega
 have hn:H s.heap.objs.size=none:=I.fresh
 have fin:∀(l:List (Str×Tok)) (tk:Nat),l.map (·.1)=Txt.split z y->l.length<=sizeLine->EP X pins σ Q (.ref s.heap.objs.size) {s with heap:=s.heap.push {cls:= .type "list",data:= .seq (strValues l).toArray},toks:=tk}:=fun l tk e hl=>by
  refine⟨.ref s.heap.objs.size,_,I.lnew (t':=tk) (ys:=(l.map (·.1)).map V.str) (zx4 l) (by rw [Zd,Zd];exact hl),rfl,?_⟩
  rw [e];exact q _ hn
 cases h1:(decide (z.length<y.length)||decide (Builtin.Str.strKind z<Builtin.Str.strKind y))
 ·cases hf:(Builtin.Str.occurrences z y 0 z.length (z.length+1)).isEmpty
  ·refine YV XQ (XD _ _ _) XL (XF _ _) (meets_str_split_sep z y t t' h1 hy hf hsz (by omega)) ?_
   show wants _ _ _ {s with toks:=_,heap:=s.heap.push {cls:= .type "list",data:= .seq (strsFrom s.toks (Builtin.Str.partsBetween z (Builtin.Str.occurrences z y 0 z.length (z.length+1)) y.length)).toArray}}
   rw [strsFrom_eq]
   refine fin (numbered s.toks _) _ ((numbered_texts _ _).trans ((if_neg (Xi h1)).trans (if_neg (Xi hf))).symm) ?_
   have e:=ZV List.length (numbered_texts s.toks (Builtin.Str.partsBetween z (Builtin.Str.occurrences z y 0 z.length (z.length+1)) y.length))
   rw [Zd] at e
   omega
  ·exact YV XQ (XD _ _ _) XL (XF _ _) (meets_str_split_not_found z y t t' h1 hy hf) (fin [(z,t)] s.toks ((if_neg (Xi h1)).trans (if_pos hf)).symm (by simp;omega))
 ·exact YV XQ (XD _ _ _) XL (XF _ _) (meets_str_split_cannot_occur z y t t' h1) (fin [(z,t)] s.toks (if_pos h1).symm (by simp;omega))⟩
theorem wb0:MtR X "str.join" (fun x xs H Q=>∃(z:Str) (a:Addr) (ys:List Str),x= .str z/\xs=[.ref a]/\SqL X.K H a (ys.map V.str)/\z.length<=16/\(ys.map (·.length)).sum+ys.length<=1048576/\Q (.str (Txt.join z ys)) H):=⟨by
 intro pins s σ H x xs v us Q I rx r h
 obtain⟨z,a,ys,rfl,rfl,hq,hz,hw,q⟩:=h
 obtain⟨t,rfl⟩:=rx
 obtain⟨u,rfl,ru⟩:=oG r
 cases(show u=Value.ref a from ru)
 obtain⟨its,rv,p,hl⟩:=I.list hq
 exact join_listW p.isList (by simpa using yg0 rv) hz hw fun t' k=>⟨.str _,H,I.tok k,⟨_,rfl⟩,q⟩⟩
end
mutual
inductive Dp(K:tz0)(H:Hp):V->PyData->Prop
 |non:Dp K H .non .none
 |bl (b:Bool):Dp K H (.bl b) (.bool b)
 |int (i:Int):Dp K H (.int i) (.int i)
 |str (x:Str):Dp K H (.str x) (.str x)
 |lst {a:Addr} {xs:List V} {ds:List PyData}:SqL K H a xs->DpAll K H xs ds->Dp K H (.ref a) (.list ds)
 |tup {a:Addr} {xs:List V} {ds:List PyData}:SqT K H a xs->DpAll K H xs ds->Dp K H (.ref a) (.tuple ds)
inductive DpAll(K:tz0)(H:Hp):List V->List PyData->Prop
 |nil:DpAll K H [] []
 |cons {v:V} {vs:List V} {d:PyData} {ds:List PyData}:Dp K H v d->DpAll K H vs ds->DpAll K H (v::vs) (d::ds)
end
section
variable{X:Cx}{pins:tzB}{σ:St}{H:Hp}{s:Shared}
mutual
theorem Dp.reads(I:Inv X pins σ H s):∀{v:V} {d:PyData} {u:Value},Dp X.K H v d->cV v u->∃as,Reads s.heap u d as
 |_,_,u,.non,r=>by cases(show u=Value.none from r);exact⟨_,.none⟩
 |_,_,u,.bl b,r=>by cases(show u=Value.bool b from r);exact⟨_,.bool b⟩
 |_,_,u,.int i,r=>by obtain⟨t,rfl⟩:=r;exact⟨_,.int i t⟩
 |_,_,u,.str x,r=>by obtain⟨t,rfl⟩:=r;exact⟨_,.str x t⟩
 |_,_,u,.lst (a:=a) h hs,r=>by
  cases(show u=Value.ref a from r)
  obtain⟨its,rv,p,hz⟩:=I.list h
  obtain⟨as,ra⟩:=DpAll.reads I hs rv
  obtain⟨o,e,c,n,d⟩:=p.isList
  exact⟨_,.list e c d (by simpa using ra)⟩
 |_,_,u,.tup (a:=a) h hs,r=>by
  cases(show u=Value.ref a from r)
  obtain⟨its,rv,p,hz⟩:=I.tuple h
  obtain⟨as,ra⟩:=DpAll.reads I hs rv
  obtain⟨o,e,c,n,d⟩:=p
  exact⟨_,.tuple e c d (by simpa using ra)⟩
theorem DpAll.reads(I:Inv X pins σ H s):∀{vs:List V} {ds:List PyData} {us:List Value},DpAll X.K H vs ds->bW vs us->∃as,ReadsAll s.heap us ds as
 |_,_,_,.nil,.nil=>⟨_,.nil⟩
 |_,_,_,.cons h hs,.cons r rs=>by
  obtain⟨as,ra⟩:=Dp.reads I h r
  obtain⟨bs,rb⟩:=DpAll.reads I hs rs
  exact⟨_,.cons ra rb⟩
end
end
section
variable{X:Cx}
def wo0(K:tz0)(neg:Bool):R2:=fun x y H Q=>∃d e,Dp K H x d/\Dp K H y e/\d.canLay0=true/\e.canLay0=true/\d.depth<=60/\Q (.bl (if neg then !PyData.eqv d e else PyData.eqv d e)) H
theorem wi7(hu:X.A.units+64<cLine):OpR X (compareOp .Eq) (wo0 X.K false):=⟨by
 intro pins s σ H x y v u Q I rx ry h
 obtain⟨d,e,hx,hy,cx,cy,dz,q⟩:=h
 obtain⟨as,ra⟩:=hx.reads I rx
 obtain⟨bs,rb⟩:=hy.reads I ry
 exact SeqAt.compareEq_reads ra rb cx cy (by have:=Nat.min_le_left d.depth e.depth;omega) ⟨.bl _,H,I,rfl,q⟩⟩
theorem wi8(hu:X.A.units+64<cLine):OpR X (compareOp .NotEq) (wo0 X.K true):=⟨by
 intro pins s σ H x y v u Q I rx ry h
 obtain⟨d,e,hx,hy,cx,cy,dz,q⟩:=h
 obtain⟨as,ra⟩:=hx.reads I rx
 obtain⟨bs,rb⟩:=hy.reads I ry
 exact SeqAt.compareNe_reads ra rb cx cy (by have:=Nat.min_le_left d.depth e.depth;omega) ⟨.bl _,H,I,rfl,q⟩⟩
end
section
variable{prog:Program}{w:World}{A:Around}{E:Value->Shared->Prop}{s:Shared}{env:Env}
theorem yo2{l:Addr}{items:Array Value}{elts:List Expr}{k:Nat}{pos:Pos}{Q:Unit->Shared->Prop}(hh:A.handled=none)(hl:s.heap.IsList l items)(hn:(assignEach elts env).length=items.size)
  (hstar:(assignEach elts env).findIdx? (·.1)=none) (h:∀h',Heap.ExtBut s.heap.objs.size s.heap h'->wpAny (model prog w) A (assignInOrder ((assignEach elts env).map (·.2)) items.toList) Q E {s with heap:=h'}):
  wpAny (model prog w) A (assign (.Tuple elts k pos) env (.ref l)) Q E s:=by
 rw [assign_Tuple]
 refine Zj (Wo ?_)
 unfold unpack
 rw [hn,hstar]
 exact Zj (YG (PySem.W.kun_itemsOf hh hl h))
end
section
variable{X:Cx}{pos:Pos}
def xw4(K:tz0)(n:Nat)(t:TGs):TG:=fun v σ H Q=>∃a xs,v= .ref a/\SqL K H a xs/\xs.length=n/\t xs σ H Q
theorem wi9{es:List Expr}{k:Nat}{t:TGs}{n:Nat}(hc:X.calm=true)(h:PGs X es t)
  (hn:(assignEach es X.env).length=n:=by rfl) (hst:(assignEach es X.env).findIdx? (·.1)=none:=by rfl):PG X (.Tuple es k pos) (xw4 X.K n t):=⟨by
 intro pins s σ H v u Q I r hw
 obtain⟨a,xs,e1,hq,hl,hw⟩:=hw
 subst e1
 cases r
 obtain⟨its,rv,ht,hz⟩:=I.list hq
 refine yo2 (I.ok.hd hc) ht.isList (by simp [hn,<-hl,rv.length]) hst fun h' hx=> ?_
 have I1:Inv X pins σ H {s with heap:=h'}:=I.kept (t':=s.toks) fun b o e=>hx b o (ZF (Zm e)) e
 exact h pins _ σ H xs _ Q I1 (by simpa using rv) hw⟩
end
inductive AreC:List Expr->List V->Prop
 |nil:AreC [] []
 |int {i:Int} {j:Nat} {pos:Pos} {es:List Expr} {vs:List V}:AreC es vs->AreC (.Constant (.int i) j pos::es) (.int i::vs)
 |str {x:Str} {j:Nat} {pos:Pos} {es:List Expr} {vs:List V}:AreC es vs->AreC (.Constant (.str x) j pos::es) (.str x::vs)
 |bl {b:Bool} {j:Nat} {pos:Pos} {es:List Expr} {vs:List V}:AreC es vs->AreC (.Constant (.bool b) j pos::es) (.bl b::vs)
 |non {j:Nat} {pos:Pos} {es:List Expr} {vs:List V}:AreC es vs->AreC (.Constant .none j pos::es) (.non::vs)
def zp8(vs:List V):TA:=fun _ H Q=>Q vs H
theorem xe8{X:Cx}{es:List Expr}{vs:List V}(h:AreC es vs):PA X es (zp8 vs):=by
 induction h with
 |nil=>exact pE
 |int _ ih=>exact⟨fun pos pins s σ H Q I q=>gL (t:=zp8 _) iS ih rfl pos pins s σ H Q I q⟩
 |str _ ih=>exact⟨fun pos pins s σ H Q I q=>gL (t:=zp8 _) xc1 ih rfl pos pins s σ H Q I q⟩
 |bl _ ih=>exact⟨fun pos pins s σ H Q I q=>gL (t:=zp8 _) xx1 ih rfl pos pins s σ H Q I q⟩
 |non _ ih=>exact⟨fun pos pins s σ H Q I q=>gL (t:=zp8 _) xc0 ih rfl pos pins s σ H Q I q⟩
set_option genInjectivity true in
inductive D where
 |non|bl (b:Bool)|int (i:Int)|str (x:Str)|ty (n:String)
 |tup (xs:List D)|con (xs:List D)|lst (o:Bool) (xs:List D)|dic (o:Bool) (ks:List Key) (vs:List D)|obj (o:Bool) (C:Str) (ns:List Str) (vs:List D)
mutual
def D.imm:D->Bool
 | .tup xs=>D.imms xs
 | .con xs=>D.imms xs
 | .lst o xs=> !o&&D.imms xs
 | .dic o _ vs=> !o&&D.imms vs
 | .obj o _ _ vs=> !o&&D.imms vs
 |_=>true
def D.imms:List D->Bool
 |[]=>true
 |d::ds=>d.imm&&D.imms ds
end
def kd:HO->Bool
 | .lst _=>true
 | .tup _=>true
 | .dK _=>true
 | .ins _ _ _=>true
 | .frz _ _=>true
 | .xd _=>true
 |_=>false
def tf:HO->Bool
 | .tup _=>true
 | .frz _ _=>true
 |_=>false
theorem oR(h:tf o=true):kd o=true:=by cases o<;>first|rfl|cases h
def SqF(K:tz0)(H:Hp)(a:Addr)(xs:List V):Prop:=(∃o,H a=some (.frz o (.lst xs)))\/
 ∃(o:Obj) (its:Array Value) (n:Nat),K.lookup a=some o/\o.cls= .type "list"/\o.dict=none/\o.data= .seq its n/\its.size<=sizeLine/\bW xs its.toList
mutual
inductive Rep(K:tz0)(κ:tz9)(H:Hp):V->D->List Addr->Prop
 |non:Rep K κ H .non .non []
 |bl (b:Bool):Rep K κ H (.bl b) (.bl b) []
 |int (i:Int):Rep K κ H (.int i) (.int i) []
 |str (x:Str):Rep K κ H (.str x) (.str x) []
 |ty (n:String):Rep K κ H (.ty n) (.ty n) []
 |tup {a:Addr} {vs:List V} {ds:List D}:SqT K H a vs->Reps K κ H vs ds []->Rep K κ H (.ref a) (.tup ds) []
 |con {a:Addr} {vs:List V} {ds:List D}:SqF K H a vs->Reps K κ H vs ds []->Rep K κ H (.ref a) (.con ds) []
 |lst {a:Addr} {vs:List V} {ds:List D} {fp:List Addr}:H a=some (.lst vs)->Reps K κ H vs ds fp->Rep K κ H (.ref a) (.lst true ds) (a::fp)
 |lstF {a:Addr} {o:Obj} {vs:List V} {ds:List D}:H a=some (.frz o (.lst vs))->Reps K κ H vs ds []->Rep K κ H (.ref a) (.lst false ds) []
 |dic {a:Addr} {kvs:List (Key×V)} {ks:List Key} {ds:List D} {fp:List Addr}:H a=some (.dK kvs)->kvs.map (·.1)=ks->Reps K κ H (kvs.map (·.2)) ds fp->Rep K κ H (.ref a) (.dic true ks ds) (a::fp)
 |dicF {a:Addr} {o:Obj} {kvs:List (Key×V)} {ks:List Key} {ds:List D}:H a=some (.frz o (.dK kvs))->kvs.map (·.1)=ks->Reps K κ H (kvs.map (·.2)) ds []->Rep K κ H (.ref a) (.dic false ks ds) []
 |obj {a dx:Addr} {C:Str} {fs:List (Str×V)} {ns:List Str} {ds:List D} {fp:List Addr}:H a=some (.ins (κ C) dx fs)->fs.map (·.1)=ns->Reps K κ H (fs.map (·.2)) ds fp->Rep K κ H (.ref a) (.obj true C ns ds) (a::fp)
 |objF {a dx:Addr} {o:Obj} {C:Str} {fs:List (Str×V)} {ns:List Str} {ds:List D}:H a=some (.frz o (.ins (κ C) dx fs))->fs.map (·.1)=ns->Reps K κ H (fs.map (·.2)) ds []->Rep K κ H (.ref a) (.obj false C ns ds) []
inductive Reps(K:tz0)(κ:tz9)(H:Hp):List V->List D->List Addr->Prop
 |nil:Reps K κ H [] [] []
 |cons {v:V} {vs:List V} {d:D} {ds:List D} {f g:List Addr}:Rep K κ H v d f->Reps K κ H vs ds g->Reps K κ H (v::vs) (d::ds) (f++g)
end
section
variable{K:tz0}{κ:tz9}{H H':Hp}
theorem SqT.tf(t:∀a o,H a=some o->tf o=true->H' a=some o){a:Addr}{xs:List V}(h:SqT K H a xs):SqT K H' a xs:=by
 rcases h with (h|⟨o,h⟩)|h
 ·exact .inl (.inl (t _ _ h rfl))
 ·exact .inl (.inr ⟨o,t _ _ h rfl⟩)
 ·exact .inr h
theorem SqF.tf(t:∀a o,H a=some o->tf o=true->H' a=some o){a:Addr}{xs:List V}(h:SqF K H a xs):SqF K H' a xs:=h.elim (fun⟨o,h⟩=> .inl ⟨o,t _ _ h rfl⟩) .inr
theorem SqF.l(h:SqF K H a xs):SqL K H a xs:=h.elim (fun⟨o,h⟩=> .inl (.inr ⟨o,h⟩)) .inr
theorem iG{P:Addr->Prop}:∀a∈([]:List Addr),P a:=fun _ h=>nomatch h
theorem Reps.move(t:∀a o,H a=some o->tf o=true->H' a=some o){vs:List V}{ds:List D}{fp:List Addr}(h:Reps K κ H vs ds fp):(∀a∈fp,H' a=H a)->Reps K κ H' vs ds fp:=
 Reps.rec (motive_1:=fun v d fp _=>(∀a∈fp,H' a=H a)->Rep K κ H' v d fp) (motive_2:=fun vs ds fp _=>(∀a∈fp,H' a=H a)->Reps K κ H' vs ds fp)
  (fun _=> .non) (fun b _=> .bl b) (fun b _=> .int b) (fun b _=> .str b) (fun b _=> .ty b) (fun h _ ih _=> .tup (h.tf t) (ih iG)) (fun h _ ih _=> .con (h.tf t) (ih iG))
  (fun h _ ih k=> .lst ((k _ Z0).trans h) (ih fun a ha=>k a (Z1 _ ha))) (fun h _ ih _=> .lstF (t _ _ h rfl) (ih iG))
  (fun h e _ ih k=> .dic ((k _ Z0).trans h) e (ih fun a ha=>k a (Z1 _ ha))) (fun h e _ ih _=> .dicF (t _ _ h rfl) e (ih iG))
  (fun h e _ ih k=> .obj ((k _ Z0).trans h) e (ih fun a ha=>k a (Z1 _ ha))) (fun h e _ ih _=> .objF (t _ _ h rfl) e (ih iG))
  (fun _=> .nil) (fun _ _ i1 i2 k=> .cons (i1 fun a ha=>k a (Zq _ ha)) (i2 fun a ha=>k a (Ze _ ha))) h
theorem Reps.nil_fp(h:Reps K κ H vs [] fp):vs=[]/\fp=[]:=by cases h;exact⟨rfl,rfl⟩
theorem Reps.one_inv(r:Reps K κ H vs [d] fp):∃v,vs=[v]/\Rep K κ H v d fp:=by
 cases r with
 |cons h hs=>
  obtain⟨rfl,rfl⟩:=hs.nil_fp
  exact⟨_,rfl,by rw [Zi];exact h⟩
theorem Reps.one(h:Rep K κ H v d f):Reps K κ H [v] [d] f:=by have:=Reps.cons h (Reps.nil (K:=K) (κ:=κ) (H:=H));rwa [Zi] at this
theorem Rep.move(t:∀a o,H a=some o->tf o=true->H' a=some o){v:V}{d:D}{fp:List Addr}(h:Rep K κ H v d fp)(k:∀a∈fp,H' a=H a):Rep K κ H' v d fp:=by
 obtain⟨u,e,r⟩:=((Reps.one h).move t k).one_inv
 cases e;exact r
theorem Reps.own{vs:List V}{ds:List D}{fp:List Addr}(h:Reps K κ H vs ds fp):∀a∈fp,∃o,H a=some o/\kd o=true/\tf o=false:=
 Reps.rec (motive_1:=fun _ _ fp _=>∀a∈fp,∃o,H a=some o/\kd o=true/\tf o=false) (motive_2:=fun _ _ fp _=>∀a∈fp,∃o,H a=some o/\kd o=true/\tf o=false)
  iG (fun _=>iG) (fun _=>iG) (fun _=>iG) (fun _=>iG) (fun _ _ _=>iG) (fun _ _ _=>iG)
  (fun h _ ih a ha=>(Z5.mp ha).elim (fun e=>e▸⟨_,h,rfl,rfl⟩) (ih a)) (fun _ _ _=>iG)
  (fun h _ _ ih a ha=>(Z5.mp ha).elim (fun e=>e▸⟨_,h,rfl,rfl⟩) (ih a)) (fun _ _ _ _=>iG)
  (fun h _ _ ih a ha=>(Z5.mp ha).elim (fun e=>e▸⟨_,h,rfl,rfl⟩) (ih a)) (fun _ _ _ _=>iG)
  iG (fun _ _ i1 i2 a ha=>(Zp.mp ha).elim (i1 a) (i2 a)) h
theorem Rep.own(h:Rep K κ H v d fp):∀a∈fp,∃o,H a=some o/\kd o=true/\tf o=false:=(Reps.one h).own
theorem Rep.imm(h:Rep K κ H v d fp)(e:d.imm=true):fp=[]:=by
 cases h<;>first|rfl|exact nomatch e
theorem Reps.imm:∀{vs:List V} {ds:List D} {fp:List Addr},Reps K κ H vs ds fp->D.imms ds=true->fp=[]
 |_,_,_,.nil,_=>rfl
 |_,_,_,.cons h hs,e=>by
  rw [D.imms,Zx] at e
  rw [h.imm e.1,Reps.imm hs e.2];rfl
theorem Reps.length:∀{vs:List V} {ds:List D} {fp:List Addr},Reps K κ H vs ds fp->vs.length=ds.length
 |_,_,_,.nil=>rfl
 |_,_,_,.cons _ hs=>by rw [Z6,Z6,Reps.length hs]
theorem Reps.get:∀{vs:List V} {ds:List D} {fp:List Addr} {i:Nat} {d:D},Reps K κ H vs ds fp->ds[i]? =some d->∃v f,vs[i]? =some v/\Rep K κ H v d f/\∀a∈f,a∈fp
 |_,_,_,_,_,.nil,e=>by simp at e
 |_,_,_,0,_,.cons h _,e=>by simp at e;subst e;exact⟨_,_,rfl,h,fun a ha=>Zq _ ha⟩
 |_,_,_,i+1,_,.cons _ hs,e=>by
  obtain⟨v,f,h1,h2,h3⟩:=Reps.get (i:=i) hs (by simpa using e)
  exact⟨v,f,by simpa using h1,h2,fun a ha=>Ze _ (h3 a ha)⟩
theorem Reps.append:∀{vs:List V} {ds:List D} {f:List Addr} {us:List V} {es:List D} {g:List Addr},Reps K κ H vs ds f->Reps K κ H us es g->Reps K κ H (vs++us) (ds++es) (f++g)
 |_,_,_,_,_,_,.nil,r=>r
 |_,_,_,_,_,_,.cons h hs,r=>by rw [Zh];exact .cons h (Reps.append hs r)
theorem Reps.split:∀{vs:List V} {d:D} {ds:List D} {fp:List Addr},Reps K κ H vs (d::ds) fp->∃v us f g,vs=v::us/\Rep K κ H v d f/\Reps K κ H us ds g/\fp=f++g
 |_,_,_,_,.cons h hs=>⟨_,_,_,_,rfl,h,hs,rfl⟩
theorem Reps.nilp:∀{vs:List V} {ds:List D},Reps K κ H vs ds []->Paired (fun v d=>Rep K κ H v d []) vs ds:=by
 intro vs ds h
 generalize e:([]:List Addr)=fp at h
 induction h using Reps.rec (motive_1:=fun _ _ _ _=>True) with
 |nil=>exact .nil
 |cons h hs _ ih=>
  obtain⟨e1,e2⟩:=W3.mp e.symm
  subst e1;subst e2
  exact .cons h (ih rfl)
 |_=>trivial
theorem Reps.ofp:∀{vs:List V} {ds:List D},Paired (fun v d=>Rep K κ H v d []) vs ds->Reps K κ H vs ds []
 |_,_,.nil=> .nil
 |_,_,.cons h hs=> .cons (f:=[]) (g:=[]) h (Reps.ofp hs)
end
theorem Paired.takeN:∀{l₁:List α} {l₂:List β} (n:Nat),Paired R l₁ l₂->Paired R (l₁.take n) (l₂.take n)
 |_,_,0,_=> .nil
 |_,_,_+1,.nil=> .nil
 |_,_,n+1,.cons h t=> .cons h (Paired.takeN n t)
theorem Paired.dropN:∀{l₁:List α} {l₂:List β} (n:Nat),Paired R l₁ l₂->Paired R (l₁.drop n) (l₂.drop n)
 |_,_,0,r=>r
 |_,_,_+1,.nil=> .nil
 |_,_,n+1,.cons _ t=>Paired.dropN n t
theorem Paired.app:∀{l₁:List α} {l₂:List β} {m₁:List α} {m₂:List β},Paired R l₁ l₂->Paired R m₁ m₂->Paired R (l₁++m₁) (l₂++m₂)
 |_,_,_,_,.nil,r=>r
 |_,_,_,_,.cons h t,r=> .cons h (Paired.app t r)
theorem Paired.repl(r:Paired R l₁ l₂):∀k:Nat,Paired R (List.replicate k l₁).flatten (List.replicate k l₂).flatten
 |0=> .nil
 |k+1=>by rw [ZU,ZU,Y9,Y9];exact Paired.app r (Paired.repl r k)
structure SameK(H H':Hp):Prop where
 keep:∀a o,H a=some o->kd o=true->H' a=some o
 grow:∀a,H' a=none->H a=none
theorem SameK.refl(H:Hp):SameK H H:=⟨fun _ _ h _=>h,fun _ h=>h⟩
theorem SameK.trans(a:SameK H H1)(b:SameK H1 H2):SameK H H2:=⟨fun c o h k=>b.keep c o (a.keep c o h k) k,fun c h=>a.grow c (b.grow c h)⟩
theorem SameK.of(h:xa3 H H'):SameK H H':=⟨fun a o e _=>h a o e,fun a e=>h.free e⟩
theorem SameK.new(h:H p=none)(o:HO):SameK H (upd H p o):= .of (xp8 h o)
section
variable{K:tz0}{κ:tz9}{H H':Hp}
theorem Rep.same(e:SameK H H'){v:V}{d:D}{fp:List Addr}(r:Rep K κ H v d fp):Rep K κ H' v d fp:=
 r.move (fun a o h t=>e.keep a o h (oR t)) fun a ha=>by obtain⟨o,h,k,_⟩:=r.own a ha;rw [h];exact e.keep a o h k
theorem Reps.same(e:SameK H H'){v:List V}{d:List D}{fp:List Addr}(r:Reps K κ H v d fp):Reps K κ H' v d fp:=
 r.move (fun a o h t=>e.keep a o h (oR t)) fun a ha=>by obtain⟨o,h,k,_⟩:=r.own a ha;rw [h];exact e.keep a o h k
end
theorem PE.imp(h:PE X e t)(k:∀σ H Q,t' σ H Q->t σ H Q):PE X e t':=⟨fun pins s σ H Q I q=>h pins s σ H Q I (k σ H Q q)⟩
theorem PT.imp(h:PT X e t)(k:∀σ H Q,t' σ H Q->t σ H Q):PT X e t':=⟨fun pins s σ H Q I q=>h pins s σ H Q I (k σ H Q q)⟩
theorem PW.imp(h:PW X e t)(k:∀σ H Q,t' σ H Q->t σ H Q):PW X e t':=⟨fun wh pins s σ H Q I q=>h wh pins s σ H Q I (k σ H Q q)⟩
theorem PA.imp(h:PA X e t)(k:∀σ H Q,t' σ H Q->t σ H Q):PA X e t':=⟨fun pos pins s σ H Q I q=>h pos pins s σ H Q I (k σ H Q q)⟩
theorem PS.imp{X:Cx}{st:Stmt}{t t':TS}(h:PS X st t)(k:∀D σ H,t' D σ H->t D σ H):PS X st t':=⟨fun pins s σ H D I q=>h pins s σ H D I (k D σ H q)⟩
theorem PSs.imp{X:Cx}{st:List Stmt}{t t':TS}(h:PSs X st t)(k:∀D σ H,t' D σ H->t D σ H):PSs X st t':=⟨fun pins s σ H D I q=>h pins s σ H D I (k D σ H q)⟩
abbrev PSt:=List (Option D)
abbrev _root_.tz7:=List D->Option (D×List D)
abbrev _root_.tz8:=PSt->Option (D×PSt)
abbrev _root_.tz3:=PSt->Option (List D)
abbrev _root_.tz4:=PSt->Option Bool
abbrev _root_.tz6:=List D->Option D
abbrev _root_.tz2:=PSt->Option D
abbrev _root_.tz5:=PSt->Bool
def WS(K:tz0)(κ:tz9)(H:Hp)(σ:St)(ps:PSt):Prop:=∀(i:Nat) (d:D),ps[i]? =some (some d)->∃v fp,σ[i]? =some (some v)/\Rep K κ H v d fp
theorem WS.same{K:tz0}{κ:tz9}{H H':Hp}{σ:St}{ps:PSt}(w:WS K κ H σ ps)(e:SameK H H'):WS K κ H' σ ps:=fun i d h=>by
 obtain⟨v,fp,h1,h2⟩:=w i d h
 exact⟨v,fp,h1,h2.same e⟩
def lN(K:tz0)(κ:tz9)(H:Hp)(d:D)(Q:VK):Prop:=∀v H' fv,SameK H H'->(∀a∈fv,H a=none)->fv.Nodup->Rep K κ H' v d fv->Q v H'
def wo1(K:tz0)(κ:tz9)(H:Hp)(d:D)(Q:VK):Prop:=∀v H' fp,SameK H H'->Rep K κ H' v d fp->Q v H'
def tV(K:tz0)(κ:tz9)(f:tz2):TE:=fun σ H Q=>∃ps d,WS K κ H σ ps/\f ps=some d/\wo1 K κ H d Q
def tP(K:tz0)(κ:tz9)(f:tz2):TE:=fun σ H Q=>∃ps d,WS K κ H σ ps/\f ps=some d/\lN K κ H d Q
def tQ(K:tz0)(κ:tz9)(f:tz4):TT:=fun σ H Q=>∃ps b,WS K κ H σ ps/\f ps=some b/\∀H',SameK H H'->Q b H'
def tVA(K:tz0)(κ:tz9)(f:tz3):TA:=fun σ H Q=>∃ps ds,WS K κ H σ ps/\f ps=some ds/\∀vs H' fp,SameK H H'->Reps K κ H' vs ds fp->Q vs H'
def tPA(K:tz0)(κ:tz9)(f:tz3):TA:=fun σ H Q=>∃ps ds,WS K κ H σ ps/\f ps=some ds/\∀vs H' fv,SameK H H'->(∀a∈fv,H a=none)->fv.Nodup->Reps K κ H' vs ds fv->Q vs H'
abbrev QV(X:Cx)(κ:tz9)(e:Expr)(f:tz2):Prop:=PE X e (tV X.K κ f)
abbrev QP(X:Cx)(κ:tz9)(e:Expr)(f:tz2):Prop:=PE X e (tP X.K κ f)
abbrev QT(X:Cx)(κ:tz9)(e:Expr)(f:tz4):Prop:=PT X e (tQ X.K κ f)
abbrev QW(X:Cx)(κ:tz9)(e:Expr)(f:tz4):Prop:=PW X e (tQ X.K κ f)
abbrev QVA(X:Cx)(κ:tz9)(es:List Expr)(f:tz3):Prop:=PA X es (tVA X.K κ f)
abbrev QPA(X:Cx)(κ:tz9)(es:List Expr)(f:tz3):Prop:=PA X es (tPA X.K κ f)
theorem lN.see{K:tz0}{κ:tz9}{H:Hp}{d:D}{Q:VK}(h:wo1 K κ H d Q):lN K κ H d Q:=fun v H' fv s _ _ r=>h v H' fv s r
theorem lN.after{K:tz0}{κ:tz9}{H H1:Hp}{d:D}{Q:VK}(h:lN K κ H d Q)(s:SameK H H1):lN K κ H1 d Q:=
 fun v H' fv s' n nd r=>h v H' fv (s.trans s') (fun a ha=>s.grow a (n a ha)) nd r
theorem lN.now{K:tz0}{κ:tz9}{H:Hp}{d:D}{Q:VK}{v:V}(h:lN K κ H d Q)(r:Rep K κ H v d []):Q v H:=h v H [] (.refl H) (fun _ h=>absurd h (by simp)) Zn r
theorem lN.at{K:tz0}{κ:tz9}{H:Hp}{d:D}{Q:VK}{p:Addr}{o:HO}{fv:List Addr}(h:lN K κ H d Q)(hp:H p=none)(hn:∀a∈fv,H a=none)(nd:fv.Nodup)(r:Rep K κ (upd H p o) (.ref p) d fv):Q (.ref p) (upd H p o):=
 h _ _ fv (.new hp o) hn nd r
section
variable{X:Cx}{κ:tz9}{e a b:Expr}{f fa fb:tz2}
theorem QP.v(h:QP X κ e f):QV X κ e f:=h.imp fun _ _ _ ⟨ps,d,w,e,q⟩=>⟨ps,d,w,e,.see q⟩
def bB(f:tz2):tz2:=fun ps=>(f ps).bind fun d=>if d.imm=true then some d else none
theorem QV.p(h:QV X κ e f):QP X κ e (bB f):=h.imp fun σ H Q hh_=>by
 obtain⟨ps,d,w,e,q⟩:=hh_
 unfold bB at e
 cases e1:f ps with
 |none=>rw [e1] at e;cases e
 | some d1=>
  rw [e1] at e
  by_cases hi:d1.imm=true
  ·have e2:d1=d:=by simpa [hi] using e
   subst e2
   refine⟨ps,d1,w,e1,fun v H' fp s r=> ?_⟩
   have:=r.imm hi;subst this
   exact q v H' [] s (fun _ h=>absurd h (by simp)) Zn r
  ·simp [hi] at e
def aB(i:Nat):tz2:=fun ps=>(ps[i]?).join
theorem aC(i:Nat){x:Str}{pos:Pos}(hN:X.N[i]? =some x:=by rfl)(hv:Vis X.env.scope x:=by first|exact Or.inl rfl|exact Or.inr (Or.inl rfl)|exact Or.inr (Or.inr rfl))(hd:NDb x:=by decide)
  (hcd:(x==("__classdict__":Str))=false:=by decide):QV X κ (.Name x pos) (aB i):=(wU hN hv hd hcd).imp fun σ H Q hh_=>by
 obtain⟨ps,d,w,e,q⟩:=hh_
 have e':ps[i]? =some (some d):=by
  unfold aB at e
  cases q:ps[i]? with
  |none=>rw [q] at e;cases e
  |some o=>rw [q] at e;exact ZV some e
 obtain⟨v,fp,h1,h2⟩:=w i d e'
 exact⟨v,h1,q v H fp (.refl H) h2⟩
def fC(d:D):tz2:=fun _=>some d
theorem aH{i j pos}:QP X κ (.Constant (.int i) j pos) (fC (.int i)):=iS.imp fun σ H Q ⟨ps,d,w,e,q⟩=>by cases e;exact q _ H [] (.refl H) (fun _ h=>absurd h (by simp)) Zn (.int i)
theorem bP{x j pos}:QP X κ (.Constant (.str x) j pos) (fC (.str x)):=xc1.imp fun σ H Q ⟨ps,d,w,e,q⟩=>by cases e;exact q _ H [] (.refl H) (fun _ h=>absurd h (by simp)) Zn (.str x)
theorem jI{b j pos}:QP X κ (.Constant (.bool b) j pos) (fC (.bl b)):=xx1.imp fun σ H Q ⟨ps,d,w,e,q⟩=>by cases e;exact q _ H [] (.refl H) (fun _ h=>absurd h (by simp)) Zn (.bl b)
theorem kA{j pos}:QP X κ (.Constant .none j pos) (fC .non):=xc0.imp fun σ H Q ⟨ps,d,w,e,q⟩=>by cases e;exact q _ H [] (.refl H) (fun _ h=>absurd h (by simp)) Zn .non
theorem wb1(hg:Gl X x)(hm:X.mg x=some u)(r:cV v u)(hd:∀H,Rep X.K κ H v d [])(hdb:NDb x:=by decide):QP X κ (.Name x pos) (fC d):=
 (xz2 hg hm r hdb).imp fun σ H Q ⟨ps,d,w,e,q⟩=>by cases e;exact q _ H [] (.refl H) (fun _ h=>absurd h (by simp)) Zn (hd H)
def f2(g:D->D->Option D)(fa fb:tz2):tz2:=fun ps=>(fa ps).bind fun x=>(fb ps).bind fun y=>g x y
def POp(K:tz0)(κ:tz9)(g:D->D->Option D):R2:=fun x y H Q=>∃dx dy d fx fy,Rep K κ H x dx fx/\Rep K κ H y dy fy/\g dx dy=some d/\lN K κ H d Q
theorem wX(h:f2 g fa fb ps=some d):∃x y,fa ps=some x/\fb ps=some y/\g x y=some d:=by
 unfold f2 at h
 cases e1:fa ps with
 |none=>rw [e1] at h;cases h
 |some x=>
  rw [e1] at h
  cases e2:fb ps with
  |none=>rw [e2] at h;cases h
  |some y=>rw [e2] at h;exact⟨x,y,rfl,rfl,h⟩
theorem yg1(hr:∀x y H Q,POp X.K κ g x y H Q->r x y H Q)(h:tP X.K κ (f2 g fa fb) σ H Q):tOp r (tV X.K κ fa) (tV X.K κ fb) σ H Q:=by
 obtain⟨ps,d,w,e,q⟩:=h
 obtain⟨x,y,e1,e2,e3⟩:=wX e
 exact⟨ps,x,w,e1,fun v H1 fp s1 r1=>⟨ps,y,w.same s1,e2,fun u H2 fq s2 r2=>hr _ _ _ _ ⟨x,y,d,fp,fq,r1.same s2,r2,e3,q.after (s1.trans s2)⟩⟩⟩
theorem bC(ho:OpR X (binaryOp op) (POp X.K κ g))(ha:QV X κ a fa)(hb:QV X κ b fb):QP X κ (.BinOp a op b pos) (f2 g fa fb):=
 (gO ho ha hb).imp fun _ _ _ h=>yg1 (fun _ _ _ _ h=>h) h
theorem wY(ho:OpR X (compareOp op) (POp X.K κ g))(ha:QV X κ a fa)(hb:QV X κ b fb)(hm:behindInMarks op b=false):QP X κ (.Compare a [op] [b] pos) (f2 g fa fb):=
 (yp6 ho ha hb hm).imp fun _ _ _ h=>yg1 (fun _ _ _ _ h=>h) h
def dB:D->Option Bool
 | .bl b=>some b
 |_=>none
def fB(f:tz2):tz4:=fun ps=>(f ps).bind dB
theorem zs2{f:tz2}{ps:PSt}{b:Bool}(h:fB f ps=some b):f ps=some (.bl b):=by
 unfold fB at h
 cases e:f ps with
 |none=>rw [e] at h;cases h
 |some d=>rw [e] at h;cases d<;>first|(cases h;rfl)|cases h
theorem Rep.is_bl{K:tz0}{H:Hp}{v:V}{b:Bool}{fp:List Addr}(r:Rep K κ H v (.bl b) fp):v= .bl b:=by cases r;rfl
theorem Rep.is_int{K:tz0}{H:Hp}{v:V}{b:Int}{fp:List Addr}(r:Rep K κ H v (.int b) fp):v= .int b:=by cases r;rfl
theorem Rep.is_str{K:tz0}{H:Hp}{v:V}{b:Str}{fp:List Addr}(r:Rep K κ H v (.str b) fp):v= .str b:=by cases r;rfl
theorem bV(ho:OpR X (compareOp op) (POp X.K κ g))(ha:QV X κ a fa)(hb:QV X κ b fb)(hm:behindInMarks op b=false):QT X κ (.Compare a [op] [b] pos) (fB (f2 g fa fb)):=
 (yp7 ho ha hb hm).imp fun σ H Q ⟨ps,c,w,e,q⟩=>yg1 (Q:=fun x H'=>∃k,x= .bl k/\Q k H') (fun _ _ _ _ h=>h) ⟨ps,_,w,zs2 e,fun v H' fv s _ _ r=>⟨c,r.is_bl,q H' s⟩⟩
def f3(g g':D->D->Option D)(fa fb fc:tz2):tz2:=fun ps=>(fa ps).bind fun x=>(fb ps).bind fun y=>(g x y).bind fun k=>match k with
 | .bl true=>(fc ps).bind fun z=>g' y z
 | .bl false=>some (.bl false)
 |_=>none
def zv7:D->Option Bool
 | .non=>some false
 | .bl b=>some b
 | .int i=>some (i !=0)
 | .str y=>if y.length<=sizeLine then some ((y.length:Int) !=0) else none
 | .lst _ xs=>some (!xs.isEmpty)
 | .tup xs=>some (!xs.isEmpty)
 | .con xs=>some (!xs.isEmpty)
 |_=>none
theorem pF{K:tz0}{H:Hp}{vs:List V}{ds:List D}{fp:List Addr}(r:Reps K κ H vs ds fp):ds.isEmpty=vs.isEmpty:=by cases r<;>rfl
theorem yq3{K:tz0}{H:Hp}{v:V}{d:D}{fp:List Addr}{b:Bool}(r:Rep K κ H v d fp)(h:zv7 d=some b):xw1 K v H b:=by
 cases r with
 |non=>cases h;rfl
 |bl b=>cases h;rfl
 |int i=>cases h;rfl
 |str x=>
  rw [zv7] at h
  split at h
  ·cases h;exact⟨by assumption,rfl⟩
  ·cases h
 |tup s rs=>cases h;exact .inr (.inl ⟨_,s,by rw [pF rs]⟩)
 |con s rs=>cases h;exact .inl ⟨_,s.l,by rw [pF rs]⟩
 |lst s rs=>cases h;exact .inl ⟨_,.inl (.inl s),by rw [pF rs]⟩
 |lstF s rs=>cases h;exact .inl ⟨_,.inl (.inr ⟨_,s⟩),by rw [pF rs]⟩
 |_=>cases h
def fT(f:tz2):tz4:=fun ps=>(f ps).bind zv7
theorem wb2{f:tz2}{ps:PSt}{b:Bool}(h:fT f ps=some b):∃d,f ps=some d/\zv7 d=some b:=by
 unfold fT at h
 cases e:f ps with
 |none=>rw [e] at h;cases h
 |some d=>rw [e] at h;exact⟨d,rfl,h⟩
theorem gJ(ha:QV X κ a fa)(he:∀whole,isTrue a X.env whole=(do let v<-whole;standAt a.pos;holding [v] (truthy v)):=by intro _;rfl):QT X κ a (fT fa):=
 (yf5 ha he).imp fun σ H Q hh_=>by
  obtain⟨ps,c,w,e,q⟩:=hh_
  obtain⟨d,e1,e2⟩:=wb2 e
  exact⟨ps,d,w,e1,fun v H' fp s r=>⟨c,yq3 r e2,q H' s⟩⟩
def dS(f g:tz4):tz4:=fun ps=>(f ps).bind fun c=>if c=true then g ps else some false
def qT(f g:tz4):tz4:=fun ps=>(f ps).bind fun c=>if c=true then some true else g ps
def jE(f:tz4):tz4:=fun ps=>(f ps).map (!·)
variable{pos:Pos}{rest:List Expr}{ta tb:tz4}
theorem kB(ha:QT X κ a ta):QW X κ (.BoolOp .And [a] pos) ta:=xz3 ha
theorem zm2(ha:QT X κ a ta):QW X κ (.BoolOp .Or [a] pos) ta:=wg1 ha
theorem lE(ha:QT X κ a ta)(hb:QW X κ (.BoolOp .And (b::rest) pos) tb):QW X κ (.BoolOp .And (a::b::rest) pos) (dS ta tb):=
 (wg2 ha hb).imp fun σ H Q hh_=>by
  obtain⟨ps,c,w,e,q⟩:=hh_
  unfold dS at e
  cases e1:ta ps with
  |none=>rw [e1] at e;cases e
  | some k=>
   rw [e1] at e
   refine⟨ps,k,w,e1,fun H1 s1=> ?_⟩
   cases k with
   |true=>rw [if_pos rfl];exact⟨ps,c,w.same s1,by simpa using e,fun H2 s2=>q H2 (s1.trans s2)⟩
   |false=>
    rw [if_neg Z9]
    have:c=false:=by simpa using e.symm
    subst this;exact q H1 s1
theorem yd1(ha:QT X κ a ta)(hb:QW X κ (.BoolOp .Or (b::rest) pos) tb):QW X κ (.BoolOp .Or (a::b::rest) pos) (qT ta tb):=
 (wo9 ha hb).imp fun σ H Q hh_=>by
  obtain⟨ps,c,w,e,q⟩:=hh_
  unfold qT at e
  cases e1:ta ps with
  |none=>rw [e1] at e;cases e
  | some k=>
   rw [e1] at e
   refine⟨ps,k,w,e1,fun H1 s1=> ?_⟩
   cases k with
   |true=>
    rw [if_pos rfl]
    have:c=true:=by simpa using e.symm
    subst this;exact q H1 s1
   |false=>rw [if_neg Z9];exact⟨ps,c,w.same s1,by simpa using e,fun H2 s2=>q H2 (s1.trans s2)⟩
theorem oS(h:QW X κ a ta):QT X κ a ta:=PW.pt h
theorem rR(ha:QT X κ a ta):QT X κ (.UnaryOp .Not a pos) (jE ta):=
 (wg3 ha).imp fun σ H Q hh_=>by
  obtain⟨ps,c,w,e,q⟩:=hh_
  unfold jE at e
  cases e1:ta ps with
  |none=>rw [e1] at e;cases e
  |some k=>
   rw [e1] at e
   have:c= !k:=by simpa using e.symm
   subst this
   exact⟨ps,k,w,e1,fun H1 s1=>q H1 s1⟩
def zd5(f g:tz2):tz2:=fun ps=>(f ps).bind fun c=>match c with
 | .bl true=>g ps
 | .bl false=>some (.bl false)
 |_=>none
def fOr(f g:tz2):tz2:=fun ps=>(f ps).bind fun c=>match c with
 | .bl true=>some (.bl true)
 | .bl false=>g ps
 |_=>none
theorem yw2{d:D}{α:Type}{x y:Option α}{z:α}(h:(match d with| .bl true=>x| .bl false=>y|_=>none)=some z):∃b,d= .bl b/\(if b=true then x else y)=some z:=by
 cases d with
 |bl b=>cases b<;>exact⟨_,rfl,h⟩
 |_=>cases h
theorem xe9{op}(h:QP X κ a fa):QP X κ (.BoolOp op [a] pos) fa:=wg4 h
theorem wj0(ha:QP X κ a fa)(hb:QP X κ (.BoolOp .And (b::rest) pos) fb):QP X κ (.BoolOp .And (a::b::rest) pos) (zd5 fa fb):=
 (wg5 ha hb).imp fun σ H Q hh_=>by
  obtain⟨ps,d,w,e,q⟩:=hh_
  unfold zd5 at e
  cases e1:fa ps with
  |none=>rw [e1] at e;cases e
  | some k=>
   rw [e1] at e
   obtain⟨c,rfl,e2⟩:=yw2 (x:=fb ps) (y:=some (.bl false)) e
   refine⟨ps,_,w,e1,fun v H1 fv s1 _ _ r1=>⟨c,r1.is_bl,?_⟩⟩
   cases c with
   |true=>rw [if_pos rfl] at e2|-;exact⟨ps,d,w.same s1,e2,q.after s1⟩
   |false=>
    rw [if_neg Z9] at e2|-
    cases e2;exact(q.after s1).now (.bl false)
theorem wp8(ha:QP X κ a fa)(hb:QP X κ (.BoolOp .Or (b::rest) pos) fb):QP X κ (.BoolOp .Or (a::b::rest) pos) (fOr fa fb):=
 (wp0 ha hb).imp fun σ H Q hh_=>by
  obtain⟨ps,d,w,e,q⟩:=hh_
  unfold fOr at e
  cases e1:fa ps with
  |none=>rw [e1] at e;cases e
  |some k=>
   rw [e1] at e
   obtain⟨c,rfl,e2⟩:=yw2 (d:=k) (x:=some (D.bl true)) (y:=fb ps) (z:=d) e
   refine⟨ps,_,w,e1,fun v H1 fv s1 _ _ r1=>⟨c,r1.is_bl,?_⟩⟩
   cases c with
   |true=>rw [if_pos rfl] at e2|-;cases e2;exact(q.after s1).now (.bl true)
   |false=>rw [if_neg Z9] at e2|-;exact⟨ps,d,w.same s1,e2,q.after s1⟩
def dX(f:tz2):tz2:=fun ps=>(f ps).bind fun c=>match c with
 | .int i=>some (.int (-i))
 |_=>none
theorem rS(ha:QV X κ a fa):QP X κ (.UnaryOp .USub a pos) (dX fa):=
 (wp1 wh1 ha).imp fun σ H Q hh_=>by
  obtain⟨ps,d,w,e,q⟩:=hh_
  unfold dX at e
  cases e1:fa ps with
  |none=>rw [e1] at e;cases e
  |some k=>
   rw [e1] at e
   cases k with
   |int i=>cases e;exact⟨ps,_,w,e1,fun v H1 fp s1 r1=>⟨i,r1.is_int,(q.after s1).now (.int _)⟩⟩
   |_=>cases e
end
section
variable{X:Cx}{κ:tz9}
theorem Inv.lstR(I:Inv X pins σ H s)(h:Rd H l (.lst xs)):
  xs.length<=sizeLine/\∃(its:List Value) (n:Nat),bW xs its/\xs.length=its.length/\s.heap.get? l=some {cls:= .type "list",data:= .seq its.toArray n}:=by
 obtain⟨z,its,n,r,e⟩:=h.ok I.hok
 exact⟨z,its,n,r,r.length,e⟩
theorem wb3:OpR X (binaryOp .Add) (fun x y H Q=>∃l b xs zs,x= .ref l/\y= .ref b/\Rd H l (.lst xs)/\Rd H b (.lst zs)/\xs.length+zs.length<=sizeLine/\∀p,H p=none->Q (.ref p) (upd H p (.lst (xs++zs)))):=⟨by
 intro pins s σ H x y v u Q I rx ry h
 obtain⟨l,b,xs,zs,rfl,rfl,hH,hB,hz,q⟩:=h
 cases rx
 cases ry
 obtain⟨z,its,n,r,hl,e⟩:=I.lstR hH
 obtain⟨z2,its2,n2,r2,hl2,e2⟩:=I.lstR hB
 refine PySem.P.add_list e e2 ?_ (by rw [Zl,Zl];omega)
 have ea:its.toArray++its2.toArray=(its++its2).toArray:=by simp
 rw [ea]
 exact⟨.ref _,_,I.lnew (t':=s.toks) (r.append r2) (by rw [Z2];omega),rfl,q _ I.fresh⟩⟩
theorem xq0:OpR X (binaryOp .Add) (fun x y H Q=>∃a b ys,x= .ref a/\y= .ref b/\SqT X.K H a []/\SqT X.K H b ys/\Q (.ref b) H):=⟨by
 intro pins s σ H x y v u Q I rx ry h
 obtain⟨a,b,ys,rfl,rfl,ha,hb,q⟩:=h
 cases rx
 cases ry
 obtain⟨its,r1,p1,_⟩:=I.tuple ha
 obtain⟨its2,r2,p2,_⟩:=I.tuple hb
 cases r1
 obtain⟨⟨cls,dd,data,sl⟩,ho,hc,n,hd⟩:=id p1
 obtain⟨⟨cls2,dd2,data2,sl2⟩,ho2,hc2,n2,hd2⟩:=id p2
 simp only at hc hd hc2 hd2
 subst hc hd hc2 hd2
 exact concat_meets ⟨_,ho,rfl⟩ ⟨_,ho2,rfl⟩ XN Ws X0 YU (YN _ _)
   (tuple_addW0 a b _ _ n n2 dd dd2 sl sl2 rfl) ⟨ho,ho2,⟨.ref b,H,I,rfl,q⟩⟩⟩
theorem Rep.lst_inv{K:tz0}{H:Hp}{v:V}{o:Bool}{ds:List D}{fp:List Addr}(r:Rep K κ H v (.lst o ds) fp):∃a vs g,v= .ref a/\Rd H a (.lst vs)/\Reps K κ H vs ds g/\g.Sublist fp:=by
 cases r with
 |lst h hs=>exact⟨_,_,_,rfl,.inl h,hs,X2 _ _⟩
 |lstF h hs=>exact⟨_,_,_,rfl,.inr ⟨_,h⟩,hs,.refl _⟩
theorem Rep.lstT_inv{K:tz0}{H:Hp}{v:V}{ds:List D}{fp:List Addr}(r:Rep K κ H v (.lst true ds) fp):∃a vs g,v= .ref a/\H a=some (.lst vs)/\Reps K κ H vs ds g/\fp=a::g:=by
 cases r with
 |lst h hs=>exact⟨_,_,_,rfl,h,hs,rfl⟩
theorem Rep.objT_inv{K:tz0}{H:Hp}{v:V}{C:Str}{ns:List Str}{ds:List D}{fp:List Addr}(r:Rep K κ H v (.obj true C ns ds) fp):∃a dx fs g,v= .ref a/\H a=some (.ins (κ C) dx fs)/\fs.map (·.1)=ns/\Reps K κ H (fs.map (·.2)) ds g/\fp=a::g:=by
 cases r with
 |obj h e hs=>exact⟨_,_,_,_,rfl,h,e,hs,rfl⟩
theorem Rep.tup_inv{K:tz0}{H:Hp}{v:V}{ds:List D}{fp:List Addr}(r:Rep K κ H v (.tup ds) fp):∃a vs,v= .ref a/\SqT K H a vs/\Reps K κ H vs ds []:=by
 cases r with
 |tup h hs=>exact⟨_,_,rfl,h,hs⟩
theorem Reps.pair{K:tz0}{H:Hp}{vs:List V}{ds:List D}{fp:List Addr}(r:Reps K κ H vs ds fp)(h:D.imms ds=true):Paired (fun v d=>Rep K κ H v d []) vs ds:=by
 have e:=r.imm h
 subst e
 exact r.nilp
theorem Rep.con_inv{K:tz0}{H:Hp}{v:V}{ds:List D}{fp:List Addr}(r:Rep K κ H v (.con ds) fp):∃a vs,v= .ref a/\SqF K H a vs/\Reps K κ H vs ds []:=by
 cases r with
 |con h hs=>exact⟨_,_,rfl,h,hs⟩
theorem zs3{K:tz0}{H:Hp}{vs:List V}{ds:List D}{Q:VK}{p:Addr}(hp:H p=none)(r:Paired (fun v d=>Rep K κ H v d []) vs ds)(q:lN K κ H (.lst true ds) Q):Q (.ref p) (upd H p (.lst vs)):=
 q.at hp (fv:=[p]) (fun a ha=>by simp at ha;subst ha;exact hp) (by simp) (.lst dG ((Reps.ofp r).same (.new hp _)))
theorem zf7{K:tz0}{H:Hp}{vs:List V}{ds:List D}{Q:VK}{p:Addr}(hp:H p=none)(r:Paired (fun v d=>Rep K κ H v d []) vs ds)(q:lN K κ H (.tup ds) Q):Q (.ref p) (upd H p (.tup vs)):=
 q.at hp (fv:=[]) (fun a ha=>by simp at ha) (by simp) (.tup (.inl (.inl dG)) ((Reps.ofp r).same (.new hp _)))
def cD:D->D->Option D
 | .int i,.int j=>some (.int (i+j))
 | .str x,.str y=>if x.length+y.length<=sizeLine then some (.str (x++y)) else none
 | .lst _ xs,.lst _ ys=>if (D.imms xs&&D.imms ys&&decide (xs.length+ys.length<=sizeLine))=true then some (.lst true (xs++ys)) else none
 | .tup xs,.tup ys=>if xs.length+ys.length<=sizeLine then some (.tup (xs++ys)) else none
 |_,_=>none
theorem bind_some(h:o.bind g=some z):∃x,o=some x/\g x=some z:=by
 cases o with
 |none=>cases h
 |some x=>exact⟨x,rfl,h⟩
theorem cC[Decidable c]{x:Option α}{z:α}(h:(if c then x else none)=some z):c/\x=some z:=by
 by_cases k:c
 ·rw [if_pos k] at h;exact⟨k,h⟩
 ·rw [if_neg k] at h;cases h
theorem eK:OpR X (binaryOp .Add) (POp X.K κ cD):=⟨by
 rintro pins s σ H x y v u Q I rx ry ⟨dx,dy,d,fx,fy,r1,r2,e,q⟩
 unfold cD at e
 split at e
 ·rename_i i j
  cases e;exact wW pins s σ H x y v u Q I rx ry ⟨i,j,r1.is_int,r2.is_int,q.now (.int _)⟩
 ·rename_i i j
  obtain⟨hc,e⟩:=cC e
  cases e;exact yv0 pins s σ H x y v u Q I rx ry ⟨i,j,r1.is_str,r2.is_str,hc,q.now (.str _)⟩
 ·rename_i o xs o' ys
  obtain⟨hc,e⟩:=cC e
  simp only [Zx,ZK] at hc
  cases e
  obtain⟨a,vs,g,rfl,h1,s1,_⟩:=r1.lst_inv
  obtain⟨b,us,g',rfl,h2,s2,_⟩:=r2.lst_inv
  exact wb3 pins s σ H _ _ v u Q I rx ry ⟨a,b,vs,us,rfl,rfl,h1,h2,by rw [s1.length,s2.length];exact hc.2,fun p hp=>zs3 hp (Paired.app (s1.pair hc.1.1) (s2.pair hc.1.2)) q⟩
 ·rename_i xs ys
  obtain⟨hc,e⟩:=cC e
  cases e
  obtain⟨a,vs,rfl,h1,s1⟩:=r1.tup_inv
  obtain⟨b,us,rfl,h2,s2⟩:=r2.tup_inv
  have l1:=s1.length;have l2:=s2.length
  cases vs with
  |nil=>
   cases s1
   exact xq0 pins s σ H _ _ v u Q I rx ry ⟨a,b,us,rfl,rfl,h1,h2,q.now (.tup h2 s2)⟩
  |cons w ws=>
   refine wa1 pins s σ H _ _ v u Q I rx ry ⟨a,b,_,us,rfl,rfl,h1,h2,by simp,by omega,fun z=> ?_,fun z p hp=>zf7 hp (Paired.app s1.nilp s2.nilp) q⟩
   subst z
   cases s2
   rw [Zi] at q
   exact q.now (.tup h1 s1)
 ·cases e⟩
def dII(C:Int->Int->Bool)(g:Int->Int->D):D->D->Option D
 | .int i,.int j=>if C i j=true then some (g i j) else none
 |_,_=>none
theorem zj2(h:dII C g x y=some d):∃i j,x= .int i/\y= .int j/\C i j=true/\d=g i j:=by
 unfold dII at h
 split at h
 ·obtain⟨hc,h⟩:=cC h
  cases h;exact⟨_,_,rfl,rfl,hc,rfl⟩
 ·cases h
def jH:D->D->Option D
 | .int i,.int j=>some (.int (i-j))
 |_,_=>none
theorem oH:OpR X (binaryOp .Sub) (POp X.K κ jH):=⟨by
 rintro pins s σ H x y v u Q I rx ry ⟨dx,dy,d,fx,fy,r1,r2,e,q⟩
 unfold jH at e
 split at e
 ·rename_i i j
  cases e;exact wg8 pins s σ H x y v u Q I rx ry ⟨i,j,r1.is_int,r2.is_int,q.now (.int _)⟩
 ·cases e⟩
def pO(i j:Int):Bool:=(decide (-(2^64)<i)&&decide (i<2^64))||(decide (-(2^64)<j)&&decide (j<2^64))
def iK:D->D->Option D
 | .int i,.int j=>if pO i j=true then some (.int (i*j)) else none
 | .str x,.int n=>if (decide (x.length<=1)&&decide (-(2^63)<=n)&&decide (n<=16777216))=true then some (.str (Txt.mul x n)) else none
 |_,_=>none
theorem yw3:OpR X (binaryOp .Mult) (fun x y H Q=>∃z n,x= .str z/\y= .int n/\MulOk z n/\Q (.str (Txt.mul z n)) H):=⟨by
 rintro pins s σ H x y v u Q I rx ry ⟨z,n,e1,e2,ok,q⟩
 subst e1 e2
 obtain⟨t,rfl⟩:=rx
 obtain⟨t',rfl⟩:=ry
 exact SB.mul ok fun t' k=>⟨.str _,H,I.tok k,⟨_,rfl⟩,q⟩⟩
theorem vK:OpR X (binaryOp .Mult) (POp X.K κ iK):=⟨by
 rintro pins s σ H x y v u Q I rx ry ⟨dx,dy,d,fx,fy,r1,r2,e,q⟩
 unfold iK at e
 split at e
 ·rename_i i j
  obtain⟨hc,e⟩:=cC e
  cases e
  refine pD pins s σ H x y v u Q I rx ry ⟨i,j,r1.is_int,r2.is_int,?_,q.now (.int _)⟩
  unfold pO at hc
  simp only [Bool.or_eq_true,Zx,ZK] at hc
  exact hc
 ·rename_i z n
  obtain⟨hc,e⟩:=cC e
  simp only [Zx,ZK] at hc
  cases e
  exact yw3 pins s σ H _ _ v u Q I rx ry ⟨z,n,r1.is_str,r2.is_int,mulOk_of 1 16777216 hc.1.1 (by omega) hc.1.2 (by decide) (by decide),q.now (.str _)⟩
 ·cases e⟩
def cR:D->D->Option D:=dII (fun _ j=>decide (0<j)) fun i j=> .int (i % j)
theorem eO:OpR X (binaryOp .Mod) (POp X.K κ cR):=⟨by
 rintro pins s σ H x y v u Q I rx ry ⟨dx,dy,d,fx,fy,r1,r2,e,q⟩
 obtain⟨i,j,rfl,rfl,hc,rfl⟩:=zj2 e
 exact zl6 pins s σ H x y v u Q I rx ry ⟨i,j,r1.is_int,r2.is_int,Xq hc,q.now (.int _)⟩⟩
def eM:D->D->Option D:=dII (fun _ j=>decide (0<j)&&decide (j<1073741824)) fun i j=> .int (i/j)
theorem kO:OpR X (binaryOp .FloorDiv) (POp X.K κ eM):=⟨by
 rintro pins s σ H x y v u Q I rx ry ⟨dx,dy,d,fx,fy,r1,r2,e,q⟩
 obtain⟨i,j,rfl,rfl,hc,rfl⟩:=zj2 e
 simp only [Zx,ZK] at hc
 exact yp2 pins s σ H x y v u Q I rx ry ⟨i,j,r1.is_int,r2.is_int,hc,q.now (.int _)⟩⟩
def ym3:D->D->Option D:=dII (fun i j=>decide (0<=j)&&decide (j<=1000000)&&decide (i.natAbs<2^64)) fun i j=> .int (i^j.toNat)
theorem wp9:OpR X (binaryOp .Pow) (POp X.K κ ym3):=⟨by
 rintro pins s σ H x y v u Q I rx ry ⟨dx,dy,d,fx,fy,r1,r2,e,q⟩
 obtain⟨i,j,rfl,rfl,hc,rfl⟩:=zj2 e
 simp only [Zx,ZK] at hc
 exact wg9 pins s σ H x y v u Q I rx ry ⟨i,j,r1.is_int,r2.is_int,⟨hc.1.1,hc.1.2,hc.2⟩,q.now (.int _)⟩⟩
def D.ints:List D->Option (List Int)
 |[]=>some []
 | .int i::ds=>(D.ints ds).map (i::·)
 |_::_=>none
theorem uA{K:tz0}{H:Hp}:∀{vs:List V} {ds:List D} {fp:List Addr} {ns:List Int},Reps K κ H vs ds fp->D.ints ds=some ns->vs=ns.map V.int
 |_,_,_,_,.nil,e=>by cases e;rfl
 | _,d::ds,_,ns,.cons h hs,e=>by
  cases d with
  |int i=>
   rw [D.ints] at e
   cases e1:D.ints ds with
   |none=>rw [e1] at e;cases e
   |some ms=>rw [e1] at e;cases e;rw [h.is_int,uA hs e1];rfl
  |_=>cases e
def dLt:D->D->Option D
 | .int i,.int j=>some (.bl (decide (i<j)))
 |_,_=>none
theorem uO(hu:X.A.units<cLine):OpR X (compareOp .Lt) (POp X.K κ dLt):=⟨by
 rintro pins s σ H x y v u Q I rx ry ⟨dx,dy,d,fx,fy,r1,r2,e,q⟩
 unfold dLt at e
 split at e
 ·rename_i i j
  cases e;exact wp2 pins s σ H x y v u Q I rx ry ⟨i,j,r1.is_int,r2.is_int,q.now (.bl _)⟩
 ·cases e⟩
def dLe:D->D->Option D
 | .int i,.int j=>some (.bl (decide (i<=j)))
 |_,_=>none
theorem xq1:OpR X (compareOp .LtE) (POp X.K κ dLe):=⟨by
 rintro pins s σ H x y v u Q I rx ry ⟨dx,dy,d,fx,fy,r1,r2,e,q⟩
 unfold dLe at e
 split at e
 ·rename_i i j
  cases e;exact wp3 pins s σ H x y v u Q I rx ry ⟨i,j,r1.is_int,r2.is_int,q.now (.bl _)⟩
 ·cases e⟩
def dGt:D->D->Option D
 | .int i,.int j=>some (.bl (decide (j<i)))
 |_,_=>none
theorem zb0:OpR X (compareOp .Gt) (POp X.K κ dGt):=⟨by
 rintro pins s σ H x y v u Q I rx ry ⟨dx,dy,d,fx,fy,r1,r2,e,q⟩
 unfold dGt at e
 split at e
 ·rename_i i j
  cases e;exact wp4 pins s σ H x y v u Q I rx ry ⟨i,j,r1.is_int,r2.is_int,q.now (.bl _)⟩
 ·cases e⟩
def dGe:D->D->Option D
 | .int i,.int j=>some (.bl (decide (j<=i)))
 |_,_=>none
theorem wj1:OpR X (compareOp .GtE) (POp X.K κ dGe):=⟨by
 rintro pins s σ H x y v u Q I rx ry ⟨dx,dy,d,fx,fy,r1,r2,e,q⟩
 unfold dGe at e
 split at e
 ·rename_i i j
  cases e;exact wp5 pins s σ H x y v u Q I rx ry ⟨i,j,r1.is_int,r2.is_int,q.now (.bl _)⟩
 ·cases e⟩
mutual
def D.data:D->Option PyData
 | .non=>some .none
 | .bl b=>some (.bool b)
 | .int i=>some (.int i)
 | .str x=>some (.str x)
 | .tup xs=>(D.datas xs).map .tuple
 | .lst _ xs=>(D.datas xs).map .list
 |_=>none
def D.datas:List D->Option (List PyData)
 |[]=>some []
 |d::ds=>d.data.bind fun p=>(D.datas ds).map (p::·)
end
theorem Reps.dps{K:tz0}{H:Hp}{vs:List V}{ds:List D}{fp:List Addr}(h:Reps K κ H vs ds fp):∀{p:List PyData},D.datas ds=some p->DpAll K H vs p:=
 Reps.rec (motive_1:=fun v d _ _=>∀{p:PyData},d.data=some p->Dp K H v p) (motive_2:=fun vs ds _ _=>∀{p:List PyData},D.datas ds=some p->DpAll K H vs p)
  (fun e=>by cases e;exact .non) (fun b _ e=>by cases e;exact .bl b) (fun b _ e=>by cases e;exact .int b) (fun b _ e=>by cases e;exact .str b) (fun b _ e=>nomatch e)
  (fun h _ ih _ e=>by obtain⟨ps,e1,e⟩:=Zt.mp e;subst e;exact .tup h (ih e1)) (fun _ _ _ _ e=>nomatch e)
  (fun h _ ih _ e=>by obtain⟨ps,e1,e⟩:=Zt.mp e;subst e;exact .lst (.inl (.inl h)) (ih e1))
  (fun h _ ih _ e=>by obtain⟨ps,e1,e⟩:=Zt.mp e;subst e;exact .lst (.inl (.inr ⟨_,h⟩)) (ih e1))
  (fun _ _ _ _ _ e=>nomatch e) (fun _ _ _ _ _ e=>nomatch e) (fun _ _ _ _ _ e=>nomatch e) (fun _ _ _ _ _ e=>nomatch e)
  (fun e=>by cases e;exact .nil)
  (fun _ _ i1 i2 _ e=>by
   obtain⟨q,e1,e⟩:=bind_some e
   obtain⟨qs,e2,e⟩:=Zt.mp e
   subst e
   exact .cons (i1 e1) (i2 e2)) h
theorem Rep.dp{K:tz0}{H:Hp}{v:V}{d:D}{fp:List Addr}{p:PyData}(h:Rep K κ H v d fp)(e:d.data=some p):Dp K H v p:=by
 have:=(Reps.one h).dps (p:=[p]) (by show(d.data.bind _)=_;rw [e];rfl)
 cases this;assumption
def zd6(x y:D):Option Bool:=x.data.bind fun a=>y.data.bind fun b=>if (a.canLay0&&b.canLay0&&decide (a.depth<=60))=true then some (PyData.eqv a b) else none
def eqB(x y:D):Option Bool:=match x,y with
 | .int i,.int j=>some (decide (i=j))
 | .str i,.str j=>some (decide (i=j))
 |x,y=>zd6 x y
def dEq(x y:D):Option D:=(eqB x y).map .bl
def dNe(x y:D):Option D:=(eqB x y).map fun b=> .bl (!b)
theorem zx5(h:eqB x y=some b):(∃i j,x= .int i/\y= .int j/\b=decide (i=j))\/(∃i j,x= .str i/\y= .str j/\b=decide (i=j))\/
  ∃p q,x.data=some p/\y.data=some q/\p.canLay0=true/\q.canLay0=true/\p.depth<=60/\b=PyData.eqv p q:=by
 have gen:zd6 x y=some b->∃p q,x.data=some p/\y.data=some q/\p.canLay0=true/\q.canLay0=true/\p.depth<=60/\b=PyData.eqv p q:=fun h=>by
  unfold zd6 at h
  cases e1:x.data with
  |none=>rw [e1] at h;cases h
  | some p=>
   rw [e1] at h
   cases e2:y.data with
   |none=>rw [e2] at h;cases h
   | some q=>
    rw [e2] at h
    have h':(if (p.canLay0&&q.canLay0&&decide (p.depth<=60))=true then some (PyData.eqv p q) else none)=some b:=h
    split at h'
    ·rename_i hc
     simp only [Zx,ZK] at hc
     exact⟨p,q,rfl,rfl,hc.1.1,hc.1.2,hc.2,(ZD h').symm⟩
    ·cases h'
 unfold eqB at h
 split at h
 ·cases h;exact .inl ⟨_,_,rfl,rfl,rfl⟩
 ·cases h;exact .inr (.inl ⟨_,_,rfl,rfl,rfl⟩)
 ·exact .inr (.inr (gen h))
theorem gG(hu:X.A.units+64<cLine):OpR X (compareOp .Eq) (POp X.K κ dEq):=⟨by
 rintro pins s σ H x y v u Q I rx ry ⟨dx,dy,d,fx,fy,r1,r2,e,q⟩
 unfold dEq at e
 cases e1:eqB dx dy with
 |none=>rw [e1] at e;cases e
 | some b=>
  rw [e1] at e
  cases e
  rcases zx5 e1 with ⟨i,j,rfl,rfl,rfl⟩|⟨i,j,rfl,rfl,rfl⟩|⟨p,p',h1,h2,h3,h4,h5,rfl⟩
  ·rw [r1.is_int] at rx;rw [r2.is_int] at ry
   exact yu8 pins s σ H _ _ v u Q I rx ry ⟨rfl,by rw [show decide (V.int i=V.int j)=decide (i=j) by simp];exact q.now (.bl _)⟩
  ·rw [r1.is_str] at rx;rw [r2.is_str] at ry
   exact yu8 pins s σ H _ _ v u Q I rx ry ⟨rfl,by rw [show decide (V.str i=V.str j)=decide (i=j) by simp];exact q.now (.bl _)⟩
  ·exact wi7 hu pins s σ H _ _ v u Q I rx ry ⟨p,p',r1.dp h1,r2.dp h2,h3,h4,h5,q.now (.bl _)⟩⟩
theorem yw4(hu:X.A.units+64<cLine):OpR X (compareOp .NotEq) (POp X.K κ dNe):=⟨by
 rintro pins s σ H x y v u Q I rx ry ⟨dx,dy,d,fx,fy,r1,r2,e,q⟩
 unfold dNe at e
 cases e1:eqB dx dy with
 |none=>rw [e1] at e;cases e
 | some b=>
  rw [e1] at e
  cases e
  rcases zx5 e1 with ⟨i,j,rfl,rfl,rfl⟩|⟨i,j,rfl,rfl,rfl⟩|⟨p,p',h1,h2,h3,h4,h5,rfl⟩
  ·rw [r1.is_int] at rx;rw [r2.is_int] at ry
   exact xx2 pins s σ H _ _ v u Q I rx ry ⟨rfl,by rw [show decide (V.int i=V.int j)=decide (i=j) by simp];exact q.now (.bl _)⟩
  ·rw [r1.is_str] at rx;rw [r2.is_str] at ry
   exact xx2 pins s σ H _ _ v u Q I rx ry ⟨rfl,by rw [show decide (V.str i=V.str j)=decide (i=j) by simp];exact q.now (.bl _)⟩
  ·exact wi8 hu pins s σ H _ _ v u Q I rx ry ⟨p,p',r1.dp h1,r2.dp h2,h3,h4,h5,q.now (.bl _)⟩⟩
def zp9:D->Bool
 | .non=>true
 |_=>false
theorem yg2{K:tz0}{H:Hp}{v:V}{d:D}{fp:List Addr}(r:Rep K κ H v d fp):decide (v= .non)=zp9 d:=by cases r<;>first|rfl|simp [zp9]
def dIs:D->D->Option D
 |x,.non=>some (.bl (zp9 x))
 |_,_=>none
def nZ:D->D->Option D
 |x,.non=>some (.bl (!(zp9 x)))
 |_,_=>none
theorem yw5:OpR X (compareOp .Is) (POp X.K κ dIs):=⟨by
 rintro pins s σ H x y v u Q I rx ry ⟨dx,dy,d,fx,fy,r1,r2,e,q⟩
 cases dy with
 |non=>
  cases e;cases r2
  refine wh2 pins s σ H x _ v u Q I rx ry ⟨rfl,?_⟩
  rw [yg2 r1];exact q.now (.bl _)
 |_=>cases e⟩
theorem zf8:OpR X (compareOp .IsNot) (POp X.K κ nZ):=⟨by
 rintro pins s σ H x y v u Q I rx ry ⟨dx,dy,d,fx,fy,r1,r2,e,q⟩
 cases dy with
 |non=>
  cases e;cases r2
  refine xz5 pins s σ H x _ v u Q I rx ry ⟨rfl,?_⟩
  rw [yg2 r1];exact q.now (.bl _)
 |_=>cases e⟩
def D.flat:D->Option V
 | .non=>some .non
 | .bl b=>some (.bl b)
 | .int i=>some (.int i)
 | .str x=>some (.str x)
 |_=>none
def D.flats:List D->Option (List V)
 |[]=>some []
 |d::ds=>d.flat.bind fun v=>(D.flats ds).map (v::·)
theorem yq4{K:tz0}{H:Hp}{v w:V}{d:D}{fp:List Addr}(r:Rep K κ H v d fp)(h:d.flat=some w):v=w/\lT v=true:=by
 cases r<;>first|(cases h;exact⟨rfl,rfl⟩)|cases h
theorem yg3{K:tz0}{H:Hp}:∀{vs ws:List V} {ds:List D} {fp:List Addr},Reps K κ H vs ds fp->D.flats ds=some ws->vs=ws/\vs.all lT=true
 |_,_,_,_,.nil,e=>by cases e;exact⟨rfl,rfl⟩
 | _,ws,d::ds,_,.cons h hs,e=>by
  rw [D.flats] at e
  cases e1:d.flat with
  |none=>rw [e1] at e;cases e
  | some w=>
   rw [e1] at e
   cases e2:D.flats ds with
   |none=>rw [e2] at e;cases e
   |some us=>
    rw [e2] at e;cases e
    obtain⟨a1,a2⟩:=yq4 h e1
    obtain⟨b1,b2⟩:=yg3 hs e2
    exact⟨by rw [a1,b1],by rw [XO,a2,b2];rfl⟩
def nL(x:D)(ds:List D):Option Bool:=x.flat.bind fun v=>(D.flats ds).map fun ws=>inV v ws
def inB(x:D):D->Option Bool
 | .lst _ ds=>nL x ds
 | .tup ds=>nL x ds
 |_=>none
def dIn(x y:D):Option D:=(inB x y).map .bl
theorem wj2{H:Hp}{x y:V}{dx dy:D}{fx fy:List Addr}{b:Bool}(r1:Rep X.K κ H x dx fx)(r2:Rep X.K κ H y dy fy)(e:inB dx dy=some b):
  ∃p xs,y= .ref p/\(SqL X.K H p xs\/SqT X.K H p xs)/\lT x=true/\xs.all lT=true/\b=inV x xs:=by
 have gen:∀{vs:List V} {ds:List D} {g:List Addr},Reps X.K κ H vs ds g->nL dx ds=some b->lT x=true/\vs.all lT=true/\b=inV x vs:=fun {vs ds g} rs h=>by
  unfold nL at h
  cases e1:dx.flat with
  |none=>rw [e1] at h;cases h
  | some w=>
   rw [e1] at h
   cases e2:D.flats ds with
   |none=>rw [e2] at h;cases h
   |some ws=>
    rw [e2] at h
    obtain⟨a1,a2⟩:=yq4 r1 e1
    obtain⟨b1,b2⟩:=yg3 rs e2
    subst a1 b1
    exact⟨a2,b2,(ZD h).symm⟩
 cases dy with
 |lst o ds=>
  obtain⟨a,vs,g,rfl,h,hs,_⟩:=r2.lst_inv
  obtain⟨g1,g2,g3⟩:=gen hs e
  exact⟨a,vs,rfl,.inl (.inl h),g1,g2,g3⟩
 |tup ds=>
  obtain⟨a,vs,rfl,h,hs⟩:=r2.tup_inv
  obtain⟨g1,g2,g3⟩:=gen hs e
  exact⟨a,vs,rfl,.inr h,g1,g2,g3⟩
 |_=>cases e
theorem wt4:OpR X (compareOp .In) (POp X.K κ dIn):=⟨by
 rintro pins s σ H x y v u Q I rx ry ⟨dx,dy,d,fx,fy,r1,r2,e,q⟩
 unfold dIn at e
 cases e1:inB dx dy with
 |none=>rw [e1] at e;cases e
 |some b=>
  rw [e1] at e;cases e
  obtain⟨p,xs,ey,h,f1,f2,rfl⟩:=wj2 r1 r2 e1
  exact xd5 pins s σ H x y v u Q I rx ry ⟨p,xs,ey,h,f1,f2,q.now (.bl _)⟩⟩
end
theorem Reps.getS{K:tz0}{κ:tz9}{H:Hp}:∀{vs:List V} {ds:List D} {fp:List Addr} {i:Nat} {d:D},Reps K κ H vs ds fp->ds[i]? =some d->∃v f,vs[i]? =some v/\Rep K κ H v d f/\f.Sublist fp
 |_,_,_,_,_,.nil,e=>by simp at e
 |_,_,_,0,_,.cons h _,e=>by simp at e;subst e;exact⟨_,_,rfl,h,XR _ _⟩
 |_,_,_,i+1,_,.cons _ hs,e=>by
  obtain⟨v,f,h1,h2,h3⟩:=Reps.getS (i:=i) hs (by simpa using e)
  exact⟨v,f,by simpa using h1,h2,h3.trans (XM _ _)⟩
theorem Reps.atI{K:tz0}{κ:tz9}{H:Hp}{vs:List V}{ds:List D}{fp:List Addr}{i:Int}{d:D}(r:Reps K κ H vs ds fp)(h:L2.atI ds i=some d):∃v f,L2.atI vs i=some v/\Rep K κ H v d f/\f.Sublist fp:=by
 unfold L2.atI at h|-
 rw [r.length]
 cases e:ixN ds.length i with
 |none=>rw [e] at h;cases h
 |some j=>rw [e] at h;exact r.getS h
section
variable{X:Cx}{κ:tz9}{e a b:Expr}{es:List Expr}{f fa fb:tz2}{g:tz3}{pos p2:Pos}
def aE:tz3:=fun _=>some []
def aA(f:tz2)(g:tz3):tz3:=fun ps=>(f ps).bind fun d=>(g ps).bind fun ds=>some (d::ds)
theorem xZ(h:aA f g ps=some ds):∃d es,f ps=some d/\g ps=some es/\ds=d::es:=by
 unfold aA at h
 cases e1:f ps with
 |none=>rw [e1] at h;cases h
 |some d=>
  rw [e1] at h
  cases e2:g ps with
  |none=>rw [e2] at h;cases h
  |some es=>rw [e2] at h;cases h;exact⟨d,es,rfl,rfl,rfl⟩
theorem aQ:QVA X κ [] aE:=pE.imp fun σ H Q ⟨ps,ds,w,e,q⟩=>by cases e;exact q [] H [] (.refl H) .nil
theorem aF(ha:QV X κ e f)(hr:QVA X κ es g)(hs:StE e es X:=by rfl):QVA X κ (e::es) (aA f g):=
 (gL ha hr hs).imp fun σ H Q hh_=>by
  obtain⟨ps,ds,w,e,q⟩:=hh_
  obtain⟨d,es,e1,e2,rfl⟩:=xZ e
  exact⟨ps,d,w,e1,fun v H1 fp s1 r1=>⟨ps,es,w.same s1,e2,fun vs H2 fq s2 r2=>q _ H2 _ (s1.trans s2) (.cons (r1.same s2) r2)⟩⟩
theorem aX:QPA X κ [] aE:=pE.imp fun σ H Q ⟨ps,ds,w,e,q⟩=>by cases e;exact q [] H [] (.refl H) (fun _ h=>absurd h (by simp)) Zn .nil
theorem xf0{K:tz0}{H1:Hp}{v:V}{d:D}{fv fw:List Addr}(r:Rep K κ H1 v d fv)(n1:fv.Nodup)(hw:∀a∈fw,H1 a=none)(n2:fw.Nodup):(fv++fw).Nodup:=by
 rw [ZB]
 refine⟨n1,n2,fun a ha b hb e=> ?_⟩
 subst e
 obtain⟨o,h,_⟩:=r.own a ha
 rw [hw a hb] at h;cases h
theorem aK(ha:QP X κ e f)(hr:QPA X κ es g)(hs:StE e es X:=by rfl):QPA X κ (e::es) (aA f g):=
 (gL ha hr hs).imp fun σ H Q hh_=>by
  obtain⟨ps,ds,w,e,q⟩:=hh_
  obtain⟨d,es,e1,e2,rfl⟩:=xZ e
  refine⟨ps,d,w,e1,fun v H1 fv s1 n1 nd1 r1=>⟨ps,es,w.same s1,e2,fun vs H2 fw s2 n2 nd2 r2=> ?_⟩⟩
  refine q _ H2 (fv++fw) (s1.trans s2) (fun a ha=> ?_) (xf0 r1 nd1 n2 nd2) (.cons (r1.same s2) r2)
  rcases Zp.mp ha with z|z
  ·exact n1 a z
  ·exact s1.grow a (n2 a z)
def bG(g:tz3):tz2:=fun ps=>(g ps).bind fun ds=>if (D.imms ds&&decide (ds.length<=1000))=true then some (.tup ds) else none
def cZ(g:tz3):tz2:=fun ps=>(g ps).bind fun ds=>if ds.length<=1000 then some (.lst true ds) else none
theorem bY{x1}(h:QPA X κ es g):QP X κ (.Tuple es x1 pos) (bG g):=
 (wh6 h).imp fun σ H Q hh_=>by
  obtain⟨ps,d,w,e,q⟩:=hh_
  obtain⟨ds,e1,e2⟩:=bind_some e
  obtain⟨hc,e3⟩:=cC e2
  cases e3
  rw [Zx,ZK] at hc
  refine⟨ps,ds,w,e1,fun vs H1 fv s1 n1 nd1 r1=>⟨by rw [r1.length];exact yd0 hc.2,fun p hp=> ?_⟩⟩
  exact zf7 hp (r1.pair hc.1) (q.after s1)
theorem dW(h:QPA X κ es g):QP X κ (.List es pos) (cZ g):=
 (wh7 h).imp fun σ H Q hh_=>by
  obtain⟨ps,d,w,e,q⟩:=hh_
  obtain⟨ds,e1,e2⟩:=bind_some e
  obtain⟨hc,e3⟩:=cC e2
  cases e3
  refine⟨ps,ds,w,e1,fun vs H1 fv s1 n1 nd1 r1=>⟨by rw [r1.length];exact yd0 hc,fun p hp=> ?_⟩⟩
  refine q _ _ (p::fv) (s1.trans (.new hp _)) (fun a ha=> ?_) (Zu.mpr ⟨fun hm=> ?_,nd1⟩) (.lst dG (r1.same (.new hp _)))
  ·rcases Z5.mp ha with z|z
   ·rw [z];exact s1.grow p hp
   ·exact n1 a z
  ·obtain⟨o,h,_⟩:=r1.own p hm
   rw [hp] at h;cases h
def dIx:D->D->Option D
 | .lst _ xs,.int i=>atI xs i
 | .tup xs,.int i=>atI xs i
 | .con xs,.int i=>atI xs i
 | .str z,.int i=>if z.length<=sizeLine then(atI z.cps.toList i).map fun c=> .str ⟨#[c]⟩ else none
 |_,_=>none
theorem xf1{K:tz0}{H:Hp}{x y:V}{dx dy d:D}{fx fy:List Addr}{Q:VK}(r1:Rep K κ H x dx fx)(r2:Rep K κ H y dy fy)(e:dIx dx dy=some d)(q:∀v f,Rep K κ H v d f->f.Sublist fx->Q v H):rIx K x y H Q:=by
 unfold dIx at e
 split at e
 ·rename_i o xs i
  obtain⟨a,vs,g,rfl,h,hs,sub⟩:=r1.lst_inv
  obtain⟨v,f,h1,h2,h3⟩:=hs.atI e
  exact .inl ⟨a,vs,i,v,rfl,r2.is_int,.inl h,h1,q v f h2 (h3.trans sub)⟩
 ·rename_i xs i
  obtain⟨a,vs,rfl,h,hs⟩:=r1.tup_inv
  obtain⟨v,f,h1,h2,h3⟩:=hs.atI e
  cases List.sublist_nil.mp h3
  exact .inr (.inl ⟨a,vs,i,v,rfl,r2.is_int,h,h1,q v [] h2 (Xw _)⟩)
 ·rename_i xs i
  obtain⟨a,vs,rfl,h,hs⟩:=r1.con_inv
  obtain⟨v,f,h1,h2,h3⟩:=hs.atI e
  cases List.sublist_nil.mp h3
  exact .inl ⟨a,vs,i,v,rfl,r2.is_int,h.l,h1,q v [] h2 (Xw _)⟩
 ·rename_i z i
  obtain⟨hz,e⟩:=cC e
  obtain⟨c,e1,e⟩:=Zt.mp e
  subst e
  exact .inr (.inr ⟨z,i,c,r1.is_str,r2.is_int,hz,e1,q _ [] (.str _) (Xw _)⟩)
 ·cases e
theorem bL(ha:QV X κ a fa)(hb:QV X κ b fb)(hs:zh1 b:=by exact fun _ _=>rfl):QV X κ (.Subscript a b pos) (f2 dIx fa fb):=
 (yc8 xd3 ha hb hs).imp fun σ H Q hh_=>by
  obtain⟨ps,d,w,e,q⟩:=hh_
  obtain⟨x,y,e1,e2,e3⟩:=wX e
  exact⟨ps,x,w,e1,fun v H1 fp s1 r1=>⟨ps,y,w.same s1,e2,fun u H2 fq s2 r2=>xf1 (r1.same s2) r2 e3 fun v f r _=>q v H2 f (s1.trans s2) r⟩⟩
theorem oI(ha:QP X κ a fa)(hb:QV X κ b fb)(hs:zh1 b:=by exact fun _ _=>rfl):QP X κ (.Subscript a b pos) (f2 dIx fa fb):=
 (yc8 xd3 ha hb hs).imp fun σ H Q hh_=>by
  obtain⟨ps,d,w,e,q⟩:=hh_
  obtain⟨x,y,e1,e2,e3⟩:=wX e
  exact⟨ps,x,w,e1,fun v H1 fv s1 n1 nd1 r1=>⟨ps,y,w.same s1,e2,fun u H2 fq s2 r2=>xf1 (r1.same s2) r2 e3 fun v f r sub=>q v H2 f (s1.trans s2) (fun c hc=>n1 c (sub.subset hc)) (nd1.sublist sub) r⟩⟩
def tO(K:tz0)(κ:tz9)(f:PSt->Option (Option Int)):TO:=fun σ H Q=>∃ps o,WS K κ H σ ps/\f ps=some o/\∀H',SameK H H'->Q o H'
abbrev QO(X:Cx)(κ:tz9)(e:Option Expr)(f:PSt->Option (Option Int)):Prop:=PO X e (tO X.K κ f)
def iA:PSt->Option (Option Int):=fun _=>some none
def lU(f:tz2):PSt->Option (Option Int):=fun ps=>(f ps).bind fun d=>match d with
 | .int i=>some (some i)
 |_=>none
theorem yq5:QO X κ none iA:=⟨fun pins s σ H Q I ⟨ps,o,w,e,q⟩=>by cases e;exact xz9 pins s σ H Q I (q H (.refl H))⟩
theorem yq6(h:QV X κ e f):QO X κ (some e) (lU f):=⟨fun pins s σ H Q I hh_=>by
 obtain⟨ps,o,w,e,q⟩:=hh_
 obtain⟨d,e1,e2⟩:=bind_some e
 cases d with
 |int i=>cases e2;exact wa0 h pins s σ H Q I ⟨ps,_,w,e1,fun v H1 fp s1 r1=>⟨i,r1.is_int,q H1 s1⟩⟩
 |_=>cases e2⟩
def ym4(xs:List D)(lo hi:Option Int):List D:=(xs.drop (HT.sIx xs.length 0 lo)).take (HT.sIx xs.length xs.length hi-HT.sIx xs.length 0 lo)
def dSl:D->Option Int->Option Int->Option D
 | .lst _ xs,lo,hi=>if D.imms xs=true then some (.lst true (ym4 xs lo hi)) else none
 |_,_,_=>none
theorem xq2{K:tz0}{H:Hp}{vs:List V}{ds:List D}{lo hi:Option Int}(r:Paired (fun v d=>Rep K κ H v d []) vs ds):Paired (fun v d=>Rep K κ H v d []) (zv5 vs lo hi) (ym4 ds lo hi):=by
 unfold zv5 ym4
 rw [ZM r]
 exact Paired.takeN _ (Paired.dropN _ r)
def PSl(K:tz0)(κ:tz9):V->Option Int->Option Int->Hp->VK->Prop:=fun x lo hi H Q=>∃dx d fx,Rep K κ H x dx fx/\dSl dx lo hi=some d/\lN K κ H d Q
theorem wj3:SlR X (PSl X.K κ):=by
 rintro pins s σ H x v vl vu lo hi sl Q I rx hs pl pu ⟨dx,d,fx,r,e,q⟩
 unfold dSl at e
 split at e
 ·obtain⟨hc,e2⟩:=cC e
  cases e2
  obtain⟨a,vs,g,rfl,h,rs,sub⟩:=r.lst_inv
  exact wa2 pins s σ H _ v vl vu _ _ sl Q I rx hs pl pu ⟨a,vs,rfl,.inl h,fun p hp=>zs3 hp (xq2 (rs.pair hc)) q⟩
 ·cases e
def fSl(f:tz2)(fl fh:PSt->Option (Option Int)):tz2:=fun ps=>(f ps).bind fun d=>(fl ps).bind fun l=>(fh ps).bind fun h=>dSl d l h
theorem yg4{lo hi:Option Expr}{fl fh:PSt->Option (Option Int)}(he:QV X κ e f)(hl:QO X κ lo fl)(hh:QO X κ hi fh):QP X κ (.Subscript e (.Slice lo hi none p2) pos) (fSl f fl fh):=
 (xp3 wj3 he hl hh).imp fun σ H Q hh_=>by
  obtain⟨ps,d,w,e,q⟩:=hh_
  obtain⟨d1,e1,e2⟩:=bind_some e
  obtain⟨l,e3,e4⟩:=bind_some e2
  obtain⟨h,e5,e6⟩:=bind_some e4
  exact⟨ps,d1,w,e1,fun v H1 fp s1 r1=>⟨ps,l,w.same s1,e3,fun H2 s2=>⟨ps,h,(w.same s1).same s2,e5,fun H3 s3=>⟨d1,d,fp,(r1.same s2).same s3,e6,q.after ((s1.trans s2).trans s3)⟩⟩⟩⟩
def PCl(K:tz0)(κ:tz9)(g:tz6):List V->Hp->VK->Prop:=fun vs H Q=>∃ds fp d,Reps K κ H vs ds fp/\g ds=some d/\lN K κ H d Q
def aG(h:tz6)(g:tz3):tz2:=fun ps=>(g ps).bind h
theorem xf2(q:tP X.K κ (aG h g) σ H Q):tCB (PCl X.K κ h) (tVA X.K κ g) σ H Q:=by
 obtain⟨ps,d,w,e,q⟩:=q
 obtain⟨ds,e1,e2⟩:=bind_some e
 exact⟨ps,ds,w,e1,fun vs H1 fp s1 r1=>⟨ds,fp,d,r1,e2,q.after s1⟩⟩
theorem cY{x:Str}{id:String}{p:Pos}{h:tz6}(hc:CallR X (.builtin id) (PCl X.K κ h))(hg:Gl X x)(hm:X.mg x=none)(hv:bootBuiltins x=some (.builtin id))(ha:QVA X κ (e::es) g)(hn:x≠"__name__":=by decide)(hdb:NDb x:=by decide)
  (hs:StE e es X:=by rfl) (hpl:BkE pos es X:=by rfl):QP X κ (.Call (.Name x p) (e::es) [] pos) (aG h g):=
 (uL hc hg hm hv ha hn hdb hs hpl).imp fun _ _ _ q=>xf2 q
theorem iP(hc:CallR X (.type T) (PCl X.K κ h))(hg:Gl X x)(hm:X.mg x=none)(hv:bootBuiltins x=some (.type T))(ha:QVA X κ (e::es) g)(hn:x≠"__name__":=by decide)(hdb:NDb x:=by decide)
  (hs:StE e es X:=by rfl) (hpl:BkE pos es X:=by rfl):QP X κ (.Call (.Name x p) (e::es) [] pos) (aG h g):=
 (xd2 hc hg hm hv ha hn hdb hs hpl).imp fun _ _ _ q=>xf2 q
theorem Reps.two_inv{K:tz0}{H:Hp}{vs:List V}{d e:D}{fp:List Addr}(r:Reps K κ H vs [d,e] fp):∃v u f g,vs=[v,u]/\Rep K κ H v d f/\Rep K κ H u e g:=by
 obtain⟨v,us,f,g,rfl,h,t,rfl⟩:=r.split
 obtain⟨u,rfl,h2⟩:=t.one_inv
 exact⟨v,u,f,g,rfl,h,h2⟩
def cM:tz6
 |[.lst _ xs]=>some (.int xs.length)
 |[.tup xs]=>some (.int xs.length)
 |[.con xs]=>some (.int xs.length)
 |[.str z]=>if z.length<=sizeLine then some (.int z.length) else none
 |_=>none
theorem fV:CallR X (.builtin "len") (PCl X.K κ cM):=⟨by
 rintro pins s σ H vs us Q I r ⟨ds,fp,d,rs,e,q⟩
 unfold cM at e
 split at e
 ·cases e
  obtain⟨v,rfl,r1⟩:=rs.one_inv
  obtain⟨a,ws,g,rfl,h,hs,_⟩:=r1.lst_inv
  exact jZ pins s σ H _ us Q I r ⟨a,ws,rfl,.inl (.inl h),by rw [hs.length];exact q.now (.int _)⟩
 ·cases e
  obtain⟨v,rfl,r1⟩:=rs.one_inv
  obtain⟨a,ws,rfl,h,hs⟩:=r1.tup_inv
  exact jZ pins s σ H _ us Q I r ⟨a,ws,rfl,.inr h,by rw [hs.length];exact q.now (.int _)⟩
 ·cases e
  obtain⟨v,rfl,r1⟩:=rs.one_inv
  obtain⟨a,ws,rfl,h,hs⟩:=r1.con_inv
  exact jZ pins s σ H _ us Q I r ⟨a,ws,rfl,.inl h.l,by rw [hs.length];exact q.now (.int _)⟩
 ·obtain⟨hz,e⟩:=cC e
  cases e
  obtain⟨v,rfl,r1⟩:=rs.one_inv
  exact yf9 pins s σ H _ us Q I r ⟨_,by rw [r1.is_str],hz,q.now (.int _)⟩
 ·cases e⟩
def zD:tz6
 |[.int i,.int j]=>some (.int (if j>i then j else i))
 |_=>none
def rG:tz6
 |[.int i,.int j]=>some (.int (if j<i then j else i))
 |_=>none
theorem wj4(hc:X.calm=true):CallR X (.builtin "max") (PCl X.K κ zD):=⟨by
 rintro pins s σ H vs us Q I r ⟨ds,fp,d,rs,e,q⟩
 unfold zD at e
 split at e
 ·cases e
  obtain⟨v,u,f,g,rfl,r1,r2⟩:=rs.two_inv
  exact zw2 hc pins s σ H _ us Q I r ⟨_,_,by rw [r1.is_int,r2.is_int],q.now (.int _)⟩
 ·cases e⟩
theorem xf3(hc:X.calm=true):CallR X (.builtin "min") (PCl X.K κ rG):=⟨by
 rintro pins s σ H vs us Q I r ⟨ds,fp,d,rs,e,q⟩
 unfold rG at e
 split at e
 ·cases e
  obtain⟨v,u,f,g,rfl,r1,r2⟩:=rs.two_inv
  exact xc9 hc pins s σ H _ us Q I r ⟨_,_,by rw [r1.is_int,r2.is_int],q.now (.int _)⟩
 ·cases e⟩
def eT:tz6
 |[.lst _ xs]=>if D.imms xs=true then some (.tup xs) else none
 |[.tup xs]=>some (.tup xs)
 |_=>none
theorem nD:CallR X (.type "tuple") (PCl X.K κ eT):=⟨by
 rintro pins s σ H vs us Q I r ⟨ds,fp,d,rs,e,q⟩
 unfold eT at e
 split at e
 ·obtain⟨hc,e⟩:=cC e
  cases e
  obtain⟨v,rfl,r1⟩:=rs.one_inv
  obtain⟨a,ws,g,rfl,h,hs,_⟩:=r1.lst_inv
  exact zU pins s σ H _ us Q I r ⟨a,ws,rfl,.inl ⟨.inl h,fun p hp=>zf7 hp (hs.pair hc) q⟩⟩
 ·cases e
  obtain⟨v,rfl,r1⟩:=rs.one_inv
  obtain⟨a,ws,rfl,h,hs⟩:=r1.tup_inv
  exact zU pins s σ H _ us Q I r ⟨a,ws,rfl,.inr ⟨h,q.now (.tup h hs)⟩⟩
 ·cases e⟩
def oJ:tz6
 |[.int i]=>some (.int i)
 |[.bl k]=>some (.int (if k then 1 else 0))
 |_=>none
theorem wq0:CallR X (.type "int") (PCl X.K κ oJ):=⟨by
 rintro pins s σ H vs us Q I r ⟨ds,fp,d,rs,e,q⟩
 unfold oJ at e
 split at e
 ·cases e
  obtain⟨v,rfl,r1⟩:=rs.one_inv
  exact zw3 pins s σ H _ us Q I r (.inl ⟨_,by rw [r1.is_int],q.now (.int _)⟩)
 ·cases e
  obtain⟨v,rfl,r1⟩:=rs.one_inv
  exact zw3 pins s σ H _ us Q I r (.inr ⟨_,by rw [r1.is_bl],q.now (.int _)⟩)
 ·cases e⟩
def D.bools:List D->Option (List Bool)
 |[]=>some []
 | .bl b::ds=>(D.bools ds).map (b::·)
 |_::_=>none
theorem yg5{K:tz0}{H:Hp}:∀{vs:List V} {ds:List D} {fp:List Addr} {ns:List Bool},Reps K κ H vs ds fp->D.bools ds=some ns->vs=ns.map V.bl
 |_,_,_,_,.nil,e=>by cases e;rfl
 | _,d::ds,_,ns,.cons h hs,e=>by
  cases d with
  |bl i=>
   rw [D.bools] at e
   cases e1:D.bools ds with
   |none=>rw [e1] at e;cases e
   |some ms=>rw [e1] at e;cases e;rw [h.is_bl,yg5 hs e1];rfl
  |_=>cases e
def xa4:tz6
 |[.lst _ xs]=>(D.bools xs).map fun bs=> .bl (bs.all id)
 |_=>none
theorem wq1(hc:X.calm=true):CallR X (.builtin "all") (PCl X.K κ xa4):=⟨by
 rintro pins s σ H vs us Q I r ⟨ds,fp,d,rs,e,q⟩
 unfold xa4 at e
 split at e
 ·rename_i xs
  cases e1:D.bools xs with
  |none=>rw [e1] at e;cases e
  |some bs=>
   rw [e1] at e;cases e
   obtain⟨v,rfl,r1⟩:=rs.one_inv
   obtain⟨a,ws,g,rfl,h,hs,_⟩:=r1.lst_inv
   rw [yg5 hs e1] at h
   exact xe3 hc pins s σ H _ us Q I r ⟨a,bs,rfl,.inl h,q.now (.bl _)⟩
 ·cases e⟩
def xa5:tz6
 |[.lst _ xs]=>(D.ints xs).map fun ns=> .int ns.sum
 |_=>none
theorem wq2(hc:X.calm=true):CallR X (.builtin "sum") (PCl X.K κ xa5):=⟨by
 rintro pins s σ H vs us Q I r ⟨ds,fp,d,rs,e,q⟩
 unfold xa5 at e
 split at e
 ·rename_i xs
  cases e1:D.ints xs with
  |none=>rw [e1] at e;cases e
  |some bs=>
   rw [e1] at e;cases e
   obtain⟨v,rfl,r1⟩:=rs.one_inv
   obtain⟨a,ws,g,rfl,h,hs,_⟩:=r1.lst_inv
   rw [uA hs e1] at h
   exact xe4 hc pins s σ H _ us Q I r ⟨a,bs,rfl,.inl h,q.now (.int _)⟩
 ·cases e⟩
def PMt(K:tz0)(κ:tz9)(g:D->tz6):V->List V->Hp->VK->Prop:=fun x vs H Q=>∃dx ds fx fp d,Rep K κ H x dx fx/\Reps K κ H vs ds fp/\g dx ds=some d/\lN K κ H d Q
def zh2:D->Bool
 | .str _=>true
 |_=>false
def fMt(h:D->tz6)(f:tz2)(g:tz3):tz2:=fun ps=>(f ps).bind fun x=>(g ps).bind fun ds=>if zh2 x=true then h x ds else none
theorem zf9{name:Str}{id:String}{apos:Pos}{h:D->tz6}(slot:Slot "str" name id)(hty:typeOf (.builtin id)=pure (.type "method_descriptor"))(hm:MtR X id (PMt X.K κ h))(ho:QV X κ a fa)(ha:QVA X κ (e::es) g)
  (hbase:attributeBase a name X.env (eval a X.env)=eval a X.env:=by rfl)
  (hfew:((backTo pos (starEach (e::es) X.env)).all (fun x=> !x.1)&&(backToKw pos (keywordEach [] X.env)).all (fun x=>x.1.isSome)
   &&decide ((e::es).length+([]:List Keyword).length+(if ([]:List Keyword).isEmpty then 0 else 1)<30))=true:=by rfl)
  (hline:(apos.endLine==pos.line)=true:=by rfl) (hs:StE e es X:=by rfl) (hplain:BkE pos es X:=by rfl):
  QP X κ (.Call (.Attribute a name apos) (e::es) [] pos) (fMt h fa g):=
 (xx5 PySem.F.plainAttrs_str slot hty hm ho ha hbase hfew hline hs hplain).imp fun σ H Q hh_=>by
  obtain⟨ps,d,w,e,q⟩:=hh_
  obtain⟨x,e1,e2⟩:=bind_some e
  obtain⟨ds,e3,e4⟩:=bind_some e2
  obtain⟨hc,e5⟩:=cC e4
  refine⟨ps,x,w,e1,fun v H1 fp s1 r1=>⟨?_,ps,ds,w.same s1,e3,fun vs H2 fq s2 r2=>⟨x,ds,fp,fq,d,r1.same s2,r2,e5,q.after (s1.trans s2)⟩⟩⟩
  cases x with
  |str z=>rw [r1.is_str];rfl
  |_=>cases hc
def bZ(l:List Str):List D:=l.map .str
theorem zx6{K:tz0}{H:Hp}:∀l:List Str,Paired (fun v d=>Rep K κ H v d []) (l.map V.str) (bZ l)
 |[]=> .nil
 |x::l=> .cons (.str x) (zx6 l)
def sH:D->tz6
 | .str z,[.str y]=>if ((y.length==0)=false/\z.length<1000000) then some (.lst true (bZ (Txt.split z y))) else none
 |_,_=>none
theorem zs4:MtR X "str.split" (PMt X.K κ sH):=⟨by
 rintro pins s σ H x vs v us Q I rx r ⟨dx,ds,fx,fp,d,r1,rs,e,q⟩
 unfold sH at e
 split at e
 ·obtain⟨hc,e⟩:=cC e
  cases e
  obtain⟨w,rfl,r2⟩:=rs.one_inv
  exact xp9 pins s σ H x _ v us Q I rx r ⟨_,_,r1.is_str,by rw [r2.is_str],hc.1,hc.2,fun p hp=>zs3 hp (zx6 _) q⟩
 ·cases e⟩
def D.strs:List D->Option (List Str)
 |[]=>some []
 | .str b::ds=>(D.strs ds).map (b::·)
 |_::_=>none
theorem wZ{K:tz0}{H:Hp}:∀{vs:List V} {ds:List D} {fp:List Addr} {ns:List Str},Reps K κ H vs ds fp->D.strs ds=some ns->vs=ns.map V.str
 |_,_,_,_,.nil,e=>by cases e;rfl
 | _,d::ds,_,ns,.cons h hs,e=>by
  cases d with
  |str i=>
   rw [D.strs] at e
   cases e1:D.strs ds with
   |none=>rw [e1] at e;cases e
   |some ms=>rw [e1] at e;cases e;rw [h.is_str,wZ hs e1];rfl
  |_=>cases e
def zq0:D->tz6
 | .str z,[.lst _ xs]=>(D.strs xs).bind fun ys=>if (z.length<=16/\(ys.map (·.length)).sum+ys.length<=1048576) then some (.str (Txt.join z ys)) else none
 |_,_=>none
theorem wj5:MtR X "str.join" (PMt X.K κ zq0):=⟨by
 rintro pins s σ H x vs v us Q I rx r ⟨dx,ds,fx,fp,d,r1,rs,e,q⟩
 unfold zq0 at e
 split at e
 ·obtain⟨ys,e1,e2⟩:=bind_some e
  obtain⟨hc,e⟩:=cC e2
  cases e
  obtain⟨w,rfl,r2⟩:=rs.one_inv
  obtain⟨a,ws,g,rfl,h,hs,_⟩:=r2.lst_inv
  rw [wZ hs e1] at h
  exact wb0 pins s σ H x _ v us Q I rx r ⟨_,a,ys,r1.is_str,rfl,.inl h,hc.1,hc.2,q.now (.str _)⟩
 ·cases e⟩
end
structure Fx where
 K:tz0
 κ:tz9
 bor:Nat->Bool
 M:Nat->Bool
 B:Nat->Addr->Prop
structure RS(φ:Fx)(H:Hp)(σ:St)(ps:PSt)(F:Nat->List Addr):Prop where
 rep:∀(i:Nat) (d:D),ps[i]? =some (some d)->∃v fp,σ[i]? =some (some v)/\Rep φ.K φ.κ H v d fp/\(φ.bor i=false->fp=F i)/\(φ.bor i=true->∀a∈fp,φ.B i a)
 emp:∀i a,a∈F i->φ.bor i=false/\∃d,ps[i]? =some (some d)
 dis:∀i j a,a∈F i->a∈F j->i=j
 nd:∀i,(F i).Nodup
 nb:∀i a,a∈F i->∀k,¬φ.B k a
 bt:∀k a,φ.B k a->H a≠none
 len:ps.length<=σ.length
structure Frm(F:Nat->List Addr)(H H':Hp):Prop where
 keep:∀a o,H a=some o->kd o=true->(∀i,a∉F i)->H' a=some o
 grow:∀a,H' a=none->H a=none
structure Stp(φ:Fx)(σ:St)(H:Hp)(F:Nat->List Addr)(σ':St)(H':Hp)(ps':PSt)(F':Nat->List Addr):Prop where
 fr:Frm F H H'
 nw:∀i a,a∈F' i->(∃j,a∈F j)\/H a=none
 rs:RS φ H' σ' ps' F'
 msk:∀i,φ.M i=true->σ'[i]? =σ[i]?
structure OwnV(F:Nat->List Addr)(H:Hp)(F':Nat->List Addr)(fv:List Addr):Prop where
 nw:∀a∈fv,(∃j,a∈F j)\/H a=none
 nd:fv.Nodup
 dis:∀i,∀a∈F' i,a∉fv
section
variable{φ:Fx}{H H' H1 H2:Hp}{σ σ1 σ2:St}{ps ps1 ps2:PSt}{F F1 F2:Nat->List Addr}
theorem RS.own(R:RS φ H σ ps F){i:Nat}{a:Addr}(h:a∈F i):∃o,H a=some o/\kd o=true/\tf o=false:=by
 obtain⟨b,d,e⟩:=R.emp i a h
 obtain⟨v,fp,_,r,q,_⟩:=R.rep i d e
 rw [<-q b] at h
 exact r.own a h
theorem RS.ws(R:RS φ H σ ps F):WS φ.K φ.κ H σ ps:=fun i d h=>by
 obtain⟨v,fp,h1,h2,_⟩:=R.rep i d h
 exact⟨v,fp,h1,h2⟩
theorem RS.same(R:RS φ H σ ps F)(s:SameK H H'):RS φ H' σ ps F:=
 ⟨fun i d h=>by obtain⟨v,fp,h1,h2,h3⟩:=R.rep i d h;exact⟨v,fp,h1,h2.same s,h3⟩,R.emp,R.dis,R.nd,R.nb,fun k a h z=>R.bt k a h (s.grow a z),R.len⟩
theorem RS.notB(R:RS φ H σ ps F){a:Addr}(h:(∃j,a∈F j)\/H a=none):∀k,¬φ.B k a:=fun k hb=>h.elim (fun⟨j,hj⟩=>R.nb j a hj k hb) fun z=>R.bt k a hb z
theorem Stp.same(R:RS φ H σ ps F)(s:SameK H H'):Stp φ σ H F σ H' ps F:=
 ⟨⟨fun a o h k _=>s.keep a o h k,s.grow⟩,fun i a h=> .inl ⟨i,h⟩,R.same s,fun _ _=>rfl⟩
theorem Stp.refl(R:RS φ H σ ps F):Stp φ σ H F σ H ps F:= .same R (.refl H)
theorem Stp.trans(s1:Stp φ σ H F σ1 H1 ps1 F1)(s2:Stp φ σ1 H1 F1 σ2 H2 ps2 F2):Stp φ σ H F σ2 H2 ps2 F2:=by
 refine⟨⟨fun a o h k n=>s2.fr.keep a o (s1.fr.keep a o h k n) k fun i hi=> ?_,fun a h=>s1.fr.grow a (s2.fr.grow a h)⟩,fun i a h=> ?_,s2.rs,fun i h=>(s2.msk i h).trans (s1.msk i h)⟩
 ·rcases s1.nw i a hi with ⟨j,hj⟩|z
  ·exact n j hj
  ·rw [h] at z;cases z
 ·rcases s2.nw i a h with ⟨j,hj⟩|z
  ·exact s1.nw j a hj
  ·exact .inr (s1.fr.grow a z)
theorem OwnV.after(s1:Stp φ σ H F σ1 H1 ps1 F1)(o:OwnV F1 H1 F2 fv):OwnV F H F2 fv:=
 ⟨fun a ha=>(o.nw a ha).elim (fun⟨j,hj⟩=>s1.nw j a hj) fun z=> .inr (s1.fr.grow a z),o.nd,o.dis⟩
theorem OwnV.new(R:RS φ H σ ps F)(n:∀a∈fv,H a=none)(nd:fv.Nodup):OwnV F H F fv:=
 ⟨fun a ha=> .inr (n a ha),nd,fun i a ha hb=>by obtain⟨o,h,_⟩:=R.own ha;rw [n a hb] at h;cases h⟩
def wQ(F:Nat->List Addr)(i:Nat)(fv:List Addr):Nat->List Addr:=fun j=>if j=i then fv else F j
theorem fG:wQ F i fv i=fv:=by simp [wQ]
theorem fI(h:j≠i):wQ F i fv j=F j:=by simp [wQ,h]
theorem kP(h:a∈wQ F i fv j):a∈fv\/a∈F j:=by
 by_cases e:j=i
 ·subst e;rw [fG] at h;exact .inl h
 ·rw [fI e] at h;exact .inr h
theorem RS.drop(R:RS φ H σ ps F)(i:Nat):RS φ H σ (ps.set i none) (wQ F i []):=by
 have eF:∀j a,a∈wQ F i [] j->j≠i/\a∈F j:=fun j a h=>by
  by_cases e:j=i
  ·subst e;rw [fG] at h;exact absurd h (by simp)
  ·rw [fI e] at h;exact⟨e,h⟩
 refine⟨fun j d h=> ?_,fun j a h=> ?_,fun j k a h1 h2=>R.dis j k a (eF j a h1).2 (eF k a h2).2,fun j=> ?_,fun j a h=>R.nb j a (eF j a h).2,R.bt,by simpa using R.len⟩
 ·have e:j≠i:=by
   rintro rfl
   by_cases hj:j<ps.length
   ·rw [ZE hj] at h;cases h
   ·rw [Yw (by simpa using hj)] at h;cases h
  rw [Zy (fun z=>e z.symm)] at h
  rw [fI e]
  exact R.rep j d h
 ·obtain⟨e,h⟩:=eF j a h
  obtain⟨b,d,q⟩:=R.emp j a h
  exact⟨b,d,by rw [Zy (fun z=>e z.symm)];exact q⟩
 ·by_cases e:j=i
  ·subst e;rw [fG];exact Zn
  ·rw [fI e];exact R.nd j
theorem RS.set(R:RS φ H σ ps F){i:Nat}{v:V}{d:D}{fv:List Addr}(r:Rep φ.K φ.κ H v d fv)(hb:φ.bor i=false\/fv=[])(hd:∀j,j≠i->∀a∈F j,a∉fv)(hn:fv.Nodup)(hB:∀a∈fv,∀k,¬φ.B k a):
  RS φ H (σ.set i (some v)) (ps.set i (some d)) (wQ F i (if i<ps.length then fv else [])):=by
 by_cases hi:i<ps.length
 ·rw [if_pos hi]
  have hl:=R.len
  refine⟨fun j d' h=> ?_,fun j a h=> ?_,fun j k a h1 h2=> ?_,fun j=> ?_,fun j a h=> ?_,R.bt,by simpa using R.len⟩
  ·by_cases e:j=i
   ·subst e
    rw [ZE hi] at h
    cases h
    refine⟨v,fv,by rw [ZE (by omega)],r,fun _=>fG.symm,fun z=> ?_⟩
    rcases hb with q|q
    ·rw [q] at z;cases z
    ·subst q;intro a ha;exact absurd ha (by simp)
   ·rw [Zy (fun z=>e z.symm)] at h|-
    rw [fI e]
    exact R.rep j d' h
  ·by_cases e:j=i
   ·subst e
    rw [fG] at h
    refine⟨?_,d,by rw [ZE hi]⟩
    rcases hb with q|q
    ·exact q
    ·subst q;exact absurd h (by simp)
   ·rw [fI e] at h
    obtain⟨b,d',q⟩:=R.emp j a h
    exact⟨b,d',by rw [Zy (fun z=>e z.symm)];exact q⟩
  ·by_cases e1:j=i
   ·by_cases e2:k=i
    ·rw [e1,e2]
    ·subst e1;rw [fG] at h1;rw [fI e2] at h2;exact absurd h1 (hd k e2 a h2)
   ·by_cases e2:k=i
    ·subst e2;rw [fG] at h2;rw [fI e1] at h1;exact absurd h2 (hd j e1 a h1)
    ·rw [fI e1] at h1;rw [fI e2] at h2;exact R.dis j k a h1 h2
  ·by_cases e:j=i
   ·subst e;rw [fG];exact hn
   ·rw [fI e];exact R.nd j
  ·rcases kP h with z|z
   ·exact hB a z
   ·exact R.nb j a z
 ·rw [if_neg hi]
  have e0:ps.set i (some d)=ps:=XS (by omega)
  rw [e0]
  have R':=R.drop i
  rw [XS (by omega)] at R'
  refine⟨fun j d' h=> ?_,R'.emp,R'.dis,R'.nd,R'.nb,R'.bt,by simpa using R.len⟩
  have hj:j≠i:=by
   rintro rfl
   have:=(Z8.mp h).1
   omega
  rw [Zy (fun z=>hj z.symm)]
  exact R'.rep j d' h
theorem Stp.set(s1:Stp φ σ H F σ1 H1 ps1 F1)(o:OwnV F H F1 fv)(R:RS φ H σ ps F)(r:Rep φ.K φ.κ H1 v d fv)(hb:φ.bor i=false\/fv=[])(hm:φ.M i=false):
  ∃F',Stp φ σ H F (σ1.set i (some v)) H1 (ps1.set i (some d)) F':=by
 refine⟨_,s1.fr,fun j a h=> ?_,s1.rs.set r hb (fun j _=>o.dis j) o.nd fun a ha=>R.notB (o.nw a ha),fun j h=> ?_⟩
 ·rcases kP h with z|z
  ·by_cases k:i<ps1.length
   ·rw [if_pos k] at z;exact o.nw a z
   ·rw [if_neg k] at z;exact absurd z (by simp)
  ·exact s1.nw j a z
 ·rw [Zy (fun z=>by subst z;rw [hm] at h;cases h)]
  exact s1.msk j h
end
inductive Fl where
 |nx|bk|ct|ret (d:D)
abbrev _root_.tz1:=PSt->Option (Fl×PSt)
def zE(φ:Fx)(E:Ends)(σ:St)(H:Hp)(F:Nat->List Addr)(fl:Fl)(ps':PSt):Prop:=match fl with
 | .nx=>∀σ' H' F',Stp φ σ H F σ' H' ps' F'->E.nx σ' H'
 | .bk=>∀σ' H' F',Stp φ σ H F σ' H' ps' F'->E.bk σ' H'
 | .ct=>∀σ' H' F',Stp φ σ H F σ' H' ps' F'->E.ct σ' H'
 | .ret d=>∀v σ' H' F' fv,Stp φ σ H F σ' H' ps' F'->OwnV F H F' fv->Rep φ.K φ.κ H' v d fv->E.rt v H'
def tS(φ:Fx)(f:tz1):TS:=fun E σ H=>∃ps F fl ps',RS φ H σ ps F/\f ps=some (fl,ps')/\zE φ E σ H F fl ps'
def tE(φ:Fx)(f:tz8):TE:=fun σ H Q=>∃ps F d ps',RS φ H σ ps F/\f ps=some (d,ps')/\∀v H' F' fv,Stp φ σ H F σ H' ps' F'->OwnV F H F' fv->Rep φ.K φ.κ H' v d fv->Q v H'
def tTE(φ:Fx)(f:PSt->Option (Bool×PSt)):TT:=fun σ H Q=>∃ps F b ps',RS φ H σ ps F/\f ps=some (b,ps')/\∀H' F',Stp φ σ H F σ H' ps' F'->Q b H'
structure F0 where
 bor:Nat->Bool
 M:Nat->Bool
 B:Nat->Addr->Prop
def F0.fx(φ:F0)(K:tz0)(κ:tz9):Fx:=⟨K,κ,φ.bor,φ.M,φ.B⟩
abbrev QS(X:Cx)(κ:tz9)(φ:F0)(st:Stmt)(f:tz1):Prop:=PS X st (tS (φ.fx X.K κ) f)
abbrev QSs(X:Cx)(κ:tz9)(φ:F0)(st:List Stmt)(f:tz1):Prop:=PSs X st (tS (φ.fx X.K κ) f)
abbrev QE(X:Cx)(κ:tz9)(φ:F0)(e:Expr)(f:tz8):Prop:=PE X e (tE (φ.fx X.K κ) f)
abbrev QTE(X:Cx)(κ:tz9)(φ:F0)(e:Expr)(f:PSt->Option (Bool×PSt)):Prop:=PT X e (tTE (φ.fx X.K κ) f)
theorem zj3(s1:Stp φ σ H F σ1 H1 ps1 F1)(e:f ps1=some (fl,ps2))(q:zE φ E σ H F fl ps2):tS φ f E σ1 H1:=by
 refine⟨ps1,F1,fl,ps2,s1.rs,e,?_⟩
 cases fl with
 |nx=>exact fun σ' H' F' s=>q σ' H' F' (s1.trans s)
 |bk=>exact fun σ' H' F' s=>q σ' H' F' (s1.trans s)
 |ct=>exact fun σ' H' F' s=>q σ' H' F' (s1.trans s)
 |ret d=>exact fun v σ' H' F' fv s o r=>q v σ' H' F' fv (s1.trans s) (o.after s1) r
def bH:tz1:=fun ps=>some (.nx,ps)
def aT(f g:tz1):tz1:=fun ps=>(f ps).bind fun r=>match r with
 |(.nx,ps')=>g ps'
 |(.bk,ps')=>some (.bk,ps')
 |(.ct,ps')=>some (.ct,ps')
 |(.ret d,ps')=>some (.ret d,ps')
def xN:tz1:=fun _=>none
section
variable{X:Cx}{κ:tz9}{φ:F0}{st:Stmt}{rest:List Stmt}{f g:tz1}{pos:Pos}
theorem bS:QSs X κ φ [] bH:=yp1.imp fun E σ H ⟨ps,F,fl,ps',R,e,q⟩=>by cases e;exact q σ H F (.refl R)
theorem aM(h:QS X κ φ st f):QSs X κ φ [st] f:=zf3 h
theorem aL(h1:QS X κ φ st f)(h2:QSs X κ φ rest g):QSs X κ φ (st::rest) (aT f g):=
 (lX h1 h2).imp fun E σ H hh_=>by
  obtain⟨ps,F,fl,ps',R,e,q⟩:=hh_
  obtain⟨⟨fl1,ps1⟩,e1,e2⟩:=bind_some e
  refine⟨ps,F,fl1,ps1,R,e1,?_⟩
  cases fl1 with
  |nx=>exact fun σ' H' F' s=>zj3 s e2 q
  |bk=>cases e2;exact q
  |ct=>cases e2;exact q
  |ret d=>cases e2;exact q
theorem uP:QS X κ φ st xN:=xo2.imp fun E σ H ⟨ps,F,fl,ps',R,e,q⟩=>by cases e
def aI(f:tz2):tz8:=fun ps=>(f ps).bind fun d=>some (d,ps)
theorem QP.e{e:Expr}{f:tz2}(h:PE X e (tP X.K κ f)):QE X κ φ e (aI f):=h.imp fun σ H Q hh_=>by
 obtain⟨ps,F,d,ps',R,e,q⟩:=hh_
 obtain⟨d1,e1,e2⟩:=bind_some e
 cases e2
 exact⟨ps,_,R.ws,e1,fun v H' fv s n nd r=>q v H' F fv (.same R s) (.new R n nd) r⟩
def aV(f:tz4):PSt->Option (Bool×PSt):=fun ps=>(f ps).bind fun d=>some (d,ps)
theorem QT.e{e:Expr}{f:tz4}(h:PT X e (tQ X.K κ f)):QTE X κ φ e (aV f):=h.imp fun σ H Q hh_=>by
 obtain⟨ps,F,d,ps',R,e,q⟩:=hh_
 obtain⟨d1,e1,e2⟩:=bind_some e
 cases e2
 exact⟨ps,_,R.ws,e1,fun H' s=>q H' F (.same R s)⟩
def aU(i:Nat)(f:tz8):tz1:=fun ps=>(f ps).bind fun r=>some (.nx,r.2.set i (some r.1))
theorem rT(i:Nat){x:Str}{e:Expr}{pos':Pos}{f:tz8}(hN:X.N.Nodup)(hi:X.N[i]? =some x)(hx:Loc X.env.scope x)(hb:φ.bor i=false)(hm:φ.M i=false)(he:QE X κ φ e f)(hs:swapsWith e (some (.Name x pos')) pos.line X.env=pure false:=by rfl)(hf:X.fn x=true\/X.env.scope.names.lookup x=some .local:=by first|exact .inl rfl|exact .inr rfl|assumption):
  QS X κ φ (.Assign [.Name x pos'] e pos) (aU i f):=(rQ hN hi hx he hs hf).imp fun E σ H hh_=>by
 obtain⟨ps,F,fl,ps',R,e,q⟩:=hh_
 obtain⟨⟨d,ps1⟩,e1,e2⟩:=bind_some e
 cases e2
 refine⟨ps,F,d,ps1,R,e1,fun v H' F' fv s o r=> ?_⟩
 obtain⟨F2,s2⟩:=s.set o R r (.inl hb) hm (i:=i)
 exact q _ _ F2 s2
def tM(i:Nat)(f:tz8):tz1:=fun ps=>(f ps).bind fun r=>if r.1.imm=true then some (.nx,r.2.set i (some r.1)) else none
theorem wb4(i:Nat){x:Str}{e:Expr}{pos':Pos}{f:tz8}(hN:X.N.Nodup)(hi:X.N[i]? =some x)(hx:Loc X.env.scope x)(hm:φ.M i=false)(he:QE X κ φ e f)(hs:swapsWith e (some (.Name x pos')) pos.line X.env=pure false:=by rfl)(hf:X.fn x=true\/X.env.scope.names.lookup x=some .local:=by first|exact .inl rfl|exact .inr rfl|assumption):
  QS X κ φ (.Assign [.Name x pos'] e pos) (tM i f):=(rQ hN hi hx he hs hf).imp fun E σ H hh_=>by
 obtain⟨ps,F,fl,ps',R,e,q⟩:=hh_
 obtain⟨⟨d,ps1⟩,e1,e2⟩:=bind_some e
 obtain⟨hc,e3⟩:=cC e2
 cases e3
 refine⟨ps,F,d,ps1,R,e1,fun v H' F' fv s o r=> ?_⟩
 obtain⟨F2,s2⟩:=s.set o R r (.inr (r.imm hc)) hm (i:=i)
 exact q _ _ F2 s2
def cE(f:tz8):tz1:=fun ps=>(f ps).bind fun r=>some (.nx,r.2)
theorem eA{e:Expr}{f:tz8}(he:QE X κ φ e f)(hs:swapsWith e none pos.line X.env=pure false:=by rfl):QS X κ φ (.Expr e pos) (cE f):=(xz4 he hs).imp fun E σ H hh_=>by
 obtain⟨ps,F,fl,ps',R,e,q⟩:=hh_
 obtain⟨⟨d,ps1⟩,e1,e2⟩:=bind_some e
 cases e2
 exact⟨ps,F,d,ps1,R,e1,fun v H' F' fv s o r=>q _ _ F' s⟩
def bX(f:tz8):tz1:=fun ps=>(f ps).bind fun r=>some (.ret r.1,r.2)
theorem bQ{e:Expr}{f:tz8}(he:QE X κ φ e f):QS X κ φ (.Return (some e) pos) (bX f):=(za7 he).imp fun E σ H hh_=>by
 obtain⟨ps,F,fl,ps',R,e,q⟩:=hh_
 obtain⟨⟨d,ps1⟩,e1,e2⟩:=bind_some e
 cases e2
 exact⟨ps,F,d,ps1,R,e1,fun v H' F' fv s o r=>q v σ H' F' fv s o r⟩
def rH(i:Nat):tz1:=fun ps=>((ps[i]?).join).bind fun d=>some (.ret d,ps.set i none)
theorem join_some{ps:PSt}{i:Nat}{d:D}(h:(ps[i]?).join=some d):ps[i]? =some (some d):=by
 cases q:ps[i]? with
 |none=>rw [q] at h;cases h
 |some o=>rw [q] at h;exact ZV some h
theorem oW(i:Nat){x:Str}{p:Pos}(hb:φ.bor i=false)(hN:X.N[i]? =some x:=by rfl)(hv:Vis X.env.scope x:=by first|exact Or.inl rfl|exact Or.inr (Or.inl rfl)|exact Or.inr (Or.inr rfl))(hd:NDb x:=by decide)
  (hcd:(x==("__classdict__":Str))=false:=by decide):QS X κ φ (.Return (some (.Name x p)) pos) (rH i):=(za7 (wU hN hv hd hcd)).imp fun E σ H hh_=>by
 obtain⟨ps,F,fl,ps',R,e,q⟩:=hh_
 obtain⟨d,e1,e2⟩:=bind_some e
 cases e2
 obtain⟨v,fp,h1,h2,h3,_⟩:=R.rep i d (join_some e1)
 have h3:=h3 hb
 subst h3
 refine⟨v,h1,q v σ H (wQ F i []) (F i) ⟨⟨fun a o h _ _=>h,fun a h=>h⟩,fun j a h=> ?_,R.drop i,fun _ _=>rfl⟩ ⟨fun a h=> .inl ⟨i,h⟩,R.nd i,fun j a h1 h2=> ?_⟩ h2⟩
 ·rcases kP h with z|z
  ·exact absurd z (by simp)
  ·exact .inl ⟨j,z⟩
 ·rcases kP h1 with z|z
  ·exact absurd z (by simp)
  ·have:=R.dis j i a z h2
   subst this
   rw [fG] at h1;exact absurd h1 (by simp)
def fIf(c:PSt->Option (Bool×PSt))(f g:tz1):tz1:=fun ps=>(c ps).bind fun r=>if r.1=true then f r.2 else g r.2
theorem cA(hc:QTE X κ φ c tc)(ha:QSs X κ φ a f)(hb:QSs X κ φ b g):QS X κ φ (.If c a b pos) (fIf tc f g):=(yu3 hc ha hb).imp fun E σ H hh_=>by
 obtain⟨ps,F,fl,ps',R,e,q⟩:=hh_
 obtain⟨⟨k,ps1⟩,e1,e2⟩:=bind_some e
 refine⟨ps,F,k,ps1,R,e1,fun H' F' s=> ?_⟩
 cases k with
 |true=>rw [if_pos rfl] at e2|-;exact zj3 s e2 q
 |false=>rw [if_neg Z9] at e2|-;exact zj3 s e2 q
end
def mJ(c:PSt->Option (Bool×PSt))(f:tz1):Nat->tz1
 |0,_=>none
 | n+1,ps=>(c ps).bind fun r=>if r.1=true then(f r.2).bind fun q=>match q with
   |(.nx,p)=>mJ c f n p
   |(.ct,p)=>mJ c f n p
   |(.bk,p)=>some (.nx,p)
   |(.ret d,p)=>some (.ret d,p)
  else some (.nx,r.2)
section
variable{X:Cx}{φ:Fx}{pos:Pos}{body:List Stmt}{f:tz1}
theorem zE.back(s1:Stp φ σ H F σ1 H1 ps1 F1)(q:zE φ E σ H F fl ps2):zE φ E σ1 H1 F1 fl ps2:=by
 cases fl with
 |nx=>exact fun σ' H' F' s=>q σ' H' F' (s1.trans s)
 |bk=>exact fun σ' H' F' s=>q σ' H' F' (s1.trans s)
 |ct=>exact fun σ' H' F' s=>q σ' H' F' (s1.trans s)
 |ret d=>exact fun v σ' H' F' fv s o r=>q v σ' H' F' fv (s1.trans s) (o.after s1) r
def ww2(φ:Fx)(σ:St)(H:Hp)(F:Nat->List Addr)(tc:PSt->Option (Bool×PSt))(f:tz1)(fl:Fl)(ps':PSt)(m:Nat)(σ1:St)(H1:Hp):Prop:=∃ps1 F1,Stp φ σ H F σ1 H1 ps1 F1/\mJ tc f m ps1=some (fl,ps')
theorem xq3{κ:tz9}{φ:F0}(n:Nat){c:Expr}{tc:PSt->Option (Bool×PSt)}(hp:PassesOwn (model X.prog X.w) X.A X.env X.xe)(hc:QTE X κ φ c tc)(hb:QSs X κ φ body f):QS X κ φ (.While c body [] pos) (mJ tc f n):=
 (xo3 hp hc hb).imp fun E σ H hh_=>by
  obtain⟨ps,F,fl,ps',R,e,q⟩:=hh_
  refine⟨ww2 (φ.fx X.K κ) σ H F tc f fl ps',⟨n,ps,F,.refl R,e⟩,?_⟩
  rintro m σ1 H1 ⟨ps1,F1,s1,e1⟩
  cases m with
  |zero=>cases e1
  | succ m=>
   rw [mJ] at e1
   obtain⟨⟨k,ps2⟩,e2,e3⟩:=bind_some e1
   refine⟨ps1,F1,k,ps2,s1.rs,e2,fun H2 F2 s2=> ?_⟩
   have s12:=s1.trans s2
   cases k with
   |true=>
    dsimp only at e3|-
    rw [if_pos rfl] at e3|-
    obtain⟨⟨fl3,ps3⟩,e4,e5⟩:=bind_some e3
    refine⟨fun σ' H'=>∃F',Stp (φ.fx X.K κ) σ1 H2 F2 σ' H' ps3 F'/\mJ tc f m ps3=some (fl,ps'),fun σ' H' ⟨F',s,e⟩=>⟨m,YS m,ps3,F',s12.trans s,e⟩,?_⟩
    refine⟨ps2,F2,fl3,ps3,s2.rs,e4,?_⟩
    cases fl3 with
    |nx=>exact fun σ' H' F' s=>⟨F',s,e5⟩
    |ct=>exact fun σ' H' F' s=>⟨F',s,e5⟩
    |bk=>cases e5;exact fun σ' H' F' s=>q σ' H' F' (s12.trans s)
    |ret d=>cases e5;exact fun v σ' H' F' fv s o r=>q v σ' H' F' fv (s12.trans s) (o.after s12) r
   |false=>
    dsimp only at e3|-
    rw [if_neg Z9] at e3|-
    cases e3
    exact q _ _ F2 s12
end
def sZ(Z:List Addr)(H H':Hp):Prop:=∀a o,H a=some o->(tf o=true\/(kd o=true/\a∈Z))->H' a=some o
structure Walk(K:tz0)(κ:tz9)(J:It)(Z:List Addr)(H1:Hp)(ds:List D):Prop where
 go:∀H',sZ Z H1 H'->∀(i:Nat) d,ds[i]? =some d->J.go i H'/\∀x H2,J.yld i H' x H2->H2=H'/\Rep K κ H' x d []
 stop:∀H',sZ Z H1 H'->J.stop ds.length H'
def tIV(K:tz0)(κ:tz9)(f:tz3):TI:=fun σ H R=>∃ps ds,WS K κ H σ ps/\f ps=some ds/\∀J H1 Z,SameK H H1->Walk K κ J Z H1 ds->R J H1
def tIP(K:tz0)(κ:tz9)(f:tz3):TI:=fun σ H R=>∃ps ds,WS K κ H σ ps/\f ps=some ds/\∀J H1 Z,SameK H H1->(∀a∈Z,H a=none/\H1 a≠none)->Walk K κ J Z H1 ds->R J H1
theorem sZ.sq{K:tz0}{Z:List Addr}{H H':Hp}{a:Addr}{vs:List V}(k:sZ Z H H')(h:Rd H a (.lst vs))(hz:H a=some (.lst vs)->a∈Z):SqL K H' a vs:=by
 rcases h with h|⟨o,h⟩
 ·exact .inl (.inl (k a _ h (.inr ⟨rfl,hz h⟩)))
 ·exact .inl (.inr ⟨o,k a _ h (.inl rfl)⟩)
theorem sZ.rep{K:tz0}{κ:tz9}{Z:List Addr}{H H':Hp}{v:V}{d:D}(k:sZ Z H H')(r:Rep K κ H v d []):Rep K κ H' v d []:=r.move (fun a o h t=>k a o h (.inl t)) fun a ha=>absurd ha (by simp)
theorem lZ:∀{l₁:List α} {l₂:List β} {i:Nat} {y:β},Paired R l₁ l₂->l₂[i]? =some y->∃x,l₁[i]? =some x/\R x y
 |_,_,_,_,.nil,e=>by simp at e
 |_,_,0,_,.cons h _,e=>by simp at e;subst e;exact⟨_,rfl,h⟩
 |_,_,i+1,_,.cons _ t,e=>by obtain⟨x,h1,h2⟩:=lZ (i:=i) t (by simpa using e);exact⟨x,by simpa using h1,h2⟩
section
variable{K:tz0}{κ:tz9}{H1:Hp}{a:Addr}{vs:List V}{ds:List D}{Z:List Addr}
theorem zx7(h:Rd H1 a (.lst vs))(hz:H1 a=some (.lst vs)->a∈Z)(r:Paired (fun v d=>Rep K κ H1 v d []) vs ds):Walk K κ (Itl K a) Z H1 ds where
 go:=fun H' k i d e=>by
  obtain⟨x,e1,r1⟩:=lZ r e
  have sq:SqL K H' a vs:=k.sq h hz
  refine⟨⟨vs,x,sq,e1⟩,fun y H2 hy=>⟨hy.1,?_⟩⟩
  have e2:=hy.2 vs sq
  rw [e1] at e2;cases e2
  exact k.rep r1
 stop:=fun H' k=>⟨vs,k.sq h hz,by rw [ZM r];exact Z7 _⟩
theorem xq4(h:SqF K H1 a vs)(r:Paired (fun v d=>Rep K κ H1 v d []) vs ds):Walk K κ (Itl K a) Z H1 ds where
 go:=fun H' k i d e=>by
  obtain⟨x,e1,r1⟩:=lZ r e
  have sq:SqL K H' a vs:=(h.tf fun a o e t=>k a o e (.inl t)).l
  refine⟨⟨vs,x,sq,e1⟩,fun y H2 hy=>⟨hy.1,?_⟩⟩
  have e2:=hy.2 vs sq
  rw [e1] at e2;cases e2
  exact k.rep r1
 stop:=fun H' k=>⟨vs,(h.tf fun a o e t=>k a o e (.inl t)).l,by rw [ZM r];exact Z7 _⟩
theorem xq5(h:SqT K H1 a vs)(r:Paired (fun v d=>Rep K κ H1 v d []) vs ds):Walk K κ (Itt K a) Z H1 ds where
 go:=fun H' k i d e=>by
  obtain⟨x,e1,r1⟩:=lZ r e
  have sq:SqT K H' a vs:=h.tf fun a o e t=>k a o e (.inl t)
  refine⟨⟨vs,x,sq,e1⟩,fun y H2 hy=>⟨hy.1,?_⟩⟩
  have e2:=hy.2 vs sq
  rw [e1] at e2;cases e2
  exact k.rep r1
 stop:=fun H' k=>⟨vs,h.tf fun a o e t=>k a o e (.inl t),by rw [ZM r];exact Z7 _⟩
end
def dQ(lo:Int)(n:Nat):List D:=(List.range n).map fun(k:Nat)=> .int (lo+(k:Int))
theorem zm3{K:tz0}{κ:tz9}{H1:Hp}{Z:List Addr}(lo:Int)(n:Nat):Walk K κ (Itr lo n) Z H1 (dQ lo n) where
 go:=fun H' _ i d e=>by
  have hi:=(Z8.mp e).1
  unfold dQ at hi e
  rw [Zd,Ya] at hi
  rw [Zc,List.getElem?_range hi] at e
  cases e
  exact⟨hi,fun x H2 ⟨h1,h2⟩=>⟨h1,by rw [h2];exact .int _⟩⟩
 stop:=fun H' _=>by
  show n<=(dQ lo n).length
  unfold dQ
  rw [Zd,Ya];exact Z7 _
abbrev QIV(X:Cx)(κ:tz9)(tg iter:Expr)(f:tz3):Prop:=PI X tg iter (tIV X.K κ f)
abbrev QIP(X:Cx)(κ:tz9)(tg iter:Expr)(f:tz3):Prop:=PI X tg iter (tIP X.K κ f)
theorem PI.imp(h:PI X tg e t)(k:∀σ H Q,t' σ H Q->t σ H Q):PI X tg e t':=⟨fun pins s σ H Q I q=>h pins s σ H Q I (k σ H Q q)⟩
theorem QIP.v(h:QIP X κ tg iter f):QIV X κ tg iter f:=PI.imp h fun σ H R ⟨ps,ds,w,e,q⟩=>⟨ps,ds,w,e,fun J H1 Z s _ k=>q J H1 Z s k⟩
section
variable{X:Cx}{κ:tz9}{tg l a b:Expr}{f:tz2}{g:tz3}{p pos:Pos}
def vT:List D->Option (List D)
 |[.int j]=>if (-(2^62)<=j/\j<2^62) then some (dQ 0 j.toNat) else none
 |_=>none
def vU:List D->Option (List D)
 |[.int i,.int j]=>if (-(2^62)<=i/\i<2^62/\ -(2^62)<=j/\j<2^62) then some (dQ i (j-i).toNat) else none
 |_=>none
def eL(g:tz3):tz3:=fun ps=>(g ps).bind vT
def pP(g:tz3):tz3:=fun ps=>(g ps).bind vU
theorem mB(hg:Gl X "range")(hm:X.mg "range"=none)(ha:QVA X κ [a] g)(hs:starEach [a] X.env=[(false,eval a X.env)]:=by rfl):QIP X κ tg (.Call (.Name "range" p) [a] [] pos) (eL g):=
 PI.imp (xc4 hg hm ha hs) fun σ H R hh_=>by
  obtain⟨ps,ds,w,e,q⟩:=hh_
  obtain⟨as,e1,e2⟩:=bind_some e
  refine⟨ps,as,w,e1,fun vs H1 fp s1 r1=> ?_⟩
  unfold vT at e2
  split at e2
  ·obtain⟨hc,e3⟩:=cC e2
   cases e3
   obtain⟨v,rfl,r⟩:=r1.one_inv
   exact⟨_,by rw [r.is_int],hc.1,hc.2,q _ H1 [] s1 (fun _ h=>absurd h (by simp)) (zm3 _ _)⟩
  ·cases e2
theorem zx8(hg:Gl X "range")(hm:X.mg "range"=none)(ha:QVA X κ [a,b] g)(hs:starEach [a,b] X.env=[(false,eval a X.env),(false,eval b X.env)]:=by rfl)(hs2:starEach [b] X.env=[(false,eval b X.env)]:=by rfl):QIP X κ tg (.Call (.Name "range" p) [a,b] [] pos) (pP g):=
 PI.imp (xc5 hg hm ha hs hs2) fun σ H R hh_=>by
  obtain⟨ps,ds,w,e,q⟩:=hh_
  obtain⟨as,e1,e2⟩:=bind_some e
  refine⟨ps,as,w,e1,fun vs H1 fp s1 r1=> ?_⟩
  unfold vU at e2
  split at e2
  ·obtain⟨hc,e3⟩:=cC e2
   cases e3
   obtain⟨v,u,f,g,rfl,r,r'⟩:=r1.two_inv
   exact⟨_,_,by rw [r.is_int,r'.is_int],hc,q _ H1 [] s1 (fun _ h=>absurd h (by simp)) (zm3 _ _)⟩
  ·cases e2
def ww3(K:tz0)(tl:TE):TI:=fun σ H R=>tl σ H fun x H1=>∃a,x= .ref a/\(((∃xs,SqL K H1 a xs)/\R (Itl K a) H1)\/((∃xs,SqT K H1 a xs)/\R (Itt K a) H1))
theorem xf4(hl:PE X l tl):PI X tg l (ww3 X.K tl):=⟨by
 intro pins s σ H R I h
 refine thn (hl pins s σ H _ I h) fun v s1 ⟨x,H1,I1,r1,q1⟩=> ?_
 obtain⟨a,e,q1⟩:=q1
 subst e
 cases r1
 rcases q1 with ⟨⟨xs,hq⟩,q⟩|⟨⟨xs,hq⟩,q⟩
 ·obtain⟨its,rv,p,hz⟩:=I1.list hq
  refine wpAny_pyIter_list p.isList ?_
  refine⟨s1.heap.objs.size,[s1.heap.objs.size],_,_,H1,rfl,I1.kept (t':=s1.toks) fun b o e=>Zf _ e,xc3 a _,⟨_,Zw _ rfl,rfl,rfl⟩,fun b hb=> ?_,q⟩
  have e:b=s1.heap.objs.size:=by simpa using hb
  subst e
  exact I1.fpOk (Z7 _) (I1.hok.fresh (Z7 _))
 ·obtain⟨its,rv,p,hz⟩:=I1.tuple hq
  refine wpAny_pyIter_tuple (show s1.heap.IsTuple a its.toArray from p) ?_
  refine⟨s1.heap.objs.size,[s1.heap.objs.size],_,_,H1,rfl,I1.kept (t':=s1.toks) fun b o e=>Zf _ e,yu4 a _,⟨_,Zw _ rfl,rfl,rfl⟩,fun b hb=> ?_,q⟩
  have e:b=s1.heap.objs.size:=by simpa using hb
  subst e
  exact I1.fpOk (Z7 _) (I1.hok.fresh (Z7 _))⟩
def mK:D->Option (List D)
 | .lst _ xs=>if D.imms xs=true then some xs else none
 | .tup xs=>some xs
 | .con xs=>some xs
 |_=>none
theorem yq7{K:tz0}{H:Hp}{v:V}{d:D}{fp:List Addr}{ds:List D}{R:It->Hp->Prop}(r:Rep K κ H v d fp)(e:mK d=some ds)(q:∀J Z,(∀a∈Z,a∈fp)->Walk K κ J Z H ds->R J H):
  ∃a,v= .ref a/\(((∃xs,SqL K H a xs)/\R (Itl K a) H)\/((∃xs,SqT K H a xs)/\R (Itt K a) H)):=by
 cases d with
 |lst o xs=>
  obtain⟨hc,e⟩:=cC e
  cases e
  cases r with
  |lst h hs=>exact⟨_,rfl,.inl ⟨⟨_,.inl (.inl h)⟩,q _ [_] (fun a ha=>by simp at ha;subst ha;exact Z0) (zx7 (.inl h) (fun _=>by simp) (hs.pair hc))⟩⟩
  |lstF h hs=>exact⟨_,rfl,.inl ⟨⟨_,.inl (.inr ⟨_,h⟩)⟩,q _ [] (fun a ha=>absurd ha (by simp)) (zx7 (.inr ⟨_,h⟩) (fun z=>by rw [h] at z;cases z) (hs.pair hc))⟩⟩
 |tup xs=>
  cases e
  obtain⟨a,vs,rfl,h,hs⟩:=r.tup_inv
  exact⟨a,rfl,.inr ⟨⟨_,h⟩,q _ [] (fun a ha=>absurd ha (by simp)) (xq5 h hs.nilp)⟩⟩
 |con xs=>
  cases e
  obtain⟨a,vs,rfl,h,hs⟩:=r.con_inv
  exact⟨a,rfl,.inl ⟨⟨_,h.l⟩,q _ [] (fun a ha=>absurd ha (by simp)) (xq4 h hs.nilp)⟩⟩
 |_=>cases e
def eC(f:tz2):tz3:=fun ps=>(f ps).bind mK
theorem zm4(h:QV X κ l f):QIV X κ tg l (eC f):=PI.imp (xf4 h) fun σ H R hh_=>by
 obtain⟨ps,ds,w,e,q⟩:=hh_
 obtain⟨d,e1,e2⟩:=bind_some e
 exact⟨ps,d,w,e1,fun v H1 fv s1 r1=>yq7 r1 e2 fun J Z _ k=>q J H1 Z s1 k⟩
end
def cO(i:Nat)(f:tz1):List D->tz1
 |[],ps=>some (.nx,ps)
 | d::ds,ps=>(f (ps.set i (some d))).bind fun q=>match q with
   |(.nx,p)=>cO i f ds p
   |(.ct,p)=>cO i f ds p
   |(.bk,p)=>some (.nx,p)
   |(.ret d,p)=>some (.ret d,p)
section
variable{X:Cx}{φ:Fx}{pos:Pos}{body:List Stmt}{f:tz1}
theorem Frm.kept(R:RS φ H σ ps F)(k:Frm F H H')(hz:∀a∈Z,∀i,a∉F i):sZ Z H H':=fun a o h t=>by
 rcases t with t|⟨t1,t2⟩
 ·refine k.keep a o h (oR t) fun i hi=> ?_
  obtain⟨o',h',_,t'⟩:=R.own hi
  rw [h] at h';cases h';rw [t] at t';cases t'
 ·exact k.keep a o h t1 (hz a t2)
def wt0(J:It)(E:Ends)(V:Nat->Nat->St->Hp->Prop)(g:TG)(tb:TS)(k m:Nat)(σ:St)(H:Hp):Prop:=
 (J.stop k H/\E.nx σ H)\/(J.go k H/\∃N:St->Hp->Prop,(∀σ' H',N σ' H'->∃m',m'<m/\V (k+1) m' σ' H')/\∀x H',J.yld k H x H'->g x σ H' fun σ2 H2=>tb {E with nx:=N,ct:=N,bk:=E.nx} σ2 H2)
def ww4(φ:Fx)(σ:St)(H:Hp)(F:Nat->List Addr)(i:Nat)(f:tz1)(ds:List D)(fl:Fl)(ps':PSt)(k m:Nat)(σ1:St)(H1:Hp):Prop:=k<=ds.length/\m=ds.length-k/\∃ps1 F1,Stp φ σ H F σ1 H1 ps1 F1/\cO i f (ds.drop k) ps1=some (fl,ps')
theorem yg6(R:RS φ H σ ps F)(hz:∀a∈Z,H a≠none/\∀i,a∉F i)(W:Walk φ.K φ.κ J Z H ds)(hb:φ.bor i=false)(hm:φ.M i=false)
  (e:cO i f ds ps=some (fl,ps')) (q:zE φ E σ H F fl ps'):∃V:Nat->Nat->St->Hp->Prop,(∃m,V 0 m σ H)/\∀k m σ H,V k m σ H->wt0 J E V (zC i) (tS φ f) k m σ H:=by
 refine⟨ww4 φ σ H F i f ds fl ps',⟨_,ZL _,rfl,ps,F,.refl R,by rw [Xd];exact e⟩,?_⟩
 rintro k m σ1 H1 ⟨hk,rfl,ps1,F1,s1,e1⟩
 have kp:sZ Z H H1:=s1.fr.kept R fun a ha=>(hz a ha).2
 by_cases hlt:k<ds.length
 ·right
  have ed:ds[k]? =some ds[k]:=Zo hlt
  obtain⟨hgo,hy⟩:=W.go H1 kp k _ ed
  rw [ZT hlt,cO] at e1
  obtain⟨⟨fl2,ps2⟩,e2,e3⟩:=bind_some e1
  refine⟨hgo,fun σ' H'=>∃F',Stp φ σ H F σ' H' ps2 F'/\cO i f (ds.drop (k+1)) ps2=some (fl,ps'),fun σ' H' ⟨F',s,e⟩=>⟨ds.length-(k+1),by omega,hlt,rfl,ps2,F',s,e⟩,fun x H' y=> ?_⟩
  obtain⟨rfl,rx⟩:=hy x H' y
  obtain⟨F2,s2⟩:=(Stp.refl s1.rs).set (i:=i) (fv:=[]) (v:=x) (d:=ds[k]) ⟨fun _ h=>absurd h (by simp),Zn,fun _ _ _ h=>absurd h (by simp)⟩ s1.rs rx (.inl hb) hm
  have s12:=s1.trans s2
  refine⟨_,F2,fl2,ps2,s2.rs,e2,?_⟩
  cases fl2 with
  |nx=>exact fun σ' H' F' s=>⟨F',s12.trans s,e3⟩
  |ct=>exact fun σ' H' F' s=>⟨F',s12.trans s,e3⟩
  |bk=>cases e3;exact fun σ' H' F' s=>q σ' H' F' (s12.trans s)
  |ret d=>cases e3;exact fun v σ' H' F' fv s o r=>q v σ' H' F' fv (s12.trans s) (o.after s12) r
 ·left
  have ek:k=ds.length:=by omega
  subst ek
  rw [Xx,cO] at e1
  cases e1
  exact⟨W.stop H1 kp,q _ _ F1 s1⟩
def eP(i:Nat)(fi:tz3)(f:tz1):tz1:=fun ps=>(fi ps).bind fun ds=>cO i f ds ps
theorem nX{κ:tz9}{φ:F0}(i:Nat){x:Str}{px:Pos}{iter:Expr}{fi:tz3}(hp:PassesOwn (model X.prog X.w) X.A X.env X.xe)(hc:X.calm=true)(hN:X.N.Nodup)(hi:X.N[i]? =some x)(hx:Loc X.env.scope x)(hb:φ.bor i=false)(hm:φ.M i=false)
  (hit:PI X (.Name x px) iter (tIP X.K κ fi)) (hbd:QSs X κ φ body f) (hs:∀x,foldedSetIterable iter X.env x=pure x:=by intro _;rfl) (hf:X.fn x=true\/X.env.scope.names.lookup x=some .local:=by first|exact .inl rfl|exact .inr rfl|assumption):
  QS X κ φ (.For (.Name x px) iter body [] pos) (eP i fi f):=(yf4 hp hc hit (gB hN hi hx hf) hbd hs).imp fun E σ H hh_=>by
 obtain⟨ps,F,fl,ps',R,e,q⟩:=hh_
 obtain⟨ds,e1,e2⟩:=bind_some e
 refine⟨ps,ds,R.ws,e1,fun J H1 Z s1 hz W=> ?_⟩
 have s:=Stp.same R s1
 exact yg6 s.rs (fun a ha=>⟨(hz a ha).2,fun j hj=>by obtain⟨o,h,_⟩:=R.own hj;rw [(hz a ha).1] at h;cases h⟩) W hb hm e2 (q.back s)
def wo2(g:TG)(tb:TS)(E:Ends)(σ:St):It->Hp->Prop:=fun J H1=>∃W:Nat->Nat->St->Hp->Prop,(∃m,W 0 m σ H1)/\∀i m σ H,W i m σ H->
 (J.stop i H/\E.nx σ H)\/(J.go i H/\∃N:St->Hp->Prop,(∀σ' H',N σ' H'->∃m',m'<m/\W (i+1) m' σ' H')/\∀x H',J.yld i H x H'->g x σ H' fun σ2 H2=>tb {E with nx:=N,ct:=N,bk:=E.nx} σ2 H2)
theorem zs5{κ:tz9}{φ:F0}(i j:Nat){x y:Str}{px py:Pos}(hp:PassesOwn (model X.prog X.w) X.A X.env X.xe)(hc:X.calm=true)(hN:X.N.Nodup)(hi:X.N[i]? =some x)(hx:Loc X.env.scope x)(hb:φ.bor i=false)(hm:φ.M i=false)(hj:φ.bor j=true)
  (hbd:QSs X κ φ body f) (hNj:X.N[j]? =some y:=by rfl) (hv:Vis X.env.scope y:=by first|exact Or.inl rfl|exact Or.inr (Or.inl rfl)|exact Or.inr (Or.inr rfl)) (hd:NDb y:=by decide)
  (hcd:(y==("__classdict__":Str))=false:=by decide) (hs:∀x,foldedSetIterable (.Name y py) X.env x=pure x:=by intro _;rfl) (hf:X.fn x=true\/X.env.scope.names.lookup x=some .local:=by first|exact .inl rfl|exact .inr rfl|assumption):
  QS X κ φ (.For (.Name x px) (.Name y py) body [] pos) (eP i (eC (aB j)) f):=(yf4 hp hc (xf4 (wU hNj hv hd hcd)) (gB hN hi hx hf) hbd hs).imp fun E σ H hh_=>by
 obtain⟨ps,F,fl,ps',R,e,q⟩:=hh_
 obtain⟨ds,e1,e2⟩:=bind_some e
 obtain⟨d,e3,e4⟩:=bind_some e1
 obtain⟨v,fp,h1,h2,_,h4⟩:=R.rep j d (join_some e3)
 refine⟨v,h1,?_⟩
 refine yq7 (R:=wo2 (zC i) (tS (φ.fx X.K κ) f) E σ) h2 e4 fun J Z hz W=> ?_
 exact yg6 R (fun a ha=>⟨R.bt j a (h4 hj a (hz a ha)),fun k hk=>R.nb k a hk j (h4 hj a (hz a ha))⟩) W hb hm e2 q
end
def gP(np n:Nat)(f:tz1):tz6:=fun ds=>if ds.length=np then(f (ds.map some++List.replicate n none)).bind fun r=>match r with
 |(.ret d,_)=>some d
 |(.nx,_)=>some .non
 |_=>none
 else none
def SpP(np:Nat)(K:tz0)(κ:tz9)(g:tz6):Sp:=fun vs H Q _=>vs.length=np/\∃ds fp d,Reps K κ H vs ds fp/\g ds=some d/\lN K κ H d Q
def fxP(K:tz0)(κ:tz9)(np:Nat)(B:Nat->Addr->Prop):Fx:=⟨K,κ,fun i=>decide (i<np),fun _=>false,B⟩
def f0P(np:Nat)(B:Nat->Addr->Prop):F0:=⟨fun i=>decide (i<np),fun _=>false,B⟩
theorem xf5{N:List Str}{vs:List V}{i:Nat}{v:V}(h:vs[i]? =some v):(start N vs)[i]? =some (some v):=by
 unfold start
 have hi:=(Z8.mp h).1
 rw [ZS (by simpa using hi),Zc,h];rfl
theorem RS.start{K:tz0}{κ:tz9}{H:Hp}{N:List Str}{vs:List V}{ds:List D}{fp:List Addr}{np:Nat}(r:Reps K κ H vs ds fp)(hl:vs.length=np)(hn:np<=N.length):
  RS (fxP K κ np (fun _ a=>a∈fp)) H (start N vs) (ds.map some++List.replicate (N.length-np) none) (fun _=>[]):=by
 have el:=r.length
 refine⟨fun i d h=> ?_,fun i a h=>absurd h (by simp),fun i j a h=>absurd h (by simp),fun i=>Zn,fun i a h=>absurd h (by simp),fun k a h z=> ?_,?_⟩
 ·by_cases hi:i<ds.length
  ·rw [ZS (by simpa using hi),Zc] at h
   cases e:ds[i]? with
   |none=>rw [e] at h;cases h
   |some d'=>
    rw [e] at h;cases h
    obtain⟨v,f,h1,h2,h3⟩:=r.get e
    refine⟨v,f,xf5 h1,h2,fun z=> ?_,fun _=>h3⟩
    exact absurd (Yt z) (by omega)
  ·rw [YJ (by simpa using hi),Yu] at h
   split at h<;>cases h
 ·obtain⟨o,h,_⟩:=r.own a h
  rw [z] at h;cases h
 ·unfold L2.start
  simp only [Z2,Zd,Xa]
  omega
section
variable{P:Program}{w:World}{K:tz0}{mg:tzA}{base:Heap}{κ:tz9}
theorem cP{x qual:Str}{st:Stmt}{f:Addr}{fd:FuncData}{N ps:List Str}{k:Nat}{fb:tz1}(F:Fun K x qual st f fd)(S:FnScope N ps (aW st))
  (hbody:∀(cdv:Value) (A:Around) (outer:List Env) (s:Shared) (H:Hp) (E:XK) (B:Nat->Addr->Prop),Room k (A.deeper (envOfC qual (aW st) s.heap.objs.size f cdv))->
   QSs (iW CX0 P w K mg base N qual (aW st) f cdv A outer s H E).nox κ (f0P ps.length B) (nK st) fb):
  FnOk P w K mg base CX0 (k+1) f fd ps (SpP ps.length K κ (gP ps.length (N.length-ps.length) fb)):=by
 refine F.ok S (fun vs H Q E h=>h.1) fun cdv A outer s H vs Q E hr ⟨hl,ds,fp,d,r,e,q⟩=>⟨_,hbody cdv A outer s H E (fun _ a=>a∈fp) hr,?_⟩
 have hn:ps.length<=N.length:=by have:=ZV List.length S.pre;rw [Yy] at this;omega
 unfold gP at e
 obtain⟨_,e0⟩:=cC e
 obtain⟨⟨fl,ps'⟩,e1,e2⟩:=bind_some e0
 refine⟨_,fun _=>[],fl,ps',RS.start r hl hn,e1,?_⟩
 have sm:∀{H':Hp},Frm (fun _=>[]) H H'->SameK H H':=fun k=>⟨fun a o h kk=>k.keep a o h kk (fun _=>by simp),k.grow⟩
 cases fl with
 |ret d'=>
  cases e2
  exact fun v σ' H' F' fv s o rv=>q v H' fv (sm s.fr) (fun a ha=>(o.nw a ha).elim (fun⟨j,hj⟩=>absurd hj (by simp)) id) o.nd rv
 |nx=>
  cases e2
  exact fun σ' H' F' s=>q .non H' [] (sm s.fr) (fun a ha=>absurd ha (by simp)) Zn .non
 |bk=>cases e2
 |ct=>cases e2
end
section
variable{X:Cx}{κ:tz9}{e:Expr}{es:List Expr}{g:tz3}{pos p:Pos}
theorem bU{x:Str}{st:Stmt}{ps:List Str}{f:Addr}{fd:FuncData}{k np:Nat}{h:tz6}(Dd:Dn X.K X.mg x st ps f fd)(G:FnOk X.prog X.w X.K X.mg X.base CX0 k f fd ps (SpP np X.K κ h))(hr:Room k X.A)(hg:Gl X x)(hnp:(e::es).length=np)(ha:QVA X κ (e::es) g)
  (hlen:∀ps ds,g ps=some ds->ds.length=(e::es).length)
  (hdb:NDb x:=by decide) (he:StE e es X:=by rfl) (hpl:BkE pos es X:=by rfl):
  QP X κ (.Call (.Name x p) (e::es) [] pos) (aG h g):=(yv8 Dd G hr hg ha hdb he hpl).imp fun σ H Q hh_=>by
 obtain⟨ps,d,w,e,q⟩:=hh_
 obtain⟨ds,e1,e2⟩:=bind_some e
 refine⟨ps,ds,w,e1,fun vs H1 fp s1 r1=> ?_⟩
 show SpP np X.K κ h (vs++[]) H1 Q E0
 rw [Zi]
 exact⟨by rw [r1.length,hlen ps ds e1,hnp],ds,fp,d,r1,e2,q.after s1⟩
theorem xf6{x:Str}{st:Stmt}{ps:List Str}{f:Addr}{fd:FuncData}{k:Nat}{h:tz6}(Dd:Dn X.K X.mg x st ps f fd)(G:FnOk X.prog X.w X.K X.mg X.base CX0 k f fd ps (SpP 0 X.K κ h))(hr:Room k X.A)(hg:Gl X x)
  (hdb:NDb x:=by decide):QP X κ (.Call (.Name x p) [] [] pos) (aG h aE):=(wi5 Dd G hr hg hdb).imp fun σ H Q hh_=>by
 obtain⟨ps,d,w,e,q⟩:=hh_
 obtain⟨ds,e1,e2⟩:=bind_some e
 cases e1
 exact⟨rfl,[],[],d,.nil,e2,q⟩
theorem bA:∀(ps:PSt) (ds:List D),aE ps=some ds->ds.length=([]:List Expr).length:=fun _ _ h=>by cases h;rfl
theorem aJ(h:∀ps ds,g ps=some ds->ds.length=es.length):∀(ps:PSt) (ds:List D),aA f g ps=some ds->ds.length=(e::es).length:=fun ps ds q=>by
 obtain⟨d,es',_,e2,rfl⟩:=xZ q
 rw [Z6,Z6,h ps es' e2]
end
def qU(pick:List (Option Nat))(ps:PSt):PSt:=pick.map fun o=>o.bind fun j=>(ps[j]?).join
def fY(psb:PSt)(ft:tz4)(fe:tz2):List D->Option (List D)
 |[]=>some []
 |d::ds=>(ft (psb.set 0 (some d))).bind fun b=>if b=true then(fe (psb.set 0 (some d))).bind fun r=>(fY psb ft fe ds).bind fun rs=>some (r::rs) else fY psb ft fe ds
def iL(pick:List (Option Nat))(fi:tz3)(ft:tz4)(fe:tz2):tz2:=fun ps=>(fi ps).bind fun ds=>if ds.length<=sizeLine then(fY (qU pick ps) ft fe ds).bind fun rs=>some (.lst true rs) else none
def gW:tz4:=fun _=>some true
theorem WS.sub{K:tz0}{κ:tz9}{H:Hp}{σ:St}{ps:PSt}(pick:List (Option Nat))(w:WS K κ H σ ps):WS K κ H (sY pick σ) (qU pick ps):=fun i d h=>by
 unfold qU at h
 unfold sY
 rw [Zc] at h|-
 cases e:pick[i]? with
 |none=>rw [e] at h;cases h
 | some o=>
  rw [e] at h
  cases o with
  |none=>cases h
  |some j=>
   have h':(ps[j]?).join=some d:=ZD h
   obtain⟨v,fp,h1,h2⟩:=w j d (join_some h')
   refine⟨v,fp,?_,h2⟩
   show some ((σ[j]?).join)=some (some v)
   rw [h1];rfl
theorem WS.set0{K:tz0}{κ:tz9}{H:Hp}{σ:St}{ps:PSt}{v:V}{d:D}{fp:List Addr}(w:∀(i:Nat) (d:D),i≠0->ps[i]? =some (some d)->∃v fp,σ[i]? =some (some v)/\Rep K κ H v d fp)(hl:ps.length<=σ.length)(r:Rep K κ H v d fp):WS K κ H (σ.set 0 (some v)) (ps.set 0 (some d)):=fun i d' h=>by
 by_cases e:i=0
 ·subst e
  by_cases hp:0<ps.length
  ·rw [ZE hp] at h
   cases h
   exact⟨v,fp,by rw [ZE (by omega)],r⟩
  ·rw [Yw (by simpa using hp)] at h;cases h
 ·rw [Zy (fun z=>e z.symm)] at h|-
  exact w i d' e h
section
variable{X:Cx}{κ:tz9}{sc:Scope}{NX N:List Str}{pick:List (Option Nat)}{elt iter:Expr}{ifs:List Expr}{scope:Scope}{pos px:Pos}{x:Str}{fi:tz3}{ft:tz4}{fe:tz2}
theorem PTs.imp(h:PTs X ifs t)(k:∀σ H Q,t' σ H Q->t σ H Q):PTs X ifs t':=⟨fun pins s σ H Q I q=>h pins s σ H Q I (k σ H Q q)⟩
theorem uB:PTs X [] (tQ X.K κ gW):=wi6.imp fun σ H Q ⟨ps,b,w,e,q⟩=>by cases e;exact q H (.refl H)
structure Grown(K:tz0)(κ:tz9)(H1:Hp)(Dd:Addr)(H':Hp)(vs:List V)(rs:List D)(fv:List Addr):Prop where
 same:SameK H1 H'
 at_:H' Dd=some (.lst vs)
 rep:Reps K κ H' vs rs fv
 new:∀a∈fv,H1 a=none
 ne:Dd∉fv
 nd:fv.Nodup
def wt1(K:tz0)(κ:tz9)(J:It)(Dd:Addr)(q:Hp->Prop)(V:Nat->Nat->St->Hp->Prop)(ft:tz4)(fe:tz2)(i m:Nat)(σ':St)(H':Hp):Prop:=
  (J.stop i H'/\q H')\/(J.go i H'/\∀x H2,J.yld i H' x H2->zC 0 x σ' H2 fun σ3 H3=>tQ K κ ft σ3 H3 fun b H4=>
   if b=true then tP K κ fe σ3 H4 fun y H5=>∃ys,H5 Dd=some (.lst ys)/\ys.length<sizeLine/\∃m',m'<m/\V (i+1) m' σ3 (upd H5 Dd (.lst (ys++[y]))) else ∃m',m'<m/\V (i+1) m' σ3 H4)
def ww5(K:tz0)(κ:tz9)(H1:Hp)(Dd:Addr)(pick:List (Option Nat))(ps:PSt)(ft:tz4)(fe:tz2)(ds rs:List D)(i m:Nat)(σ':St)(H':Hp):Prop:=i<=ds.length/\m=ds.length-i/\(∀(j:Nat) (d:D),j≠0->(qU pick ps)[j]? =some (some d)->∃v fp,σ'[j]? =some (some v)/\Rep K κ H1 v d fp)/\(qU pick ps).length<=σ'.length/\
  ∃vs fv done rest,Grown K κ H1 Dd H' vs done fv/\done.length<=i/\fY (qU pick ps) ft fe (ds.drop i)=some rest/\rs=done++rest
theorem xq6{pick:List (Option Nat)}{J:It}{Z:List Addr}{σ:St}{ps:PSt}{H1:Hp}{Dd:Addr}{ds rs:List D}{Q:Addr->Hp->Prop}(w:WS X.K κ H1 σ ps)(hD:H1 Dd=none)(W:Walk X.K κ J Z H1 ds)(hz:ds.length<=sizeLine)
  (e:fY (qU pick ps) ft fe ds=some rs) (q:∀H' vs fv,Grown X.K κ H1 Dd H' vs rs fv->Q Dd H'):
  ∃V:Nat->Nat->St->Hp->Prop,(∃m,V 0 m (sY pick σ) (upd H1 Dd (.lst [])))/\∀i m σ' H',V i m σ' H'->wt1 X.K κ J Dd (Q Dd) V ft fe i m σ' H':=by
 refine⟨ww5 X.K κ H1 Dd pick ps ft fe ds rs,⟨_,ZL _,rfl,fun j d _ h=>w.sub pick j d h,by simp [qU,sY],[],[],[],rs,⟨.new hD _,dG,.nil,fun _ h=>absurd h (by simp),by simp,Zn⟩,ZL _,by rw [Xd];exact e,rfl⟩,?_⟩
 rintro i m σ' H' ⟨hi,rfl,ws,wl,vs,fv,done,rest,G,hdn,er,ers⟩
 have kp:sZ Z H1 H':=fun a o h t=>G.same.keep a o h (t.elim oR fun t=>t.1)
 by_cases hlt:i<ds.length
 ·right
  have ed:ds[i]? =some ds[i]:=Zo hlt
  obtain⟨hgo,hy⟩:=W.go H' kp i _ ed
  refine⟨hgo,fun x H2 y=> ?_⟩
  obtain⟨rfl,rx⟩:=hy x H2 y
  rw [ZT hlt,fY] at er
  obtain⟨b,e1,e2⟩:=bind_some er
  have wset:WS X.K κ H2 (σ'.set 0 (some x)) ((qU pick ps).set 0 (some ds[i])):=WS.set0 (fun j d hj h=>by obtain⟨v,fp,h1,h2⟩:=ws j d hj h;exact⟨v,fp,h1,h2.same G.same⟩) wl rx
  refine⟨_,b,wset,e1,fun H3 s3=> ?_⟩
  have keepS:∀(j:Nat) (d:D),j≠0->(qU pick ps)[j]? =some (some d)->∃v fp,(σ'.set 0 (some x))[j]? =some (some v)/\Rep X.K κ H1 v d fp:=fun j d hj h=>by
   obtain⟨v,fp,h1,h2⟩:=ws j d hj h
   exact⟨v,fp,by rw [Zy (fun z=>hj z.symm)];exact h1,h2⟩
  have Dkeep:∀{H5:Hp},SameK H2 H5->H5 Dd=some (.lst vs):=fun s=>s.keep _ _ G.at_ rfl
  cases b with
  | true=>
   dsimp only
   rw [if_pos rfl] at e2|-
   obtain⟨r,e3,e4⟩:=bind_some e2
   obtain⟨rs',e5,e6⟩:=bind_some e4
   cases e6
   refine⟨_,r,wset.same s3,e3,fun y H5 fw s5 n5 nd5 r5=> ?_⟩
   have s25:=s3.trans s5
   refine⟨vs,Dkeep s25,?_,ds.length-(i+1),by omega,hlt,rfl,keepS,by simpa using wl,vs++[y],fv++fw,done++[r],rs',?_,?_,e5,by rw [ers];simp⟩
   ·have:=G.rep.length;omega
   ·have hDw:Dd∉fw:=fun z=>by have:=s3.grow Dd (n5 Dd z);rw [G.at_] at this;cases this
    have hup:∀a,a≠Dd->upd H5 Dd (.lst (vs++[y])) a=H5 a:=fun a h=>bR h
    have tfk:∀a o,H5 a=some o->tf o=true->upd H5 Dd (.lst (vs++[y])) a=some o:=fun a o h t=>by
     rw [hup a]
     ·exact h
     ·rintro rfl;rw [Dkeep s25] at h;cases h;cases t
    have rv5:Reps X.K κ H5 vs done fv:=G.rep.same s25
    refine⟨⟨fun a o h k=> ?_,fun a h=> ?_⟩,dG,Reps.append (rv5.move tfk fun a ha=>hup a fun z=>G.ne (z▸ha)) (Reps.one (r5.move tfk fun a ha=>hup a fun z=>hDw (z▸ha))),fun a ha=> ?_,fun z=> ?_,?_⟩
    ·rw [hup a (fun z=>by subst z;rw [hD] at h;cases h)]
     exact(G.same.trans s25).keep a o h k
    ·by_cases z:a=Dd
     ·subst z;rw [dG] at h;cases h
     ·rw [hup a z] at h;exact(G.same.trans s25).grow a h
    ·rcases Zp.mp ha with z|z
     ·exact G.new a z
     ·exact(G.same.trans s3).grow a (n5 a z)
    ·rcases Zp.mp z with z|z
     ·exact G.ne z
     ·exact hDw z
    ·rw [ZB]
     refine⟨G.nd,nd5,fun a ha b hb e=> ?_⟩
     subst e
     obtain⟨o,h,k,_⟩:=G.rep.own a ha
     have:=s3.keep a o h k
     rw [n5 a hb] at this;cases this
   ·rw [Z2,Wc];omega
  |false=>
   dsimp only
   rw [if_neg Z9] at e2|-
   refine⟨ds.length-(i+1),by omega,hlt,rfl,keepS,by simpa using wl,vs,fv,done,rest,⟨G.same.trans s3,Dkeep s3,G.rep.same s3,G.new,G.ne,G.nd⟩,by omega,e2,ers⟩
 ·left
  have ek:i=ds.length:=by omega
  subst ek
  rw [Xx,fY] at er
  cases er
  rw [Zi] at ers
  subst ers
  exact⟨W.stop H' kp,q H' vs fv G⟩
theorem uC(S:CScope sc NX N pick scope)(hsc:X.env.scope=sc)(hNX:X.N=NX)(hc:X.calm=true)(hi:QIV X κ (.Name x px) iter fi)
  (hg:∀cl fp s H,PG (cxB X N scope cl fp s H) (.Name x px) (zC 0)) (ht:∀cl fp s H,PTs (cxB X N scope cl fp s H) ifs (tQ X.K κ ft)) (he:∀cl fp s H,PE (cxB X N scope cl fp s H) elt (tP X.K κ fe))
  (hs:∀x,foldedSetIterable iter X.env x=pure x:=by intro _;rfl):QP X κ (.ListComp elt [⟨.Name x px,iter,ifs,0⟩] scope pos) (iL pick fi ft fe):=
 (wa9 S hsc hNX hc hi hg ht he hs).imp fun σ H Q hh_=>by
  obtain⟨ps,d,w,e,q⟩:=hh_
  obtain⟨ds,e1,e2⟩:=bind_some e
  obtain⟨hz,e3⟩:=cC e2
  obtain⟨rs,e4,e5⟩:=bind_some e3
  cases e5
  refine⟨ps,ds,w,e1,fun J H1 Z s1 W Dd hD=> ?_⟩
  refine xq6 (Q:=fun Dd H'=>Q (.ref Dd) H') (w.same s1) hD W hz e4 fun H' vs fv G=> ?_
  refine q _ H' (Dd::fv) (s1.trans G.same) (fun a ha=> ?_) (Zu.mpr ⟨G.ne,G.nd⟩) (.lst G.at_ G.rep)
  rcases Z5.mp ha with z|z
  ·rw [z];exact s1.grow Dd hD
  ·exact s1.grow a (G.new a z)
end
inductive Ps1 where
 |ix (n:Nat)|fld (f:Str)
def cW:List Str->Str->Option Nat
 |[],_=>none
 |n::ns,f=>if n=f then some 0 else(cW ns f).map (·+1)
def fO{α:Type}(h:D->Option (α×D)):D->List Ps1->Option (α×D)
 |d,[]=>h d
 | .lst true xs,.ix n::p=>(xs[n]?).bind fun d=>(fO h d p).bind fun r=>some (r.1,.lst true (xs.set n r.2))
 | .obj true C ns vs,.fld f::p=>(cW ns f).bind fun n=>(vs[n]?).bind fun d=>(fO h d p).bind fun r=>some (r.1,.obj true C ns (vs.set n r.2))
 |_,_=>none
def kF:D->List Ps1->Option D
 |d,[]=>some d
 | .lst true xs,.ix n::p=>(xs[n]?).bind fun d=>kF d p
 | .obj true _ ns vs,.fld f::p=>(cW ns f).bind fun n=>(vs[n]?).bind fun d=>kF d p
 |_,_=>none
def At(H:Hp):V->List Ps1->V->Prop
 |v0,[],v=>v=v0
 |v0,.ix n::p,v=>∃a vs v1,v0= .ref a/\H a=some (.lst vs)/\vs[n]? =some v1/\At H v1 p v
 |v0,.fld f::p,v=>∃a C dx fs n v1,v0= .ref a/\H a=some (.ins C dx fs)/\cW (fs.map (·.1)) f=some n/\(fs.map (·.2))[n]? =some v1/\At H v1 p v
theorem At.same(s:SameK H H'):∀{p:List Ps1} {v0 v:V},At H v0 p v->At H' v0 p v
 |[],_,_,h=>h
 | .ix n::p,_,_,⟨a,vs,v1,h1,h2,h3,h4⟩=>⟨a,vs,v1,h1,s.keep _ _ h2 rfl,h3,At.same s h4⟩
 | .fld f::p,_,_,⟨a,C,dx,fs,n,v1,h1,h2,h3,h4,h5⟩=>⟨a,C,dx,fs,n,v1,h1,s.keep _ _ h2 rfl,h3,h4,At.same s h5⟩
theorem At.snoc_ix(h:H a=some (.lst vs))(hv:vs[n]? =some v):∀{p:List Ps1} {v0:V},At H v0 p (.ref a)->At H v0 (p++[.ix n]) v
 |[],_,e=>⟨a,vs,v,e.symm,h,hv,rfl⟩
 | .ix m::p,_,⟨b,us,v1,h1,h2,h3,h4⟩=>⟨b,us,v1,h1,h2,h3,At.snoc_ix h hv h4⟩
 | .fld f::p,_,⟨b,C,dx,fs,m,v1,h1,h2,h3,h4,h5⟩=>⟨b,C,dx,fs,m,v1,h1,h2,h3,h4,At.snoc_ix h hv h5⟩
theorem At.snoc_fld(h:H a=some (.ins C dx fs))(hn:cW (fs.map (·.1)) f=some n)(hv:(fs.map (·.2))[n]? =some v):∀{p:List Ps1} {v0:V},At H v0 p (.ref a)->At H v0 (p++[.fld f]) v
 |[],_,e=>⟨a,C,dx,fs,n,v,e.symm,h,hn,hv,rfl⟩
 | .ix m::p,_,⟨b,us,v1,h1,h2,h3,h4⟩=>⟨b,us,v1,h1,h2,h3,At.snoc_fld h hn hv h4⟩
 | .fld f'::p,_,⟨b,C',dx',fs',m,v1,h1,h2,h3,h4,h5⟩=>⟨b,C',dx',fs',m,v1,h1,h2,h3,h4,At.snoc_fld h hn hv h5⟩
theorem yq8(e:fO h d0 (.ix n::p)=some (r,d')):∃xs d1 d2,d0= .lst true xs/\xs[n]? =some d1/\fO h d1 p=some (r,d2)/\d'= .lst true (xs.set n d2):=by
 unfold fO at e
 split at e
 ·rename_i z;cases z
 ·rename_i z;cases z
  obtain⟨d1,h1,h2⟩:=bind_some e
  obtain⟨⟨r1,d2⟩,h3,h4⟩:=bind_some h2
  cases h4
  exact⟨_,_,_,rfl,h1,h3,rfl⟩
 ·rename_i z;cases z
 ·cases e
theorem yg7(e:fO h d0 (.fld f::p)=some (r,d')):∃C ns xs n d1 d2,d0= .obj true C ns xs/\cW ns f=some n/\xs[n]? =some d1/\fO h d1 p=some (r,d2)/\d'= .obj true C ns (xs.set n d2):=by
 unfold fO at e
 split at e
 ·rename_i z;cases z
 ·rename_i z;cases z
 ·rename_i z;cases z
  obtain⟨n,h0,h9⟩:=bind_some e
  obtain⟨d1,h1,h2⟩:=bind_some h9
  obtain⟨⟨r1,d2⟩,h3,h4⟩:=bind_some h2
  cases h4
  exact⟨_,_,_,_,_,_,rfl,h0,h1,h3,rfl⟩
 ·cases e
theorem zs6(e:kF d0 (.ix n::p)=some d):∃xs d1,d0= .lst true xs/\xs[n]? =some d1/\kF d1 p=some d:=by
 unfold kF at e
 split at e
 ·rename_i z;cases z
 ·rename_i z;cases z
  obtain⟨d1,h1,h2⟩:=bind_some e
  exact⟨_,_,rfl,h1,h2⟩
 ·rename_i z;cases z
 ·cases e
theorem zj4(e:kF d0 (.fld f::p)=some d):∃C ns xs n d1,d0= .obj true C ns xs/\cW ns f=some n/\xs[n]? =some d1/\kF d1 p=some d:=by
 unfold kF at e
 split at e
 ·rename_i z;cases z
 ·rename_i z;cases z
 ·rename_i z;cases z
  obtain⟨n,h0,h9⟩:=bind_some e
  obtain⟨d1,h1,h2⟩:=bind_some h9
  exact⟨_,_,_,_,_,rfl,h0,h1,h2⟩
 ·cases e
theorem oU:∀{d0:D},fO h d0 p=some (r,d')->∃d dn,kF d0 p=some d/\h d=some (r,dn):=by
 induction p generalizing d' with
 |nil=>intro d0 e;rw [fO] at e;exact⟨d0,d',by rw [kF],e⟩
 | cons s p ih=>
  intro d0 e
  cases s with
  |ix m=>
   obtain⟨xs,d1,d2,rfl,h1,h3,rfl⟩:=yq8 e
   obtain⟨d,dn,g1,g2⟩:=ih h3
   refine⟨d,dn,?_,g2⟩
   show(xs[m]?).bind _=_
   rw [h1];exact g1
  |fld f=>
   obtain⟨C,ns,xs,m,d1,d2,rfl,h0,h1,h3,rfl⟩:=yg7 e
   obtain⟨d,dn,g1,g2⟩:=ih h3
   refine⟨d,dn,?_,g2⟩
   show(cW ns f).bind _=_
   rw [h0]
   show(xs[m]?).bind _=_
   rw [h1];exact g1
section
variable{K:tz0}{κ:tz9}{H:Hp}
theorem Reps.focus:∀{vs:List V} {ds:List D} {g:List Addr} {n:Nat} {d1:D} {v1:V},Reps K κ H vs ds g->ds[n]? =some d1->vs[n]? =some v1->∃f1 rest,Rep K κ H v1 d1 f1/\g.Perm (f1++rest)/\
  ∀(H':Hp) (d':D) (f':List Addr),(∀a o,H a=some o->tf o=true->H' a=some o)->(∀a∈rest,H' a=H a)->Rep K κ H' v1 d' f'->∃g',Reps K κ H' vs (ds.set n d') g'/\g'.Perm (f'++rest)
 |_,_,_,_,_,_,.nil,e,_=>by simp at e
 |_,_,_,0,_,_,.cons (f:=f) (g:=g) h hs,e,e'=>by
  simp at e e';subst e;subst e'
  exact⟨f,g,h,.refl _,fun H' d' f' t k r=>⟨f'++g,.cons r (hs.move t k),.refl _⟩⟩
 | _,_,_,n+1,_,_,.cons (f:=f) (g:=g) h hs,e,e'=>by
  obtain⟨f1,rest,h1,h2,h3⟩:=Reps.focus (n:=n) hs (by simpa using e) (by simpa using e')
  refine⟨f1,f++rest,h1,?_,fun H' d' f' t k r=> ?_⟩
  ·refine(h2.append_left f).trans ?_
   rw [<-Zh,<-Zh]
   exact Yx.append_right rest
  ·obtain⟨g',r1,r2⟩:=h3 H' d' f' t (fun a ha=>k a (Ze _ ha)) r
   refine⟨f++g',.cons (h.move t fun a ha=>k a (Zq _ ha)) r1,?_⟩
   refine(r2.append_left f).trans ?_
   rw [<-Zh,<-Zh]
   exact Yx.append_right rest
theorem zx9{b:Addr}{g f1 fd rest rest1:List Addr}(k2:g.Perm (f1++rest1))(m3:f1.Perm (fd++rest)):(b::g).Perm (fd++b::(rest++rest1)):=by
 refine((k2.trans (m3.append_right rest1)).cons b).trans ?_
 rw [Zh]
 exact List.perm_middle.symm
def Foc(K:tz0)(κ:tz9)(H:Hp){α:Type}(h:D->Option (α×D))(r:α)(v v0:V)(d0':D)(fp:List Addr):Prop:=∃d d' fd rest,Rep K κ H v d fd/\h d=some (r,d')/\fp.Perm (fd++rest)/\
  ∀(H':Hp) (f':List Addr),(∀a o,H a=some o->tf o=true->H' a=some o)->(∀a∈rest,H' a=H a)->Rep K κ H' v d' f'->∃fp',Rep K κ H' v0 d0' fp'/\fp'.Perm (f'++rest)
theorem focus{α:Type}{h:D->Option (α×D)}{r:α}{p:List Ps1}:∀{v0 v:V} {d0 d0':D} {fp:List Addr},Rep K κ H v0 d0 fp->fO h d0 p=some (r,d0')->At H v0 p v->Foc K κ H h r v v0 d0' fp:=by
 induction p with
 |nil=>
  intro v0 v d0 d0' fp R e a
  rw [fO] at e
  cases(show v=v0 from a)
  exact⟨d0,d0',fp,[],R,e,by rw [Zi],fun H' f' t k r=>⟨f',r,by rw [Zi]⟩⟩
 | cons s p ih=>
  intro v0 v d0 d0' fp R e a
  have deep:∀(b:Addr) (vs:List V) (xs:List D) (n:Nat) (d1 d2:D) (v1:V) (g:List Addr),fp=b::g->Reps K κ H vs xs g->xs[n]? =some d1->vs[n]? =some v1->fO h d1 p=some (r,d2)->At H v1 p v->(∀(H':Hp) (g2:List Addr),H' b=H b->Reps K κ H' vs (xs.set n d2) g2->Rep K κ H' v0 d0' (b::g2))->
    Foc K κ H h r v v0 d0' fp:=fun b vs xs n d1 d2 v1 g ef hs h1 e3 h3 e4 mk=>by
   subst ef
   obtain⟨f1,rest1,k1,k2,k3⟩:=hs.focus h1 e3
   obtain⟨d,d',fd,rest,m1,m2,m3,m4⟩:=ih k1 h3 e4
   refine⟨d,d',fd,b::(rest++rest1),m1,m2,zx9 k2 m3,fun H' f' t k rr=> ?_⟩
   obtain⟨g1,q1,q2⟩:=m4 H' f' t (fun a ha=>k a (Z1 _ (Zq _ ha))) rr
   obtain⟨g2,q3,q4⟩:=k3 H' d2 g1 t (fun a ha=>k a (Z1 _ (Ze _ ha))) q1
   exact⟨b::g2,mk H' g2 (k b Z0) q3,zx9 q4 q2⟩
  cases s with
  |ix n=>
   obtain⟨b,vs,v1,e1,e2,e3,e4⟩:=a
   subst e1
   obtain⟨xs,d1,d2,rfl,h1,h3,rfl⟩:=yq8 e
   obtain⟨_,_,g,e5,hb,hs,ef⟩:=R.lstT_inv
   cases e5
   rw [e2] at hb;cases hb
   exact deep b vs xs n d1 d2 v1 g ef hs h1 e3 h3 e4 fun H' g2 k q3=> .lst (k.trans e2) q3
  |fld f=>
   obtain⟨b,C,dx,fs,n,v1,e1,e2,e2',e3,e4⟩:=a
   subst e1
   obtain⟨C',ns,xs,n',d1,d2,rfl,h0,h1,h3,rfl⟩:=yg7 e
   obtain⟨_,_,_,g,e5,hb,hn,hs,ef⟩:=R.objT_inv
   cases e5
   rw [e2] at hb;cases hb
   subst hn
   rw [e2'] at h0;cases h0
   exact deep b _ xs n d1 d2 v1 g ef hs h1 e3 h3 e4 fun H' g2 k q3=> .obj (k.trans e2) rfl q3
end
theorem xA(R:RS φ H σ ps F)(s1:SameK H H1)(hb:φ.bor j=false)(e0:ps[j]? =some (some d0))(ev:σ[j]? =some (some v0))
  (em:fO h d0 p=some (r,d0')) (at_:At H1 v0 p v):∃d d' fd,Rep φ.K φ.κ H1 v d fd/\h d=some (r,d')/\fd.Nodup/\(∀a∈fd,a∈F j)/\
  ∀(H':Hp) (fd' fr:List Addr),(∀a o,H1 a=some o->kd o=true->a∉fd->H' a=some o)->(∀a,H' a=none->H1 a=none)->Rep φ.K φ.κ H' v d' fd'->(fd'++fr).Nodup->(∀a∈fd'++fr,a∈fd\/H a=none)->
   ∃F',Stp φ σ H F σ H' (ps.set j (some d0')) F'/\OwnV F H F' fr:=by
 obtain⟨v0',fp,h1,h2,h3,_⟩:=R.rep j d0 e0
 rw [ev] at h1;cases h1
 have h3:=h3 hb
 subst h3
 obtain⟨d,d',fd,rest,m1,m2,m3,m4⟩:=focus (h2.same s1) em at_
 have ndF:=R.nd j
 have ndp:(fd++rest).Nodup:=m3.nodup_iff.mp ndF
 obtain⟨nd1,nd2,nd3⟩:=ZB.mp ndp
 have inF:∀a,a∈fd\/a∈rest->a∈F j:=fun a ha=>m3.mem_iff.mpr (Zp.mpr ha)
 refine⟨d,d',fd,m1,m2,nd1,fun a ha=>inF a (.inl ha),fun H' fd' fr k1 k2 k3 k4 k5=> ?_⟩
 have tfk:∀a o,H1 a=some o->tf o=true->H' a=some o:=fun a o ha t=>k1 a o ha (oR t) fun hm=>by
  obtain⟨o',q,_,q'⟩:=m1.own a hm
  rw [ha] at q;cases q;rw [t] at q';cases q'
 have keepO:∀a,(∃i,a∈F i)->a∉fd->H' a=H1 a:=fun a ⟨i,hi⟩ hn=>by
  obtain⟨o,q,q',_⟩:=R.own hi
  have q1:=s1.keep a o q q'
  rw [q1];exact k1 a o q1 q' hn
 have notfd:∀a,a∈rest->a∉fd:=fun a hr hf=>nd3 a hf a hr rfl
 obtain⟨fp',r1,r2⟩:=m4 H' fd' tfk (fun a ha=>keepO a ⟨j,inF a (.inr ha)⟩ (notfd a ha)) k3
 obtain⟨kd1,kd2,kd3⟩:=ZB.mp k4
 have memfp:∀a,a∈fp'->a∈fd'\/a∈rest:=fun a ha=>Zp.mp (r2.mem_iff.mp ha)
 have lt:j<ps.length:=(Z8.mp e0).1
 have old:∀a,a∈fd'++fr->∀i,a∈F i->a∈fd:=fun a ha i hi=>(k5 a ha).elim id fun z=>by
  obtain⟨o,q,_⟩:=R.own hi
  rw [z] at q;cases q
 refine⟨wQ F j fp',⟨⟨fun a o ha hk hn=> ?_,fun a ha=>s1.grow a (k2 a ha)⟩,fun i a ha=> ?_,⟨fun i d2 hi=> ?_,fun i a ha=> ?_,fun i k a ha hk=> ?_,fun i=> ?_,fun i a ha kk hB=> ?_,fun kk a hB z=>R.bt kk a hB (s1.grow a (k2 a z)),by simpa using R.len⟩,fun _ _=>rfl⟩,⟨fun a ha=> ?_,kd2,fun i a ha hr=> ?_⟩⟩
 ·exact k1 a o (s1.keep a o ha hk) hk fun hm=>hn j (inF a (.inl hm))
 ·rcases kP ha with z|z
  ·rcases memfp a z with z|z
   ·exact(k5 a (Zq _ z)).elim (fun z=> .inl ⟨j,inF a (.inl z)⟩) .inr
   ·exact .inl ⟨j,inF a (.inr z)⟩
  ·exact .inl ⟨i,z⟩
 ·by_cases e:i=j
  ·subst e
   rw [ZE lt] at hi
   cases hi
   exact⟨v0,fp',ev,r1,fun _=>fG.symm,fun z=>by rw [hb] at z;cases z⟩
  ·rw [Zy (fun z=>e z.symm)] at hi
   obtain⟨v2,f2,q1,q2,q3,q4⟩:=R.rep i d2 hi
   refine⟨v2,f2,q1,(q2.same s1).move tfk fun a ha=> ?_,fun z=>by rw [fI e];exact q3 z,q4⟩
   obtain⟨o,w1,w2,_⟩:=q2.own a ha
   have w3:=s1.keep a o w1 w2
   rw [w3]
   refine k1 a o w3 w2 fun hm=> ?_
   have hF:=inF a (.inl hm)
   cases hbi:φ.bor i with
   |true=>exact R.nb j a hF i (q4 hbi a ha)
   |false=>rw [q3 hbi] at ha;exact e (R.dis i j a ha hF)
 ·by_cases e:i=j
  ·subst e;exact⟨hb,d0',by rw [ZE lt]⟩
  ·rw [fI e] at ha
   obtain⟨b1,d1,b2⟩:=R.emp i a ha
   exact⟨b1,d1,by rw [Zy (fun z=>e z.symm)];exact b2⟩
 ·have hh:∀a,a∈fp'->∀i,i≠j->a∈F i->False:=fun a ha i hij hi=>by
   rcases memfp a ha with z|z
   ·exact hij (R.dis i j a hi (inF a (.inl (old a (Zq _ z) i hi))))
   ·exact hij (R.dis i j a hi (inF a (.inr z)))
  by_cases e1:i=j
  ·by_cases e2:k=j
   ·rw [e1,e2]
   ·subst e1;rw [fG] at ha;rw [fI e2] at hk;exact(hh a ha k e2 hk).elim
  ·by_cases e2:k=j
   ·subst e2;rw [fG] at hk;rw [fI e1] at ha;exact(hh a hk i e1 ha).elim
   ·rw [fI e1] at ha;rw [fI e2] at hk;exact R.dis i k a ha hk
 ·by_cases e:i=j
  ·subst e
   rw [fG]
   refine r2.nodup_iff.mpr (ZB.mpr ⟨kd1,nd2,fun a ha b hb' e=> ?_⟩)
   subst e
   exact notfd a hb' (old a (Zq _ ha) i (inF a (.inr hb')))
  ·rw [fI e];exact R.nd i
 ·rcases kP ha with z|z
  ·rcases memfp a z with z|z
   ·exact R.notB ((k5 a (Zq _ z)).elim (fun z=> .inl ⟨j,inF a (.inl z)⟩) .inr) kk hB
   ·exact R.nb j a (inF a (.inr z)) kk hB
  ·exact R.nb i a z kk hB
 ·exact(k5 a (Ze _ ha)).elim (fun z=> .inl ⟨j,inF a (.inl z)⟩) .inr
 ·rcases kP ha with z|z
  ·rcases memfp a z with z|z
   ·exact kd3 a z a hr rfl
   ·exact notfd a z (old a (Ze _ hr) j (inF a (.inr z)))
  ·have:=old a (Ze _ hr) i z
   by_cases e:i=j
   ·subst e
    rw [fG] at ha
    rcases memfp a ha with w|w
    ·exact kd3 a w a hr rfl
    ·exact notfd a w this
   ·exact e (R.dis i j a z (inF a (.inl this)))
def pQ(K:tz0)(κ:tz9)(j:Nat)(pf:PSt->Option (List Ps1)):TE:=fun σ H Q=>∃ps p d0 d,WS K κ H σ ps/\ps[j]? =some (some d0)/\pf ps=some p/\kF d0 p=some d/\∀v H' v0,SameK H H'->σ[j]? =some (some v0)->At H' v0 p v->Q v H'
theorem zj5{K:tz0}{κ:tz9}{H:Hp}{v0 v:V}{d0 d:D}{fp:List Addr}{p:List Ps1}(R:Rep K κ H v0 d0 fp)(g:kF d0 p=some d)(a:At H v0 p v):∃fd,Rep K κ H v d fd:=by
 have key:∀{p:List Ps1} {v0 v:V} {d0 d:D} {fp:List Addr},Rep K κ H v0 d0 fp->kF d0 p=some d->At H v0 p v->∃fd,Rep K κ H v d fd:=by
  intro p
  induction p with
  |nil=>intro v0 v d0 d fp R g a;cases g;cases(show v=v0 from a);exact⟨fp,R⟩
  | cons s p ih=>
   intro v0 v d0 d fp R g a
   cases s with
   |ix n=>
    obtain⟨b,vs,v1,e1,e2,e3,e4⟩:=a
    subst e1
    obtain⟨xs,d1,rfl,h1,h2⟩:=zs6 g
    obtain⟨_,_,_,e5,hb,hs,_⟩:=R.lstT_inv
    cases e5
    rw [e2] at hb;cases hb
    obtain⟨v',f,q1,q2,_⟩:=hs.get h1
    rw [e3] at q1;cases q1
    exact ih q2 h2 e4
   |fld f=>
    obtain⟨b,C,dx,fs,n,v1,e1,e2,e2',e3,e4⟩:=a
    subst e1
    obtain⟨C',ns,xs,n',d1,rfl,h0,h1,h2⟩:=zj4 g
    obtain⟨_,_,_,_,e5,hb,hn,hs,_⟩:=R.objT_inv
    cases e5
    rw [e2] at hb;cases hb
    subst hn
    rw [e2'] at h0;cases h0
    obtain⟨v',f,q1,q2,_⟩:=hs.get h1
    rw [e3] at q1;cases q1
    exact ih q2 h2 e4
 exact key R g a
def bK:PSt->Option (List Ps1):=fun _=>some []
def fP(j:Nat)(pf:PSt->Option (List Ps1))(fb:tz2):PSt->Option (List Ps1):=fun ps=>(pf ps).bind fun p=>((ps[j]?).join).bind fun d0=>(kF d0 p).bind fun d=>(fb ps).bind fun y=>match d,y with
 | .lst true xs,.int i=>(ixN xs.length i).bind fun n=>some (p++[.ix n])
 |_,_=>none
def yd7(j:Nat)(pf:PSt->Option (List Ps1))(C f:Str):PSt->Option (List Ps1):=fun ps=>(pf ps).bind fun p=>((ps[j]?).join).bind fun d0=>(kF d0 p).bind fun d=>match d with
 | .obj true C' _ _=>if C'=C then some (p++[.fld f]) else none
 |_=>none
theorem uQ:∀{fs:List (Str×V)} {f:Str} {n:Nat} {v:V},cW (fs.map (·.1)) f=some n->(fs.map (·.2))[n]? =some v->fs.lookup f=some v
 |[],_,_,_,h,_=>by cases h
 | (g,u)::fs,f,n,v,h,hv=>by
  rw [Zb,cW] at h
  by_cases e:g=f
  ·rw [if_pos e] at h
   cases h
   rw [ZA]
   have:(f==g)=true:=by simp [e]
   rw [this]
   simpa using hv
  ·rw [if_neg e] at h
   cases q:cW (fs.map (·.1)) f with
   |none=>rw [q] at h;cases h
   |some m=>
    rw [q] at h;cases h
    rw [ZA]
    have:(f==g)=false:=by simp;exact fun z=>e z.symm
    rw [this]
    exact uQ q (by simpa using hv)
section
variable{X:Cx}{φ:F0}{κ:tz9}{K:tz0}{o e a b:Expr}{f fb fe:tz2}{g:tz3}{pf:PSt->Option (List Ps1)}{j:Nat}{pos apos:Pos}
theorem bO(j:Nat){x:Str}(hN:X.N[j]? =some x:=by rfl)(hv:Vis X.env.scope x:=by first|exact Or.inl rfl|exact Or.inr (Or.inl rfl)|exact Or.inr (Or.inr rfl))(hd:NDb x:=by decide)
  (hcd:(x==("__classdict__":Str))=false:=by decide):PE X (.Name x pos) (pQ K κ j bK):=(wU hN hv hd hcd).imp fun σ H Q hh_=>by
 obtain⟨ps,p,d0,d,w,e0,ep,eg,q⟩:=hh_
 cases ep
 obtain⟨v,fp,h1,h2⟩:=w j d0 e0
 exact⟨v,h1,q v H v (.refl H) h1 rfl⟩
theorem kQ(ha:PE X a (pQ X.K κ j pf))(hb:QV X κ b fb)(hs:zh1 b:=by exact fun _ _=>rfl):PE X (.Subscript a b pos) (pQ X.K κ j (fP j pf fb)):=
 (yc8 zs0 ha hb hs).imp fun σ H Q hh_=>by
  obtain⟨ps,p,d0,d,w,e0,ep,eg,q⟩:=hh_
  obtain⟨p1,e1,e2⟩:=bind_some ep
  obtain⟨d0',e3,e4⟩:=bind_some e2
  have:=join_some e3
  rw [e0] at this;cases this
  obtain⟨d1,e5,e6⟩:=bind_some e4
  obtain⟨y,e7,e8⟩:=bind_some e6
  split at e8
  ·rename_i xs i
   obtain⟨n,e9,e10⟩:=bind_some e8
   cases e10
   refine⟨ps,p1,d0,_,w,e0,e1,e5,fun v H1 v0 s1 ev a1=>⟨ps,_,w.same s1,e7,fun u H2 fq s2 r2=> ?_⟩⟩
   obtain⟨v0',fp,h1,h2⟩:=w j d0 e0
   rw [ev] at h1;cases h1
   obtain⟨fd,rd⟩:=zj5 (h2.same (s1.trans s2)) e5 (a1.same s2)
   obtain⟨l,vs,g,rfl,hl,hr,_⟩:=rd.lstT_inv
   have ln:=hr.length
   have hn:=(zf4 e9).2.1
   obtain⟨v1,hv⟩:∃v1,vs[n]? =some v1:=⟨_,Zo (by rw [ln];exact hn)⟩
   refine⟨l,vs,i,v1,rfl,r2.is_int,.inl (.inl hl),?_,q _ H2 v0 (s1.trans s2) ev (At.snoc_ix hl hv (a1.same s2))⟩
   unfold atI
   rw [ln,e9];exact hv
  ·cases e8
theorem zy0{C fn:Str}(hc:Cls X.K (κ C))(hna:cN X.K (κ C) fn)(ha:PE X a (pQ X.K κ j pf))(hb:attributeBase a fn X.env (eval a X.env)=eval a X.env:=by rfl):PE X (.Attribute a fn pos) (pQ X.K κ j (yd7 j pf C fn)):=
 (wh4 ha hb).imp fun σ H Q hh_=>by
  obtain⟨ps,p,d0,d,w,e0,ep,eg,q⟩:=hh_
  obtain⟨p1,e1,e2⟩:=bind_some ep
  obtain⟨d0',e3,e4⟩:=bind_some e2
  have:=join_some e3
  rw [e0] at this;cases this
  obtain⟨d1,e5,e6⟩:=bind_some e4
  split at e6
  ·rename_i C' ns xs
   obtain⟨hC,e7⟩:=cC e6
   subst hC
   cases e7
   refine⟨ps,p1,d0,_,w,e0,e1,e5,fun v H1 v0 s1 ev a1=> ?_⟩
   obtain⟨v0',fp,h1,h2⟩:=w j d0 e0
   rw [ev] at h1;cases h1
   obtain⟨fd,rd⟩:=zj5 (h2.same s1) e5 a1
   have key:∀{p:List Ps1} {d0:D},kF d0 p=some (.obj true C' ns xs)->kF d0 (p++[.fld fn])=some d->∃n d',cW ns fn=some n/\xs[n]? =some d':=by
    intro p
    induction p with
    |nil=>
     intro d0 h1 h2
     cases h1
     obtain⟨n,k1,k2⟩:=bind_some h2
     obtain⟨d',k3,_⟩:=bind_some k2
     exact⟨n,d',k1,k3⟩
    | cons s p ih=>
     intro d0 h1 h2
     cases s with
     |ix m=>
      obtain⟨ys,x1,rfl,k1,k2⟩:=zs6 h1
      obtain⟨_,x2,z,k3,k4⟩:=zs6 h2
      cases z
      rw [k1] at k3;cases k3
      exact ih k2 k4
     |fld f'=>
      obtain⟨C2,ns2,ys,m1,x1,rfl,k0,k1,k2⟩:=zj4 h1
      obtain⟨_,_,_,m2,x2,z,k5,k3,k4⟩:=zj4 h2
      cases z
      rw [k0] at k5;cases k5
      rw [k1] at k3;cases k3
      exact ih k2 k4
   obtain⟨n,d',k1,k2⟩:=key e5 eg
   obtain⟨l,dx,fs,g,rfl,hl,hn,hr,_⟩:=rd.objT_inv
   subst hn
   obtain⟨v1,f1,k3,_⟩:=hr.get k2
   exact⟨l,κ C',dx,fs,v1,rfl,hl,hc,hna,uQ k1 k3,q _ H1 v0 s1 ev (At.snoc_fld hl k1 k3 a1)⟩
  ·cases e6
def dA(j:Nat)(pf:PSt->Option (List Ps1))(g:tz3)(h:List D->D->Option (D×D)):tz8:=fun ps=>((ps[j]?).join).bind fun d0=>(pf ps).bind fun p=>(g ps).bind fun ys=>(fO (h ys) d0 p).bind fun r=>some (r.1,ps.set j (some r.2))
theorem zb1(e:dA j pf g h ps=some (d,ps')):∃d0 p ys d0',ps[j]? =some (some d0)/\pf ps=some p/\g ps=some ys/\fO (h ys) d0 p=some (d,d0')/\ps'=ps.set j (some d0'):=by
 obtain⟨d0,e1,e2⟩:=bind_some e
 obtain⟨p,e3,e4⟩:=bind_some e2
 obtain⟨ys,e5,e6⟩:=bind_some e4
 obtain⟨⟨r,d0'⟩,e7,e8⟩:=bind_some e6
 cases e8
 exact⟨d0,p,ys,d0',join_some e1,e3,e5,e7,rfl⟩
def cT:List D->D->Option (D×D)
 |[y],.lst true xs=>if xs.length<sizeLine then some (.non,.lst true (xs++[y])) else none
 |_,_=>none
theorem zb2(h:cT ys d=some (r,d')):∃y xs,ys=[y]/\d= .lst true xs/\xs.length<sizeLine/\r= .non/\d'= .lst true (xs++[y]):=by
 unfold cT at h
 split at h
 ·obtain⟨hc,e⟩:=cC h
  cases e
  exact⟨_,_,rfl,rfl,hc,rfl,rfl⟩
 ·cases h
theorem zs7(w:WS K κ H σ ps)(s1:SameK H H1)(e0:ps[j]? =some (some d0))(ev:σ[j]? =some (some v0))(g:kF d0 p=some d)(a:At H1 v0 p v):∃fd,Rep K κ H1 v d fd:=by
 obtain⟨v0',fp,h1,h2⟩:=w j d0 e0
 rw [ev] at h1;cases h1
 exact zj5 (h2.same s1) g a
theorem jJ(hb:φ.bor j=false)(ho:PE X o (pQ X.K κ j pf))(ha:PA X [e] (tPA X.K κ g))
  (hbase:attributeBase o "append" X.env (eval o X.env)=eval o X.env:=by rfl)
  (hfew:((backTo pos (starEach [e] X.env)).all (fun x=> !x.1)&&(backToKw pos (keywordEach [] X.env)).all (fun x=>x.1.isSome)
   &&decide ([e].length+([]:List Keyword).length+(if ([]:List Keyword).isEmpty then 0 else 1)<30))=true:=by rfl)
  (hline:(apos.endLine==pos.line)=true:=by rfl) (hs:starEach [e] X.env=(false,eval e X.env)::starEach [] X.env:=by rfl) (hplain:(backTo pos (starEach [] X.env)).any (·.1)=false:=by rfl):
  QE X κ φ (.Call (.Attribute o "append" apos) [e] [] pos) (dA j pf g cT):=
 (xx5 XW PySem.F.slot_list_append PySem.F.type_list_append zx0 ho ha hbase hfew hline hs hplain).imp fun σ H Q hh_=>by
  obtain⟨ps,F,d,ps',R,e,q⟩:=hh_
  obtain⟨d0,p,ys,d0',e0,ep,eg,em,rfl⟩:=zb1 e
  obtain⟨dd,dn,gp,hh⟩:=oU em
  refine⟨ps,p,d0,dd,R.ws,e0,ep,gp,fun v H1 v0 s1 ev a1=>⟨?_,ps,ys,R.ws.same s1,eg,fun vs H2 fy s2 n2 nd2 r2=> ?_⟩⟩
  ·obtain⟨y,xs,rfl,rfl,_⟩:=zb2 hh
   obtain⟨fd,rd⟩:=zs7 R.ws s1 e0 ev gp a1
   obtain⟨_,_,_,rfl,hl,hr,rfl⟩:=rd.lstT_inv
   exact .inl ⟨rfl,_,.inl (.inl hl)⟩
  ·obtain⟨d1,d1',fd,m1,m2,m3,m4,m5⟩:=xA R (s1.trans s2) hb e0 ev em (a1.same s2)
   obtain⟨y,xs,rfl,rfl,hz,rfl,rfl⟩:=zb2 m2
   obtain⟨u,rfl,ru⟩:=r2.one_inv
   obtain⟨l,us,g1,rfl,hl,hr,rfl⟩:=m1.lstT_inv
   have ln:=hr.length
   refine⟨l,us,u,rfl,rfl,hl,by omega,?_⟩
   have nl:l∉fy:=fun z=>by have:=n2 l z;have:=s1.keep l;obtain⟨o,h1,h2,_⟩:=R.own (m4 l Z0);have:=s1.keep l o h1 h2;rw [n2 l z] at this;cases this
   obtain⟨nl2,nd3⟩:=Zu.mp m3
   have up:∀a,a≠l->upd H2 l (.lst (us++[u])) a=H2 a:=fun a h=>bR h
   have tfk:∀a o,H2 a=some o->tf o=true->upd H2 l (.lst (us++[u])) a=some o:=fun a o h t=>by
    rw [up a]
    ·exact h
    ·rintro rfl;rw [hl] at h;cases h;cases t
   obtain⟨F',st,ow⟩:=m5 (upd H2 l (.lst (us++[u]))) (l::(g1++fy)) [] (fun a o h _ hn=>by rw [up a (fun z=>hn (z▸Z0))];exact h)
    (fun a h=>by
     by_cases z:a=l
     ·subst z;rw [dG] at h;cases h
     ·rw [up a z] at h;exact h)
    (.lst dG (Reps.append (hr.move tfk fun a ha=>up a fun z=>nl2 (z▸ha)) (Reps.one (ru.move tfk fun a ha=>up a fun z=>nl (z▸ha)))))
    (by
     rw [Zi,Zu,ZB]
     refine⟨fun z=>(Zp.mp z).elim nl2 nl,nd3,nd2,fun a ha b hb e=> ?_⟩
     subst e
     obtain⟨o,h1,h2,_⟩:=R.own (m4 a (Z1 _ ha))
     have:=s1.keep a o h1 h2
     rw [n2 a hb] at this;cases this)
    (fun a ha=>by
     rw [Zi] at ha
     rcases Z5.mp ha with z|z
     ·exact .inl (z▸Z0)
     ·rcases Zp.mp z with z|z
      ·exact .inl (Z1 _ z)
      ·exact .inr (s1.grow a (n2 a z)))
   exact q .non _ F' [] st ow .non
end
section
variable{K:tz0}{κ:tz9}{H:Hp}{l:Addr}{o0 o:HO}
theorem xf7(hl:H l=some o0)(ht:tf o0=false):∀a u,H a=some u->tf u=true->upd H l o a=some u:=fun a u h t=>by
 rw [bR]
 ·exact h
 ·rintro rfl;rw [hl] at h;cases h;rw [ht] at t;cases t
theorem Rep.updL(r:Rep K κ H v d g)(hl:H l=some o0)(ht:tf o0=false)(n:l∉g):Rep K κ (upd H l o) v d g:=r.move (xf7 hl ht) fun a ha=>bR fun z=>n (z▸ha)
theorem Reps.updL(r:Reps K κ H v d g)(hl:H l=some o0)(ht:tf o0=false)(n:l∉g):Reps K κ (upd H l o) v d g:=r.move (xf7 hl ht) fun a ha=>bR fun z=>n (z▸ha)
theorem yA(h:H a=some u)(n:a∉l::g):upd H l o a=some u:=by
 rw [bR (fun z=>n (by rw [z];exact Z0))];exact h
theorem qM(h:upd H l o a=none):H a=none:=by
 by_cases z:a=l
 ·subst z;rw [dG] at h;cases h
 ·rw [bR z] at h;exact h
theorem Reps.pop:∀{vs:List V} {ds:List D} {g:List Addr} {d:D},Reps K κ H vs ds g->ds[ds.length-1]? =some d->∃v g1 f,vs[vs.length-1]? =some v/\Rep K κ H v d f/\Reps K κ H vs.dropLast ds.dropLast g1/\g=g1++f
 |_,_,_,_,.nil,e=>by simp at e
 |_,[d1],_,d,.cons (f:=f) h .nil,e=>by
  have e':d1=d:=by simpa using e
  subst e'
  exact⟨_,[],f,by simp,h,.nil,by simp⟩
 |v::v2::vs,d1::d2::ds,_,d,.cons (f:=f) h (.cons (f:=f2) (g:=g2) h2 hs),e=>by
  obtain⟨w,g1,f',k1,k2,k3,k4⟩:=Reps.pop (.cons h2 hs) (d:=d) (by simpa using e)
  refine⟨w,f++g1,f',by simpa using k1,k2,?_,by rw [Zh,<-k4]⟩
  rw [Wl,Wl]
  exact .cons h k3
theorem Reps.setV:∀{vs:List V} {ds:List D} {g:List Addr} {n:Nat} {v':V} {d':D} {f':List Addr},Reps K κ H vs ds g->n<ds.length->Rep K κ H v' d' f'->∃f1 rest g',g.Perm (f1++rest)/\Reps K κ H (vs.set n v') (ds.set n d') g'/\g'.Perm (f'++rest)
 |_,_,_,_,_,_,_,.nil,e,_=>by simp at e
 |_,_,_,0,_,_,f',.cons (f:=f) (g:=g) h hs,_,r=>⟨f,g,f'++g,.refl _,.cons r hs,.refl _⟩
 | _,_,_,n+1,_,_,f',.cons (f:=f) (g:=g) h hs,e,r=>by
  obtain⟨f1,rest,g',h1,h2,h3⟩:=Reps.setV (n:=n) hs (by simpa using e) r
  refine⟨f1,f++rest,f++g',?_,.cons h h2,?_⟩
  ·refine(h1.append_left f).trans ?_
   rw [<-Zh,<-Zh]
   exact Yx.append_right rest
  ·refine(h3.append_left f).trans ?_
   rw [<-Zh,<-Zh]
   exact Yx.append_right rest
end
section
variable{X:Cx}{φ:F0}{κ:tz9}{K:tz0}{o e a b:Expr}{f fi fe:tz2}{g:tz3}{pf:PSt->Option (List Ps1)}{j:Nat}{pos apos:Pos}
def pR:List D->D->Option (D×D)
 |[],.lst true xs=>(xs[xs.length-1]?).bind fun y=>some (y,.lst true xs.dropLast)
 |_,_=>none
theorem zy1(h:pR ys d=some (r,d')):∃xs,ys=[]/\d= .lst true xs/\xs[xs.length-1]? =some r/\d'= .lst true xs.dropLast:=by
 unfold pR at h
 split at h
 ·obtain⟨y,h1,h2⟩:=bind_some h
  cases h2
  exact⟨_,rfl,rfl,h1,rfl⟩
 ·cases h
theorem wj6(hb:φ.bor j=false)(ho:PE X o (pQ X.K κ j pf))
  (hbase:attributeBase o "pop" X.env (eval o X.env)=eval o X.env:=by rfl) (hline:(apos.endLine==pos.line)=true:=by rfl):QE X κ φ (.Call (.Attribute o "pop" apos) [] [] pos) (dA j pf aE pR):=
 (wi1 XW PySem.F.slot_list_pop PySem.F.type_list_pop wi2 ho hbase hline).imp fun σ H Q hh_=>by
  obtain⟨ps,F,d,ps',R,e,q⟩:=hh_
  obtain⟨d0,p,ys,d0',e0,ep,eg,em,rfl⟩:=zb1 e
  cases eg
  obtain⟨dd,dn,gp,hh⟩:=oU em
  refine⟨ps,p,d0,dd,R.ws,e0,ep,gp,fun v H1 v0 s1 ev a1=>⟨?_,?_⟩⟩
  ·obtain⟨xs,_,rfl,_⟩:=zy1 hh
   obtain⟨fd,rd⟩:=zs7 R.ws s1 e0 ev gp a1
   obtain⟨_,_,_,rfl,hl,hr,rfl⟩:=rd.lstT_inv
   exact .inl ⟨rfl,_,.inl (.inl hl)⟩
  ·obtain⟨d1,d1',fd,m1,m2,m3,m4,m5⟩:=xA R s1 hb e0 ev em a1
   obtain⟨xs,_,rfl,hx,rfl⟩:=zy1 m2
   obtain⟨l,us,g1,rfl,hl,hr,rfl⟩:=m1.lstT_inv
   obtain⟨u,g2,f2,k1,k2,k3,rfl⟩:=hr.pop hx
   obtain⟨nl,nd3⟩:=Zu.mp m3
   have n1:l∉g2:=fun z=>nl (Zq _ z)
   have n2:l∉f2:=fun z=>nl (Ze _ z)
   refine⟨l,us,u,rfl,rfl,hl,k1,?_⟩
   obtain⟨F',st,ow⟩:=m5 (upd H1 l (.lst us.dropLast)) (l::g2) f2 (fun a o h _ hn=>yA h hn)
    (fun a h=>qM h)
    (.lst dG (k3.updL hl rfl n1)) (by rw [ZN,Zu];exact⟨nl,nd3⟩) (fun a ha=> .inl ha)
   exact q u _ F' f2 st ow (k2.updL hl rfl n2)
def eU:D->D->D->Option (Unit×D)
 | .int i,y,.lst true xs=>(ixN xs.length i).bind fun n=>some ((),.lst true (xs.set n y))
 |_,_,_=>none
def dL(j:Nat)(pf:PSt->Option (List Ps1))(fi fe:tz2):tz1:=fun ps=>(fe ps).bind fun y=>((ps[j]?).join).bind fun d0=>(pf ps).bind fun p=>(fi ps).bind fun i=>(fO (eU i y) d0 p).bind fun r=>some (.nx,ps.set j (some r.2))
theorem yo3(h:eU i y d=some (r,d')):∃k xs n,i= .int k/\d= .lst true xs/\ixN xs.length k=some n/\d'= .lst true (xs.set n y):=by
 unfold eU at h
 split at h
 ·obtain⟨n,h1,h2⟩:=bind_some h
  cases h2
  exact⟨_,_,n,rfl,rfl,h1,rfl⟩
 ·cases h
theorem uR(hb:φ.bor j=false)(he:PE X e (tP X.K κ fe))(ho:PE X o (pQ X.K κ j pf))(hi:PE X i (tV X.K κ fi))(hs:swapsWithSole [.Subscript o i apos] e pos.line X.env=pure false:=by rfl)(hw:swappedStores [.Subscript o i apos] e X.env=pure none:=by rfl)
  (h1:(assignEach [.Subscript o i apos] X.env).map (·.2)=[assign (.Subscript o i apos) X.env]:=by rfl)
  (ha:∀v,assign (.Subscript o i apos) X.env v=(do
   let ov<-holding [v] (eval o X.env)
   let iv<-holding [v,ov] (eval i X.env)
   standAt apos
   holding [v,ov,iv] (setItem ov iv v)
   release [v,ov,iv] []):=by intro _;rfl):QS X κ φ (.Assign [.Subscript o i apos] e pos) (dL j pf fi fe):=
 (xc2 he (wg7 ho hi xp4 ha) hs hw h1).imp fun E σ H hh_=>by
  obtain⟨ps,F,fl,ps',R,e,q⟩:=hh_
  obtain⟨y,e1,e2⟩:=bind_some e
  obtain⟨d0,e3,e4⟩:=bind_some e2
  have e0:=join_some e3
  obtain⟨p,e5,e6⟩:=bind_some e4
  obtain⟨iv,e7,e8⟩:=bind_some e6
  obtain⟨⟨r,d0'⟩,em,e9⟩:=bind_some e8
  cases e9
  obtain⟨dd,dn,gp,hh⟩:=oU em
  refine⟨ps,y,R.ws,e1,fun v H1 fy s1 n1 nd1 ry=>⟨ps,p,d0,dd,R.ws.same s1,e0,e5,gp,fun lv H2 v0 s2 ev a2=>⟨ps,iv,(R.ws.same s1).same s2,e7,fun u H3 fu s3 r3=> ?_⟩⟩⟩
  have s13:=(s1.trans s2).trans s3
  obtain⟨d1,d1',fd,m1,m2,m3,m4,m5⟩:=xA R s13 hb e0 ev em (a2.same s3)
  obtain⟨k,xs,n,rfl,rfl,hn,rfl⟩:=yo3 m2
  obtain⟨l,us,g1,rfl,hl,hr,rfl⟩:=m1.lstT_inv
  have ln:=hr.length
  have ry3:=(ry.same s2).same s3
  obtain⟨nl,nd3⟩:=Zu.mp m3
  have own0:∀a∈l::g1,H a≠none:=fun a ha z=>by obtain⟨o,h,_⟩:=R.own (m4 a ha);rw [z] at h;cases h
  have nl2:l∉fy:=fun z=>own0 l Z0 (n1 l z)
  obtain⟨f1,rest,g2,k1,k2,k3⟩:=hr.setV (n:=n) (zf4 hn).2.1 ry3
  have mem2:∀a∈g2,a∈fy\/a∈g1:=fun a ha=>(Zp.mp (k3.mem_iff.mp ha)).elim .inl fun z=> .inr (k1.mem_iff.mpr (Ze _ z))
  have n2:l∉g2:=fun z=>(mem2 l z).elim nl2 nl
  refine⟨l,us,k,n,rfl,r3.is_int,hl,by rw [ln];exact hn,?_⟩
  obtain⟨F',st,ow⟩:=m5 (upd H3 l (.lst (us.set n v))) (l::g2) [] (fun a o h _ hn=>yA h hn)
   (fun a h=>qM h)
   (.lst dG (k2.updL hl rfl n2))
   (by
    rw [Zi,Zu]
    refine⟨n2,k3.nodup_iff.mpr (ZB.mpr ⟨nd1,?_,fun a ha b hb e=> ?_⟩)⟩
    ·exact(ZB.mp (k1.nodup_iff.mp nd3)).2.1
    ·subst e
     exact own0 a (Z1 _ (k1.mem_iff.mpr (Ze _ hb))) (n1 a ha))
   (fun a ha=>by
    rw [Zi] at ha
    rcases Z5.mp ha with z|z
    ·exact .inl (by rw [z];exact Z0)
    ·exact(mem2 a z).elim (fun z=> .inr (n1 a z)) fun z=> .inl (Z1 _ z))
  exact q _ _ F' st
end
section
variable{φ:Fx}{H H1:Hp}{σ σ1:St}{ps ps1:PSt}{F F1:Nat->List Addr}
theorem Stp.set'(s1:Stp φ σ H F σ1 H1 ps1 F1)(o:OwnV F H F1 fv)(R:RS φ H σ ps F)(r:Rep φ.K φ.κ H1 v d fv)(hb:φ.bor i=false\/fv=[])(hm:φ.M i=false):
  ∃F',Stp φ σ H F (σ1.set i (some v)) H1 (ps1.set i (some d)) F'/\∀k a,a∈F' k->a∈fv\/a∈F1 k:=by
 refine⟨_,⟨s1.fr,fun j a h=> ?_,s1.rs.set r hb (fun j _=>o.dis j) o.nd fun a ha=>R.notB (o.nw a ha),fun j h=> ?_⟩,fun k a h=> ?_⟩
 ·rcases kP h with z|z
  ·by_cases k:i<ps1.length
   ·rw [if_pos k] at z;exact o.nw a z
   ·rw [if_neg k] at z;exact absurd z (by simp)
  ·exact s1.nw j a z
 ·rw [Zy (fun z=>by subst z;rw [hm] at h;cases h)]
  exact s1.msk j h
 ·rcases kP h with z|z
  ·by_cases k:i<ps1.length
   ·rw [if_pos k] at z;exact .inl z
   ·rw [if_neg k] at z;exact absurd z (by simp)
  ·exact .inr z
def setN:St->List Nat->List V->St
 |σ,i::is,v::vs=>setN (σ.set i (some v)) is vs
 |σ,_,_=>σ
def pS:PSt->List Nat->List D->PSt
 |ps,i::is,d::ds=>pS (ps.set i (some d)) is ds
 |ps,_,_=>ps
def xO:List Nat->TGs
 |[]=>wm7
 |i::is=>xy3 (zC i) (xO is)
theorem vL:∀{is:List Nat} {vs:List V} {σ:St},vs.length=is.length->Q (setN σ is vs) H->xO is vs σ H Q
 |[],[],σ,_,q=>⟨rfl,q⟩
 |i::is,v::vs,σ,h,q=>⟨v,vs,rfl,vL (is:=is) (by simpa using h) q⟩
 |[],_::_,_,h,_=>by simp at h
 |_::_,[],_,h,_=>by simp at h
theorem Stp.setN(R:RS φ H σ ps F):∀{is:List Nat} {vs:List V} {ds:List D} {g:List Addr} {σ1:St} {ps1:PSt} {F1:Nat->List Addr},Stp φ σ H F σ1 H1 ps1 F1->OwnV F H F1 g->Reps φ.K φ.κ H1 vs ds g->(∀i∈is,φ.bor i=false/\φ.M i=false)->
  ∃F',Stp φ σ H F (L2.setN σ1 is vs) H1 (pS ps1 is ds) F':=by
 intro is
 induction is with
 |nil=>intro vs ds g σ1 ps1 F1 s _ _ _;exact⟨F1,by simpa [L2.setN,pS] using s⟩
 | cons i is ih=>
  intro vs ds g σ1 ps1 F1 s o r hi
  cases ds with
  |nil=>cases r;exact⟨F1,by simpa [L2.setN,pS] using s⟩
  |cons d ds=>
   obtain⟨v,us,f,g',rfl,h,hs,rfl⟩:=r.split
   obtain⟨nd1,nd2,nd3⟩:=ZB.mp o.nd
   obtain⟨F2,s2,hF⟩:=s.set' (i:=i) (fv:=f) ⟨fun a ha=>o.nw a (Zq _ ha),nd1,fun k a ha hf=>o.dis k a ha (Zq _ hf)⟩ R h (.inl (hi i Z0).1) (hi i Z0).2
   refine ih s2 ⟨fun a ha=>o.nw a (Ze _ ha),nd2,fun k a ha hg=> ?_⟩ hs fun k hk=>hi k (Z1 _ hk)
   rcases hF k a ha with z|z
   ·exact nd3 a z a hg rfl
   ·exact o.dis k a z (Ze _ hg)
end
def zF:D->Option (List D)
 | .lst _ ds=>some ds
 | .tup ds=>some ds
 |_=>none
def nS(is:List Nat)(f:tz8):tz1:=fun ps=>(f ps).bind fun r=>(zF r.1).bind fun ds=>if ds.length=is.length then some (.nx,pS r.2 is ds) else none
section
variable{X:Cx}{κ:tz9}{φ:F0}{es:List Expr}{pos p:Pos}{k:Nat}{is:List Nat}{e:Expr}{f:tz8}
theorem xf8(hc:X.calm=true)(h:PGs X es t)
  (hn:(assignEach es X.env).length=n:=by rfl) (hst:(assignEach es X.env).findIdx? (·.1)=none:=by rfl):PG X (.Tuple es k pos) (fun v σ H Q=>xw4 X.K n t v σ H Q\/xv9 X.K n t v σ H Q):=⟨by
 intro pins s σ H v u Q I r hw
 rcases hw with hw|hw
 ·exact wi9 hc h hn hst pins s σ H v u Q I r hw
 ·exact wg6 hc h hn hst pins s σ H v u Q I r hw⟩
theorem zy2(hc:X.calm=true)(hg:PGs X es (xO is))(he:QE X κ φ e f)(hb:∀i∈is,φ.bor i=false/\φ.M i=false)(hn:(assignEach es X.env).length=is.length:=by rfl)(hst:(assignEach es X.env).findIdx? (·.1)=none:=by rfl)
  (hs:swapsWithSole [.Tuple es k p] e pos.line X.env=pure false:=by rfl) (hw:swappedStores [.Tuple es k p] e X.env=pure none:=by rfl)
  (h1:(assignEach [.Tuple es k p] X.env).map (·.2)=[assign (.Tuple es k p) X.env]:=by rfl):QS X κ φ (.Assign [.Tuple es k p] e pos) (nS is f):=
 (xc2 he (xf8 (n:=is.length) hc hg hn hst) hs hw h1).imp fun E σ H hh_=>by
  obtain⟨ps,F,fl,ps',R,e,q⟩:=hh_
  obtain⟨⟨d,ps1⟩,e1,e2⟩:=bind_some e
  obtain⟨ds,e3,e4⟩:=bind_some e2
  obtain⟨hl,e5⟩:=cC e4
  cases e5
  refine⟨ps,F,d,ps1,R,e1,fun v H' F' fv s o r=> ?_⟩
  cases d with
  |lst ow xs=>
   cases e3
   obtain⟨a,vs,g,rfl,h,hs,sub⟩:=r.lst_inv
   have ln:=hs.length
   obtain⟨F2,s2⟩:=Stp.setN R s ⟨fun a ha=>o.nw a (sub.subset ha),o.nd.sublist sub,fun k a ha hg=>o.dis k a ha (sub.subset hg)⟩ hs hb
   exact .inl ⟨a,vs,rfl,.inl h,by omega,vL (by omega) (q _ _ F2 s2)⟩
  |tup xs=>
   cases e3
   obtain⟨a,vs,rfl,h,hs⟩:=r.tup_inv
   have ln:=hs.length
   obtain⟨F2,s2⟩:=Stp.setN R s ⟨fun a ha=>absurd ha (by simp),Zn,fun k a ha hg=>absurd hg (by simp)⟩ hs hb
   exact .inr ⟨a,vs,rfl,h,by omega,vL (by omega) (q _ _ F2 s2)⟩
  |_=>cases e3
end
def D.key:D->Option Key
 | .int i=>some (.inl i)
 | .str x=>some (.inr x)
 |_=>none
theorem zs8{K:tz0}{κ:tz9}{H:Hp}{v:V}{d:D}{fp:List Addr}{k:Key}(r:Rep K κ H v d fp)(h:d.key=some k):v=kV k:=by
 cases r<;>first|(cases h;rfl)|cases h
def pT:List Key->List D->Key->Option D
 |k::ks,d::ds,j=>if k=j then some d else pT ks ds j
 |_,_,_=>none
def lO:D->D->Option D
 | .dic _ ks ds,y=>y.key.bind fun k=>pT ks ds k
 |_,_=>none
theorem yg8{K:tz0}{κ:tz9}{H:Hp}:∀{kvs:List (Key×V)} {ks:List Key} {ds:List D} {g:List Addr} {k:Key} {d:D},kvs.map (·.1)=ks->Reps K κ H (kvs.map (·.2)) ds g->pT ks ds k=some d->∃v f,qS kvs k=some v/\Rep K κ H v d f/\f.Sublist g
 |[],_,_,_,_,_,e,r,h=>by subst e;cases r;cases h
 | (k0,v0)::kvs,_,_,_,k,d,e,.cons (f:=f) (g:=g) h hs,q=>by
  subst e
  rw [Zb,pT] at q
  by_cases z:k0=k
  ·rw [if_pos z] at q
   cases q
   exact⟨v0,f,uM z,h,XR _ _⟩
  ·rw [if_neg z] at q
   obtain⟨v,f',q1,q2,q3⟩:=yg8 rfl hs q
   exact⟨v,f',by rw [uN z];exact q1,q2,q3.trans (XM _ _)⟩
theorem Rep.dic_inv{K:tz0}{κ:tz9}{H:Hp}{v:V}{o:Bool}{ks:List Key}{ds:List D}{fp:List Addr}(r:Rep K κ H v (.dic o ks ds) fp):∃a kvs g,v= .ref a/\Rd H a (.dK kvs)/\kvs.map (·.1)=ks/\Reps K κ H (kvs.map (·.2)) ds g/\g.Sublist fp:=by
 cases r with
 |dic h e hs=>exact⟨_,_,_,rfl,.inl h,e,hs,X2 _ _⟩
 |dicF h e hs=>exact⟨_,_,_,rfl,.inr ⟨_,h⟩,e,hs,.refl _⟩
section
variable{X:Cx}{κ:tz9}{a b:Expr}{fa fb:tz2}{pos:Pos}
theorem wb5{K:tz0}{H:Hp}{x y:V}{dx dy d:D}{fx fy:List Addr}{Q:VK}(r1:Rep K κ H x dx fx)(r2:Rep K κ H y dy fy)(e:lO dx dy=some d)(q:∀v f,Rep K κ H v d f->f.Sublist fx->Q v H):∃a v,x= .ref a/\zv6 H a y (some v)/\Q v H:=by
 cases dx with
 |dic o ks ds=>
  obtain⟨k,e1,e2⟩:=bind_some e
  obtain⟨a,kvs,g,rfl,h,hk,hs,sub⟩:=r1.dic_inv
  obtain⟨v,f,q1,q2,q3⟩:=yg8 hk hs e2
  exact⟨a,v,rfl,.inl ⟨kvs,k,h,zs8 r2 e1,q1.symm⟩,q v f q2 (q3.trans sub)⟩
 |_=>cases e
theorem zg0(hu:X.A.units+1<cLine)(ha:QV X κ a fa)(hb:QV X κ b fb)(hs:xw3 b:=by exact fun _ _=>rfl):QV X κ (.Subscript a b pos) (f2 lO fa fb):=
 (wa7 hu ha hb hs).imp fun σ H Q hh_=>by
  obtain⟨ps,d,w,e,q⟩:=hh_
  obtain⟨x,y,e1,e2,e3⟩:=wX e
  exact⟨ps,x,w,e1,fun v H1 fp s1 r1=>⟨ps,y,w.same s1,e2,fun u H2 fq s2 r2=>wb5 (r1.same s2) r2 e3 fun v f r _=>q v H2 f (s1.trans s2) r⟩⟩
end
def fxE(K:tz0)(κ:tz9)(np:Nat)(m:Nat->Bool):Fx:=⟨K,κ,fun i=>decide (i<np)&& !m i,m,fun _ _=>False⟩
def f0E(np:Nat)(m:Nat->Bool):F0:=⟨fun i=>decide (i<np)&& !m i,m,fun _ _=>False⟩
def SpE(np:Nat)(K:tz0)(κ:tz9)(m:Nat->Bool)(g:tz7):Sp:=fun vs H Q _=>vs.length=np/\∃ds r ds' F,ds.length=np/\RS (fxE K κ np m) H (vs.map some) (ds.map some) F/\g ds=some (r,ds')/\
 ∀v H' F' fv,Stp (fxE K κ np m) (vs.map some) H F (vs.map some) H' (ds'.map some) F'->OwnV F H F' fv->Rep K κ H' v r fv->Q v H'
def zl1(m:Nat->Bool)(ps:PSt):Nat->List D->Option (List D)
 |_,[]=>some []
 |i,d::ds=>(if m i=true then(ps[i]?).join else some d).bind fun d'=>(zl1 m ps (i+1) ds).bind fun ds'=>some (d'::ds')
theorem zy3:∀{ds ds':List D} {i:Nat},zl1 m ps i ds=some ds'->ds'.length=ds.length/\∀(k:Nat) (d':D),ds'[k]? =some d'->(m (i+k)=true->ps[i+k]? =some (some d'))/\(m (i+k)=false->ds[k]? =some d')
 |[],_,_,e=>by cases e;exact⟨rfl,fun k d' h=>by simp at h⟩
 | d::ds,_,i,e=>by
  obtain⟨d1,e1,e2⟩:=bind_some e
  obtain⟨ds1,e3,e4⟩:=bind_some e2
  cases e4
  obtain⟨l,h⟩:=zy3 e3
  refine⟨by simp [l],fun k d' hk=> ?_⟩
  cases k with
  |zero=>
   simp at hk;subst hk
   refine⟨fun z=> ?_,fun z=> ?_⟩
   ·rw [Xr] at z|-;rw [if_pos z] at e1;exact join_some e1
   ·rw [Xr] at z;rw [if_neg (by rw [z];simp)] at e1;simpa using e1
  |succ k=>
   obtain⟨h1,h2⟩:=h k d' (by simpa using hk)
   have ea:i+(k+1)=i+1+k:=by omega
   rw [ea]
   exact⟨h1,fun z=>by simpa using h2 z⟩
def gE(np n:Nat)(m:Nat->Bool)(f:tz1):tz7:=fun ds=>if ds.length=np then(f (ds.map some++List.replicate n none)).bind fun r=>match r with
 |(.ret d,ps)=>(zl1 m ps 0 ds).bind fun ds'=>some (d,ds')
 |(.nx,ps)=>(zl1 m ps 0 ds).bind fun ds'=>some (.non,ds')
 |_=>none
 else none
theorem RS.more(R:RS φ H σ ps F)(hl:ps.length=σ.length)(h2:n<=σ2.length):RS φ H (σ++σ2) (ps++List.replicate n none) F:=by
 refine⟨fun i d h=> ?_,fun i a h=> ?_,R.dis,R.nd,R.nb,R.bt,by simp [hl];omega⟩
 ·by_cases hi:i<ps.length
  ·rw [ZS hi] at h
   rw [ZS (by omega)]
   exact R.rep i d h
  ·rw [YJ (by omega),Yu] at h
   split at h<;>cases h
 ·obtain⟨b,d,e⟩:=R.emp i a h
  have hi:=(Z8.mp e).1
  exact⟨b,d,by rw [ZS hi];exact e⟩
theorem yg9{K:tz0}{κ:tz9}{np n:Nat}{m:Nat->Bool}{H H':Hp}{vs:List V}{σ2 σ':St}{ds ds':List D}{ps':PSt}{F F':Nat->List Addr}{fv:List Addr}(hm:∀i,m i=true->i<np)(hl:vs.length=np)(hd:ds.length=np)(R:RS (fxE K κ np m) H (vs.map some) (ds.map some) F)
  (s:Stp (fxE K κ np m) (vs.map some++σ2) H F σ' H' ps' F') (o:OwnV F H F' fv) (e:zl1 m ps' 0 ds=some ds'):
  ∃F2,Stp (fxE K κ np m) (vs.map some) H F (vs.map some) H' (ds'.map some) F2/\OwnV F H F2 fv:=by
 obtain⟨l,ho⟩:=zy3 e
 have sub:∀i a,a∈(if m i=true then F' i else [])->m i=true/\a∈F' i:=fun i a h=>by
  by_cases z:m i=true
  ·rw [if_pos z] at h;exact⟨z,h⟩
  ·rw [if_neg z] at h;exact absurd h (by simp)
 have tfk:∀a u,H a=some u->tf u=true->H' a=some u:=fun a u h t=>s.fr.keep a u h (oR t) fun i hi=>by
  obtain⟨u',h',_,t'⟩:=R.own hi
  rw [h] at h';cases h';rw [t] at t';cases t'
 have mb:∀i,m i=true->(fxE K κ np m).bor i=false:=fun i h=>by simp [fxE,h]
 refine⟨fun i=>if m i=true then F' i else [],⟨s.fr,fun i a h=>s.nw i a (sub i a h).2,⟨fun i d h=> ?_,fun i a h=> ?_,fun i j a h1 h2=>s.rs.dis i j a (sub i a h1).2 (sub j a h2).2,fun i=> ?_,fun i a h=>s.rs.nb i a (sub i a h).2,fun _ a h=>h.elim,by simp [l,hl,hd]⟩,fun _ _=>rfl⟩,⟨o.nw,o.nd,fun i a h=>o.dis i a (sub i a h).2⟩⟩
 ·rw [Zc] at h
  cases q:ds'[i]? with
  |none=>rw [q] at h;cases h
  | some d1=>
   rw [q] at h;cases h
   obtain⟨h1,h2⟩:=ho i d q
   rw [YF] at h1 h2
   by_cases z:m i=true
   ·obtain⟨v,fp,k1,k2,k3,_⟩:=s.rs.rep i d (h1 z)
    refine⟨v,fp,?_,k2,fun _=>by rw [if_pos z];exact k3 (mb i z),fun w=>by rw [mb i z] at w;cases w⟩
    rw [<-k1]
    have:=s.msk i z
    rw [this,ZS (by simp [hl];exact hm i z)]
   ·have zf:m i=false:=by simpa using z
    have hi:(ds.map some)[i]? =some (some d):=by rw [Zc,h2 zf];rfl
    have hib:(fxE K κ np m).bor i=true:=by
     have:=(Z8.mp (h2 zf)).1
     simp [fxE,zf];omega
    obtain⟨v,fp,k1,k2,_,k4⟩:=R.rep i d hi
    have efp:fp=[]:=by
     cases fp with
     |nil=>rfl
     |cons a r=>exact(k4 hib a Z0).elim
    subst efp
    exact⟨v,[],k1,k2.move tfk (fun a ha=>absurd ha (by simp)),(fun w=>by rw [hib] at w;cases w),(fun _ a ha=>absurd ha (by simp))⟩
 ·obtain⟨z,h⟩:=sub i a h
  refine⟨mb i z,?_⟩
  have hi:i<ds'.length:=by rw [l,hd];exact hm i z
  exact⟨ds'[i],by rw [Zc,Zo hi];rfl⟩
 ·by_cases z:m i=true
  ·rw [if_pos z];exact s.rs.nd i
  ·rw [if_neg z];exact Zn
section
variable{P:Program}{w:World}{K:tz0}{mg:tzA}{base:Heap}{κ:tz9}
theorem jU{x qual:Str}{st:Stmt}{f:Addr}{fd:FuncData}{N ps:List Str}{k:Nat}{fb:tz1}{m:Nat->Bool}(F:Fun K x qual st f fd)(S:FnScope N ps (aW st))(hm:∀i,m i=true->i<ps.length)
  (hbody:∀(cdv:Value) (A:Around) (outer:List Env) (s:Shared) (H:Hp) (E:XK),Room k (A.deeper (envOfC qual (aW st) s.heap.objs.size f cdv))->
   QSs (iW CX0 P w K mg base N qual (aW st) f cdv A outer s H E).nox κ (f0E ps.length m) (nK st) fb):
  FnOk P w K mg base CX0 (k+1) f fd ps (SpE ps.length K κ m (gE ps.length (N.length-ps.length) m fb)):=by
 refine F.ok S (fun vs H Q E h=>h.1) fun cdv A outer s H vs Q E hr ⟨hl,ds,r,ds',F0,hd,R,e,q⟩=>⟨_,hbody cdv A outer s H E hr,?_⟩
 have hn:ps.length<=N.length:=by have:=ZV List.length S.pre;rw [Yy] at this;omega
 unfold gE at e
 obtain⟨_,e0⟩:=cC e
 obtain⟨⟨fl,ps'⟩,e1,e2⟩:=bind_some e0
 have R0:=R.more (σ2:=List.replicate (N.length-vs.length) none) (n:=N.length-ps.length) (by simp [hl,hd]) (by simp [hl])
 refine⟨_,F0,fl,ps',R0,e1,?_⟩
 cases fl with
 | ret d'=>
  obtain⟨ds1,e3,e4⟩:=bind_some e2
  cases e4
  exact fun v σ' H' F' fv s o rv=>by
   obtain⟨F2,s2,o2⟩:=yg9 (n:=0) hm hl hd R s o e3
   exact q v H' F2 fv s2 o2 rv
 | nx=>
  obtain⟨ds1,e3,e4⟩:=bind_some e2
  cases e4
  exact fun σ' H' F' s=>by
   obtain⟨F2,s2,o2⟩:=yg9 (n:=0) (fv:=[]) hm hl hd R s ⟨fun _ h=>absurd h (by simp),Zn,fun _ _ _ h=>absurd h (by simp)⟩ e3
   exact q .non H' F2 [] s2 o2 .non
 |bk=>cases e2
 |ct=>cases e2
end
set_option genInjectivity true in
inductive Arg where
 |io (j:Nat)|im (f:tz2)
def cJ:List Arg->tz3
 |[],_=>some []
 | .io j::as,ps=>((ps[j]?).join).bind fun d=>(cJ as ps).bind fun ds=>some (d::ds)
 | .im f::as,ps=>(bB f ps).bind fun d=>(cJ as ps).bind fun ds=>some (d::ds)
def nU:List Arg->Nat->Bool
 | .io _::_,0=>true
 |_::as,i+1=>nU as i
 |_,_=>false
def slots:List Arg->List Nat
 |[]=>[]
 | .io j::as=>j::slots as
 | .im _::as=>slots as
def iX:PSt->List Arg->List D->PSt
 |ps,.io j::as,d::ds=>iX (ps.set j (some d)) as ds
 |ps,.im _::as,_::ds=>iX ps as ds
 |ps,_,_=>ps
inductive ArgsAt(K:tz0)(κ:tz9)(H:Hp)(σ:St)(ps:PSt):List Arg->List V->List D->Prop
 |nil:ArgsAt K κ H σ ps [] [] []
 |io {j:Nat} {as:List Arg} {v:V} {vs:List V} {d:D} {ds:List D}:σ[j]? =some (some v)->ps[j]? =some (some d)->ArgsAt K κ H σ ps as vs ds->ArgsAt K κ H σ ps (.io j::as) (v::vs) (d::ds)
 |im {f:tz2} {as:List Arg} {v:V} {vs:List V} {d:D} {ds:List D}:Rep K κ H v d []->ArgsAt K κ H σ ps as vs ds->ArgsAt K κ H σ ps (.im f::as) (v::vs) (d::ds)
theorem ArgsAt.len{K:tz0}{κ:tz9}{H:Hp}{σ:St}{ps:PSt}:∀{as:List Arg} {vs:List V} {ds:List D},ArgsAt K κ H σ ps as vs ds->vs.length=as.length/\ds.length=as.length
 |_,_,_,.nil=>⟨rfl,rfl⟩
 |_,_,_,.io _ _ h=>by have:=h.len;simp [this]
 |_,_,_,.im _ h=>by have:=h.len;simp [this]
theorem ArgsAt.get{K:tz0}{κ:tz9}{H:Hp}{σ:St}{ps:PSt}:∀{as:List Arg} {vs:List V} {ds:List D} {i:Nat} {d:D},ArgsAt K κ H σ ps as vs ds->ds[i]? =some d->∃v,vs[i]? =some v/\((∃j,as[i]? =some (.io j)/\nU as i=true/\σ[j]? =some (some v)/\ps[j]? =some (some d))\/(nU as i=false/\Rep K κ H v d []))
 |_,_,_,_,_,.nil,e=>by simp at e
 |_,_,_,0,_,.io h1 h2 _,e=>by simp at e;subst e;exact⟨_,rfl,.inl ⟨_,rfl,rfl,h1,h2⟩⟩
 |_,_,_,0,_,.im r _,e=>by simp at e;subst e;exact⟨_,rfl,.inr ⟨rfl,r⟩⟩
 |_,_,_,i+1,_,.io _ _ h,e=>by
  obtain⟨v,h1,h2⟩:=ArgsAt.get (i:=i) h (by simpa using e)
  exact⟨v,by simpa using h1,by simpa [nU] using h2⟩
 |_,_,_,i+1,_,.im _ h,e=>by
  obtain⟨v,h1,h2⟩:=ArgsAt.get (i:=i) h (by simpa using e)
  exact⟨v,by simpa using h1,by simpa [nU] using h2⟩
theorem zs9:∀{as:List Arg} {i:Nat},nU as i=true->∃j,as[i]? =some (.io j)
 | .io j::_,0,_=>⟨j,rfl⟩
 | .im _::_,0,h=>by cases h
 | .io _::as,i+1,h=>by obtain⟨j,e⟩:=zs9 (as:=as) (i:=i) h;exact⟨j,by simpa using e⟩
 | .im _::as,i+1,h=>by obtain⟨j,e⟩:=zs9 (as:=as) (i:=i) h;exact⟨j,by simpa using e⟩
 |[],_,h=>by cases h
theorem qN:∀{as:List Arg} {i j:Nat},as[i]? =some (.io j)->nU as i=true
 | .io _::_,0,_,_=>rfl
 | .im _::_,0,_,h=>by simp at h
 | .io _::as,i+1,j,h=>qN (as:=as) (i:=i) (j:=j) (by simpa using h)
 | .im _::as,i+1,j,h=>qN (as:=as) (i:=i) (j:=j) (by simpa using h)
 |[],_,_,h=>by simp at h
theorem jK:∀{as:List Arg} {i j:Nat},as[i]? =some (.io j)->j∈slots as
 | .io _::_,0,_,h=>by simp at h;subst h;exact Z0
 | .im _::_,0,_,h=>by simp at h
 | .io _::as,i+1,j,h=>Z1 _ (jK (as:=as) (i:=i) (by simpa using h))
 | .im _::as,i+1,j,h=>jK (as:=as) (i:=i) (by simpa using h)
 |[],_,_,h=>by simp at h
theorem zb3:∀{as:List Arg} {i k j:Nat},(slots as).Nodup->as[i]? =some (.io j)->as[k]? =some (.io j)->i=k
 |[],_,_,_,_,h,_=>by simp at h
 |a::as,0,0,_,_,_,_=>rfl
 | .io j'::as,0,k+1,j,nd,h1,h2=>by
  simp at h1;subst h1
  exact absurd (jK (as:=as) (i:=k) (by simpa using h2)) (Zu.mp nd).1
 | .im _::as,0,k+1,j,_,h1,_=>by simp at h1
 | .io j'::as,i+1,0,j,nd,h1,h2=>by
  simp at h2;subst h2
  exact absurd (jK (as:=as) (i:=i) (by simpa using h1)) (Zu.mp nd).1
 | .im _::as,i+1,0,j,_,_,h2=>by simp at h2
 | .io j'::as,i+1,k+1,j,nd,h1,h2=>by rw [zb3 (as:=as) (i:=i) (k:=k) (j:=j) (Zu.mp nd).2 (by simpa using h1) (by simpa using h2)]
 | .im _::as,i+1,k+1,j,nd,h1,h2=>by rw [zb3 (as:=as) (i:=i) (k:=k) (j:=j) nd (by simpa using h1) (by simpa using h2)]
def fW:List Arg->Nat->Option Nat
 |[],_=>none
 | .io i::as,j=>if i=j then some 0 else(fW as j).map (·+1)
 | .im _::as,j=>(fW as j).map (·+1)
theorem nE:∀{as:List Arg} {j i:Nat},fW as j=some i->as[i]? =some (.io j)
 |[],_,_,h=>by cases h
 | .io k::as,j,i,h=>by
  rw [fW] at h
  by_cases z:k=j
  ·rw [if_pos z] at h;cases h;rw [z];rfl
  ·rw [if_neg z] at h
   cases q:fW as j with
   |none=>rw [q] at h;cases h
   |some n=>rw [q] at h;cases h;simpa using nE q
 | .im _::as,j,i,h=>by
  rw [fW] at h
  cases q:fW as j with
  |none=>rw [q] at h;cases h
  |some n=>rw [q] at h;cases h;simpa using nE q
theorem kR:∀{as:List Arg} {j:Nat},fW as j=none->j∉slots as
 |[],_,_=>by simp [slots]
 | .io k::as,j,h=>by
  rw [fW] at h
  by_cases z:k=j
  ·rw [if_pos z] at h;cases h
  ·rw [if_neg z] at h
   have h':fW as j=none:=by
    cases q:fW as j with
    |none=>rfl
    |some n=>rw [q] at h;cases h
   exact fun hm=>(Z5.mp hm).elim (fun e=>z e.symm) (kR h')
 | .im _::as,j,h=>by
  rw [fW] at h
  have h':fW as j=none:=by
   cases q:fW as j with
   |none=>rfl
   |some n=>rw [q] at h;cases h
  exact fun hm=>kR (as:=as) h' hm
theorem yB:∀{as:List Arg} {ds:List D} {ps:PSt},(iX ps as ds).length=ps.length
 |[],_,_=>by simp [iX]
 | .io j::as,[],_=>by simp [iX]
 | .im _::as,[],_=>by simp [iX]
 | .io j::as,d::ds,ps=>by rw [iX,yB (as:=as)];simp
 | .im _::as,d::ds,ps=>by rw [iX,yB (as:=as)]
theorem pG:∀{as:List Arg} {ds:List D} {ps:PSt} {j:Nat},j∉slots as->(iX ps as ds)[j]? =ps[j]?
 |[],_,_,_,_=>by simp [iX]
 | .io _::_,[],_,_,_=>by simp [iX]
 | .im _::_,[],_,_,_=>by simp [iX]
 | .io k::as,d::ds,ps,j,h=>by
  rw [iX,pG (as:=as) (fun z=>h (Z1 _ z)),Zy (fun z=>h (by rw [<-z];exact Z0))]
 | .im _::as,d::ds,ps,j,h=>by rw [iX];exact pG (as:=as) h
theorem zg1:∀{as:List Arg} {ds:List D} {ps:PSt} {i j:Nat} {d:D},(slots as).Nodup->as[i]? =some (.io j)->ds[i]? =some d->j<ps.length->(iX ps as ds)[j]? =some (some d)
 |[],_,_,_,_,_,_,h,_,_=>by simp at h
 |_::_,[],_,_,_,_,_,_,h,_=>by simp at h
 | .io k::as,d1::ds,ps,0,j,d,nd,h1,h2,h3=>by
  simp at h1 h2;subst h1;subst h2
  rw [iX,pG (Zu.mp nd).1,ZE h3]
 | .im _::as,d1::ds,ps,0,j,d,_,h1,_,_=>by simp at h1
 | .io k::as,d1::ds,ps,i+1,j,d,nd,h1,h2,h3=>by
  rw [iX];exact zg1 (Zu.mp nd).2 (by simpa using h1) (by simpa using h2) (by simpa using h3)
 | .im _::as,d1::ds,ps,i+1,j,d,nd,h1,h2,h3=>by
  rw [iX];exact zg1 (as:=as) nd (by simpa using h1) (by simpa using h2) h3
def qV(as:List Arg)(F:Nat->List Addr):Nat->List Addr:=fun i=>match as[i]? with
 |some (.io j)=>F j
 |_=>[]
theorem yq9(e:as[i]? =some (.io j)):qV as F i=F j:=by unfold qV;rw [e]
theorem yh0(h:b∈qV as F i):∃j,as[i]? =some (.io j)/\b∈F j:=by
 unfold qV at h
 cases q:as[i]? with
 |none=>rw [q] at h;exact absurd h (by simp)
 |some x=>
  cases x with
  |io j=>rw [q] at h;exact⟨j,rfl,h⟩
  |im _=>rw [q] at h;exact absurd h (by simp)
theorem zt0(e:nU as i=false):qV as F i=[]:=by
 unfold qV
 cases q:as[i]? with
 |none=>rfl
 |some x=>cases x with
  |io j=>rw [qN q] at e;cases e
  |im _=>rfl
theorem xq7{φ:Fx}{H:Hp}{σ:St}{ps:PSt}{F:Nat->List Addr}{as:List Arg}{vs:List V}{ds:List D}(R:RS φ H σ ps F)(nd:(slots as).Nodup)(hb:∀j∈slots as,φ.bor j=false)(a:ArgsAt φ.K φ.κ H σ ps as vs ds):
  RS (fxE φ.K φ.κ as.length (nU as)) H (vs.map some) (ds.map some) (qV as F):=by
 obtain⟨lv,ld⟩:=a.len
 have memF:∀i b,b∈qV as F i->∃j,as[i]? =some (Arg.io j)/\b∈F j:=fun i b h=>yh0 h
 refine⟨fun i d h=> ?_,fun i b h=> ?_,fun i k b h1 h2=> ?_,fun i=> ?_,fun i b h k z=>z.elim,fun k b z=>z.elim,by simp [lv,ld]⟩
 ·rw [Zc] at h
  cases q:ds[i]? with
  |none=>rw [q] at h;cases h
  | some d1=>
   rw [q] at h;cases h
   obtain⟨v,h1,h2⟩:=a.get q
   have hi:=(Z8.mp q).1
   refine⟨v,qV as F i,by rw [Zc,h1];rfl,?_,fun _=>rfl,fun z=> ?_⟩
   ·rcases h2 with ⟨j,e1,e2,e3,e4⟩|⟨e1,r⟩
    ·obtain⟨v',fp,k1,k2,k3,_⟩:=R.rep j d e4
     rw [e3] at k1;cases k1
     rw [yq9 e1]
     have:=k3 (hb j (jK e1))
     subst this
     exact k2
    ·rw [zt0 e1];exact r
   ·rcases h2 with ⟨j,e1,e2,_⟩|⟨e1,r⟩
    ·simp [fxE,e2] at z
    ·rw [zt0 e1];intro b hb;exact absurd hb (by simp)
 ·obtain⟨j,e,hj⟩:=memF i b h
  have hi:i<ds.length:=by rw [ld];exact(Z8.mp e).1
  exact⟨by simp [fxE,qN e],ds[i],by rw [Zc,Zo hi];rfl⟩
 ·obtain⟨j1,e1,m1⟩:=memF i b h1
  obtain⟨j2,e2,m2⟩:=memF k b h2
  have:=R.dis j1 j2 b m1 m2
  subst this
  exact zb3 nd e1 e2
 ·cases z:nU as i with
  |true=>obtain⟨j,e⟩:=zs9 z;rw [yq9 e];exact R.nd j
  |false=>rw [zt0 z];exact Zn
def vV(as:List Arg)(F Fc:Nat->List Addr):Nat->List Addr:=fun j=>match fW as j with
 |some i=>Fc i
 |none=>F j
theorem xf9(h:b∈vV as F Fc j):(∃i,fW as j=some i/\b∈Fc i)\/(fW as j=none/\b∈F j):=by
 unfold vV at h
 cases q:fW as j with
 |none=>rw [q] at h;exact .inr ⟨rfl,h⟩
 |some i=>rw [q] at h;exact .inl ⟨i,rfl,h⟩
theorem zm5(e:fW as j=some i):vV as F Fc j=Fc i:=by unfold vV;rw [e]
theorem zm6(e:fW as j=none):vV as F Fc j=F j:=by unfold vV;rw [e]
theorem wb6{φ:Fx}{H H1 H':Hp}{σ:St}{ps:PSt}{F Fc':Nat->List Addr}{as:List Arg}{vs:List V}{ds ds':List D}{fv:List Addr}(R:RS φ H σ ps F)(s1:SameK H H1)(nd:(slots as).Nodup)(hb:∀j∈slots as,φ.bor j=false)(a:ArgsAt φ.K φ.κ H1 σ ps as vs ds)(hl:ds'.length=as.length)
  (s:Stp (fxE φ.K φ.κ as.length (nU as)) (vs.map some) H1 (qV as F) (vs.map some) H' (ds'.map some) Fc') (o:OwnV (qV as F) H1 Fc' fv):
  ∃F',Stp φ σ H F σ H' (iX ps as ds') F'/\OwnV F H F' fv:=by
 have memF:∀i b,b∈qV as F i->∃j,as[i]? =some (Arg.io j)/\b∈F j:=fun i b h=>yh0 h
 have nwA:∀b,((∃i,b∈qV as F i)\/H1 b=none)->(∃j∈slots as,b∈F j)\/H b=none:=fun b h=>by
  rcases h with ⟨i,h⟩|h
  ·obtain⟨j,e,m⟩:=memF i b h
   exact .inl ⟨j,jK e,m⟩
  ·exact .inr (s1.grow b h)
 have isDisj:∀b,((∃i,b∈Fc' i)\/b∈fv)->∀j,j∉slots as->b∉F j:=fun b h j hj hm=>by
  have h':(∃j∈slots as,b∈F j)\/H b=none:=by
   rcases h with ⟨i,h⟩|h
   ·exact nwA b (s.nw i b h)
   ·exact nwA b (o.nw b h)
  rcases h' with ⟨k,hk,hm2⟩|z
  ·exact hj (R.dis j k b hm hm2▸hk)
  ·obtain⟨u,q,_⟩:=R.own hm;rw [z] at q;cases q
 have keepN:∀b u,H b=some u->kd u=true->(∀j∈slots as,b∉F j)->H' b=some u:=fun b u h k n=>s.fr.keep b u (s1.keep b u h k) k fun i hi=>by
  obtain⟨j,e,m⟩:=memF i b hi
  exact n j (jK e) m
 have tfk:∀b u,H b=some u->tf u=true->H' b=some u:=fun b u h t=>keepN b u h (oR t) fun j _ hm=>by
  obtain⟨u',h',_,t'⟩:=R.own hm
  rw [h] at h';cases h';rw [t] at t';cases t'
 have posmem:∀j b,b∈vV as F Fc' j->(∃i,fW as j=some i/\b∈Fc' i)\/(fW as j=none/\b∈F j):=fun j b h=>xf9 h
 refine⟨vV as F Fc',⟨⟨fun b u h k n=>keepN b u h k fun j _=>n j,fun b h=>s1.grow b (s.fr.grow b h)⟩,fun j b h=> ?_,⟨fun j d h=> ?_,fun j b h=> ?_,fun j k b h1 h2=> ?_,fun j=> ?_,fun j b h=> ?_,fun kk b hB z=>R.bt kk b hB (s1.grow b (s.fr.grow b z)),by rw [yB];exact R.len⟩,fun _ _=>rfl⟩,⟨fun b hb'=> ?_,o.nd,fun j b h hv=> ?_⟩⟩
 ·rcases posmem j b h with ⟨i,e,m⟩|⟨e,m⟩
  ·exact(nwA b (s.nw i b m)).elim (fun⟨k,_,hk⟩=> .inl ⟨k,hk⟩) .inr
  ·exact .inl ⟨j,m⟩
 ·cases q:fW as j with
  | some i=>
   have e:=nE q
   have hi:i<ds'.length:=by rw [hl];exact(Z8.mp e).1
   have ei:ds'[i]? =some ds'[i]:=Zo hi
   have hj:j<ps.length:=by
    have:=(Z8.mp h).1
    rwa [yB] at this
   rw [zg1 nd e ei hj] at h
   cases h
   obtain⟨v,fp,k1,k2,k3,_⟩:=s.rs.rep i ds'[i] (by rw [Zc,ei];rfl)
   have hbi:(fxE φ.K φ.κ as.length (nU as)).bor i=false:=by simp [fxE,qN e]
   have k3:=k3 hbi
   subst k3
   have hvi:i<vs.length:=by rw [a.len.1];exact(Z8.mp e).1
   have hdi:i<ds.length:=by rw [a.len.2];exact(Z8.mp e).1
   obtain⟨v',g1,g2⟩:=a.get (Zo hdi)
   rw [Zc,g1] at k1
   cases k1
   rcases g2 with ⟨j',e1,_,e3,_⟩|⟨e1,_⟩
   ·rw [e] at e1;cases e1
    exact⟨v,Fc' i,e3,k2,(fun _=>(zm5 q).symm),(fun z=>by rw [hb j (jK e)] at z;cases z)⟩
   ·rw [qN e] at e1;cases e1
  |none=>
   have hn:=kR q
   rw [pG hn] at h
   obtain⟨v,fp,k1,k2,k3,k4⟩:=R.rep j d h
   refine⟨v,fp,k1,k2.move tfk fun b hb'=> ?_,(fun z=>by rw [zm6 q];exact k3 z),k4⟩
   obtain⟨u,q1,q2,_⟩:=k2.own b hb'
   rw [q1]
   refine keepN b u q1 q2 fun k hk hm=> ?_
   cases z:φ.bor j with
   |true=>exact R.nb k b hm j (k4 z b hb')
   |false=>rw [k3 z] at hb';exact hn (R.dis j k b hb' hm▸hk)
 ·rcases posmem j b h with ⟨i,e,m⟩|⟨e,m⟩
  ·have e':=nE e
   refine⟨hb j (jK e'),?_⟩
   have hi:i<ds'.length:=by rw [hl];exact(Z8.mp e').1
   have hdi:i<ds.length:=by rw [a.len.2];exact(Z8.mp e').1
   obtain⟨v',g1,g2⟩:=a.get (Zo hdi)
   rcases g2 with ⟨j',e1,_,_,e4⟩|⟨e1,_⟩
   ·rw [e'] at e1;cases e1
    exact⟨_,zg1 nd e' (Zo hi) (Z8.mp e4).1⟩
   ·rw [qN e'] at e1;cases e1
  ·obtain⟨b1,d,b2⟩:=R.emp j b m
   exact⟨b1,d,by rw [pG (kR e)];exact b2⟩
 ·rcases posmem j b h1 with ⟨i,e,m⟩|⟨e,m⟩
  ·rcases posmem k b h2 with ⟨i',e',m'⟩|⟨e',m'⟩
   ·have:=s.rs.dis i i' b m m'
    subst this
    have q1:=nE e
    have q2:=nE e'
    rw [q1] at q2
    cases q2;rfl
   ·exact absurd m' (isDisj b (.inl ⟨i,m⟩) k (kR e'))
  ·rcases posmem k b h2 with ⟨i',e',m'⟩|⟨e',m'⟩
   ·exact absurd m (isDisj b (.inl ⟨i',m'⟩) j (kR e))
   ·exact R.dis j k b m m'
 ·cases q:fW as j with
  |some i=>rw [zm5 q];exact s.rs.nd i
  |none=>rw [zm6 q];exact R.nd j
 ·rcases posmem j b h with ⟨i,e,m⟩|⟨e,m⟩
  ·exact R.notB ((nwA b (s.nw i b m)).elim (fun⟨k,_,hk⟩=> .inl ⟨k,hk⟩) .inr)
  ·exact R.nb j b m
 ·exact(nwA b (o.nw b hb')).elim (fun⟨k,_,hk⟩=> .inl ⟨k,hk⟩) .inr
 ·rcases posmem j b h with ⟨i,e,m⟩|⟨e,m⟩
  ·exact o.dis i b m hv
  ·exact isDisj b (.inr hv) j (kR e) m
def tIO(K:tz0)(κ:tz9)(as:List Arg):TA:=fun σ H Q=>∃ps ds,WS K κ H σ ps/\cJ as ps=some ds/\∀vs H',SameK H H'->ArgsAt K κ H' σ ps as vs ds->Q vs H'
def fIO(as:List Arg)(g:tz7):tz8:=fun ps=>(cJ as ps).bind fun ds=>(g ds).bind fun r=>if r.2.length=as.length then some (r.1,iX ps as r.2) else none
section
variable{X:Cx}{φ:F0}{κ:tz9}{e:Expr}{es:List Expr}{as:List Arg}{f:tz2}{pos p:Pos}
theorem dD:PA X [] (tIO X.K κ []):=pE.imp fun σ H Q ⟨ps,ds,w,e,q⟩=>by cases e;exact q [] H (.refl H) .nil
theorem kC(j:Nat){x:Str}(hr:PA X es (tIO X.K κ as))(hN:X.N[j]? =some x:=by rfl)(hv:Vis X.env.scope x:=by first|exact Or.inl rfl|exact Or.inr (Or.inl rfl)|exact Or.inr (Or.inr rfl))(hd:NDb x:=by decide)
  (hcd:(x==("__classdict__":Str))=false:=by decide) (hs:starEach (.Name x pos::es) X.env=(false,eval (.Name x pos) X.env)::starEach es X.env:=by rfl):PA X (.Name x pos::es) (tIO X.K κ (.io j::as)):=
 (gL (wU hN hv hd hcd) hr hs).imp fun σ H Q hh_=>by
  obtain⟨ps,ds,w,e,q⟩:=hh_
  obtain⟨d,e1,e2⟩:=bind_some e
  obtain⟨ds',e3,e4⟩:=bind_some e2
  cases e4
  have e0:=join_some e1
  obtain⟨v,fp,h1,h2⟩:=w j d e0
  exact⟨v,h1,ps,ds',w,e3,fun vs H1 s1 a1=>q (v::vs) H1 s1 (.io h1 e0 a1)⟩
theorem bJ(ha:QV X κ e f)(hr:PA X es (tIO X.K κ as))(hs:StE e es X:=by rfl):PA X (e::es) (tIO X.K κ (.im f::as)):=
 (gL ha.p hr hs).imp fun σ H Q hh_=>by
  obtain⟨ps,ds,w,e,q⟩:=hh_
  obtain⟨d,e1,e2⟩:=bind_some e
  obtain⟨ds',e3,e4⟩:=bind_some e2
  cases e4
  refine⟨ps,d,w,e1,fun v H1 fv s1 n1 nd1 r1=>⟨ps,ds',w.same s1,e3,fun vs H2 s2 a2=>q (v::vs) H2 (s1.trans s2) (.im ?_ a2)⟩⟩
  unfold bB at e1
  obtain⟨d1,k1,k2⟩:=bind_some e1
  obtain⟨k3,k4⟩:=cC k2
  cases k4
  have:=r1.imm k3
  subst this
  exact r1.same s2
theorem nF{x:Str}{st:Stmt}{ps:List Str}{fa:Addr}{fd:FuncData}{k np:Nat}{m:Nat->Bool}{g:tz7}(Dd:Dn X.K X.mg x st ps fa fd)(G:FnOk X.prog X.w X.K X.mg X.base CX0 k fa fd ps (SpE np X.K κ m g))(hr:Room k X.A)(hg:Gl X x)(ha:PA X (e::es) (tIO X.K κ as))
  (hnp:np=as.length) (hm:m=nU as) (nd:(slots as).Nodup) (hb:∀j∈slots as,φ.bor j=false)
  (hdb:NDb x:=by decide) (he:StE e es X:=by rfl) (hpl:BkE pos es X:=by rfl):
  QE X κ φ (.Call (.Name x p) (e::es) [] pos) (fIO as g):=(yv8 Dd G hr hg ha hdb he hpl).imp fun σ H Q hh_=>by
 obtain⟨ps,F,d,ps',R,e,q⟩:=hh_
 obtain⟨ds,e1,e2⟩:=bind_some e
 obtain⟨⟨r,ds'⟩,e3,e4⟩:=bind_some e2
 obtain⟨hl,e5⟩:=cC e4
 cases e5
 subst hnp hm
 refine⟨ps,ds,R.ws,e1,fun vs H1 s1 a1=> ?_⟩
 show SpE _ X.K κ _ g (vs++[]) H1 Q E0
 rw [Zi]
 refine⟨a1.len.1,ds,r,ds',_,a1.len.2,xq7 (R.same s1) nd hb a1,e3,fun v H' F' fv s o rv=> ?_⟩
 obtain⟨F2,s2,o2⟩:=wb6 R s1 nd hb a1 hl s o
 exact q v H' F2 fv s2 o2 rv
end
inductive AreD:List Expr->List D->Prop
 |nil:AreD [] []
 |int {i:Int} {j:Nat} {pos:Pos} {es:List Expr} {ds:List D}:AreD es ds->AreD (.Constant (.int i) j pos::es) (.int i::ds)
 |str {x:Str} {j:Nat} {pos:Pos} {es:List Expr} {ds:List D}:AreD es ds->AreD (.Constant (.str x) j pos::es) (.str x::ds)
def fKs(ds:List D):tz3:=fun _=>some ds
theorem pH(h:AreD es ds):QPA X κ es (fKs ds):=by
 have key:∃vs,AreC es vs/\∀K κ H,Reps K κ H vs ds []:=by
  induction h with
  |nil=>exact⟨[],.nil,fun _ _ _=> .nil⟩
  |int _ ih=>obtain⟨vs,h1,h2⟩:=ih;exact⟨_,.int h1,fun K κ H=> .cons (f:=[]) (g:=[]) (.int _) (h2 K κ H)⟩
  |str _ ih=>obtain⟨vs,h1,h2⟩:=ih;exact⟨_,.str h1,fun K κ H=> .cons (f:=[]) (g:=[]) (.str _) (h2 K κ H)⟩
 obtain⟨vs,h1,h2⟩:=key
 exact(xe8 h1).imp fun σ H Q ⟨ps,ds',w,e,q⟩=>by cases e;exact q vs H [] (.refl H) (fun _ h=>absurd h (by simp)) Zn (h2 _ _ _)
def bI(l:List Bool):Nat->Bool:=fun i=>(l[i]?).getD false
def xn8(as:List Arg):List Bool:=as.map fun a=>match a with
 | .io _=>true
 | .im _=>false
theorem eY:∀{as:List Arg} {l:List Bool},xn8 as=l->bI l=nU as:=by
 intro as l h
 subst h
 funext i
 induction as generalizing i with
 |nil=>cases i<;>rfl
 | cons a as ih=>
  cases i with
  |zero=>cases a<;>rfl
  |succ i=>
   have e:nU (a::as) (i+1)=nU as i:=by cases a<;>rfl
   rw [e,<-ih i]
   simp [bI,xn8]
theorem fE(h:bI l i=true):i<l.length:=by
 unfold bI at h
 cases q:l[i]? with
 |none=>rw [q] at h;cases h
 |some b=>exact(Z8.mp q).1
section
variable{P:Program}{w:World}{K:tz0}{mg:tzA}{base:Heap}{κ:tz9}
theorem FnOk.noneP:FnOk P w K mg base CX0 k f fd ps (SpP ps.length K κ fun _=>none):=
 ⟨fun vs H Q E h=>h.1,fun A outer s H args us vs Q E _ _ _ _ ⟨_,ds,fp,d,_,e,_⟩=>by cases e⟩
theorem FnOk.noneE:FnOk P w K mg base CX0 k f fd ps (SpE ps.length K κ m fun _=>none):=
 ⟨fun vs H Q E h=>h.1,fun A outer s H args us vs Q E _ _ _ _ ⟨_,ds,r,ds',F,_,_,e,_⟩=>by cases e⟩
end
section
variable{X:Cx}{κ:tz9}{a b c:Expr}{fa fb fc:tz2}{g g':D->D->Option D}{pos:Pos}
theorem xq8(h:tP X.K κ (f3 g g' fa fb fc) σ H Q):xn7 (POp X.K κ g) (POp X.K κ g') (tV X.K κ fa) (tV X.K κ fb) (tV X.K κ fc) σ H Q:=by
 obtain⟨ps,d,w,e,q⟩:=h
 obtain⟨x,e1,e2⟩:=bind_some e
 obtain⟨y,e3,e4⟩:=bind_some e2
 obtain⟨k,e5,e6⟩:=bind_some e4
 obtain⟨t,rfl,e7⟩:=yw2 (x:=(fc ps).bind fun z=>g' y z) (y:=some (D.bl false)) e6
 refine⟨ps,x,w,e1,fun v H1 f1 s1 r1=>⟨ps,y,w.same s1,e3,fun u H2 f2 s2 r2=>⟨x,y,_,f1,f2,r1.same s2,r2,e5,fun z H3 fz s3 n3 nd3 r3=>⟨t,r3.is_bl,?_⟩⟩⟩⟩
 have s13:=(s1.trans s2).trans s3
 cases t with
 |true=>
  rw [if_pos rfl] at e7|-
  obtain⟨zz,e8,e9⟩:=bind_some e7
  exact⟨ps,zz,w.same s13,e8,fun u' H4 f4 s4 r4=>⟨y,zz,d,f2,f4,(r2.same s3).same s4,r4,e9,q.after (s13.trans s4)⟩⟩
 |false=>
  rw [if_neg Z9] at e7|-
  cases e7
  exact(q.after s13).now (.bl false)
theorem xq9(ho:OpR X (compareOp op) (POp X.K κ g))(ho':OpR X (compareOp op') (POp X.K κ g'))(ha:QV X κ a fa)(hb:QV X κ b fb)(hc:QV X κ c fc)(hm:lastMarks [op,op'] [b,c]=false:=by with_unfolding_all rfl):QT X κ (.Compare a [op,op'] [b,c] pos) (fB (f3 g g' fa fb fc)):=
 (xo6 ho ho' ha hb hc hm).imp fun σ H Q ⟨ps,k,w,e,q⟩=>xq8 (Q:=fun x H'=>∃k,x= .bl k/\Q k H') ⟨ps,_,w,zs2 e,fun v H' fv s _ _ r=>⟨k,r.is_bl,q H' s⟩⟩
end
theorem wb7(h:zA k u=true):cV (kV k) u:=by
 rcases fX h with ⟨i,t,rfl,rfl⟩|⟨x,t,rfl,rfl⟩
 ·exact⟨t,rfl⟩
 ·exact⟨t,rfl⟩
def xa6:Key->D
 | .inl i=> .int i
 | .inr x=> .str x
theorem xr0{K:tz0}{κ:tz9}{H:Hp}(k:Key):Rep K κ H (kV k) (xa6 k) []:=by
 cases k with
 |inl i=>exact .int i
 |inr x=>exact .str x
theorem zm7:∀ys:List (Str×Tok),bW (ys.map fun p=>V.str p.1) (ys.map fun p=>Value.str p.1 p.2)
 |[]=> .nil
 |y::ys=> .cons ⟨y.2,rfl⟩ (zm7 ys)
theorem zy4{K:tz0}{κ:tz9}{H:Hp}:∀ys:List (Str×Tok),Reps K κ H (ys.map fun p=>V.str p.1) (ys.map fun p=>D.str p.1) []
 |[]=> .nil
 |y::ys=> .cons (f:=[]) (g:=[]) (.str _) (zy4 ys)
theorem xr1{K:tz0}{κ:tz9}{a:Addr}{ys:List (Str×Tok)}{od:Option Addr}{n:Nat}{sl:Array (Option Value)}(h:K.lookup a=some ⟨.type "tuple",od,.seq (ys.map fun p=>Value.str p.1 p.2).toArray n,sl⟩)(hl:ys.length<=1000)(H:Hp):
  Rep K κ H (.ref a) (.tup (ys.map fun p=>D.str p.1)) []:=
 .tup (.inr ⟨_,_,n,h,rfl,rfl,by rw [Zl,Zd];exact yd0 hl,zm7 ys⟩) (zy4 ys)
section
variable{X:Cx}{pins:tzB}{σ:St}{H:Hp}{s:Shared}{a C dx:Addr}{fs:List (Str×V)}{f:Str}{v:V}{A:Around}{E:Value->Shared->Prop}
theorem xg0(hok:HOk P w H h)(e:Rd H a (.ins C dx fs)):∃mA,ObjM h a dx C mA/\(∀f,kX (fs.lookup f) (mA f)):=by
 obtain⟨d,z,ne,ob,mA,n,r,q⟩:=(show eI P w H h a (.ins C dx fs) from e.ok hok)
 exact⟨mA,⟨ob,n,ne⟩,r⟩
theorem yw6(I:Inv X pins σ H s)(e:Rd H a (.ins C dx fs))(c:Cls X.K C)(n:cN X.K C f)(l:fs.lookup f=some v)
  (h:∀u s',Inv X pins σ H s'->cV v u->Q u s'):wpAny (model X.prog X.w) A (getAttr (.ref a) f b) Q E s:=by
 obtain⟨mA,O,r⟩:=xg0 I.hok e
 obtain⟨u,hu,ru⟩:=kX.some_of (v:=v) (o:=mA f) (by rw [<-l];exact r f)
 exact yp8 I.kIn O (c.get f) c.hd n hu (zw4 ru) (h u _ (I.tok _) ru)
theorem yw7(I:Inv X pins σ H s)(e:Rd H a (.ins C dx fs))(c:Cls X.K C)(k:Meth X.K C m g)(l:fs.lookup m=none)
  (h:Q (.ref g,[.ref a]) s):wpAny (model X.prog X.w) A (getMethod (.ref a) m pl) Q E s:=by
 obtain⟨mA,O,r⟩:=xg0 I.hok e
 have hn:mA m=none:=kX.none_of (by rw [<-l];exact r m)
 exact yf6 I.kIn O (c.get m) k.at_ k.fn hn h
end
def wt2(K:tz0)(ta:TE)(f:Str):TE:=fun σ H Q=>ta σ H fun x H1=>∃a C dx fs v,x= .ref a/\Rd H1 a (.ins C dx fs)/\Cls K C/\cN K C f/\fs.lookup f=some v/\Q v H1
theorem wb8(he:PE X e ta)(hb:attributeBase e f X.env (eval e X.env)=eval e X.env):PE X (.Attribute e f pos) (wt2 X.K ta f):=⟨by
 intro pins s σ H Q I h
 refine yp9 hb (thn (he pins s σ H _ I h) fun u s1 ⟨x,H1,I1,rx,a,C,dx,fs,v,ex,ea,c,n,l,q⟩=> ?_)
 subst ex
 obtain rfl:u=Value.ref a:=rx
 exact yw6 I1 ea c n l fun w' s2 I2 rw'=>⟨v,H1,I2,rw',q⟩⟩
def ym5(C f:Str):D->Option D
 | .obj _ C' ns vs=>if C'=C then(cW ns f).bind fun n=>vs[n]? else none
 |_=>none
def cQ(C f:Str)(fo:tz2):tz2:=fun ps=>(fo ps).bind (ym5 C f)
theorem Rep.obj_inv{K:tz0}{κ:tz9}{H:Hp}{v:V}{o:Bool}{C:Str}{ns:List Str}{ds:List D}{fp:List Addr}(r:Rep K κ H v (.obj o C ns ds) fp):∃a dx fs g,v= .ref a/\Rd H a (.ins (κ C) dx fs)/\fs.map (·.1)=ns/\Reps K κ H (fs.map (·.2)) ds g/\g.Sublist fp:=by
 cases r with
 |obj h e hs=>exact⟨_,_,_,_,rfl,.inl h,e,hs,X2 _ _⟩
 |objF h e hs=>exact⟨_,_,_,_,rfl,.inr ⟨_,h⟩,e,hs,.refl _⟩
section
variable{X:Cx}{κ:tz9}{o e:Expr}{C fn:Str}{fo:tz2}{pos:Pos}
theorem dH(hc:Cls X.K (κ C))(hna:cN X.K (κ C) fn)(ho:QV X κ o fo)(hb:attributeBase o fn X.env (eval o X.env)=eval o X.env:=by rfl):QV X κ (.Attribute o fn pos) (cQ C fn fo):=
 (wb8 ho hb).imp fun σ H Q hh_=>by
  obtain⟨ps,d,w,e,q⟩:=hh_
  obtain⟨x,e1,e2⟩:=bind_some e
  refine⟨ps,x,w,e1,fun v H1 fp s1 r1=> ?_⟩
  cases x with
  |obj ow C' ns ds=>
   have e2':(if C'=C then(cW ns fn).bind fun n=>ds[n]? else none)=some d:=e2
   by_cases hC:C'=C
   case neg=>rw [if_neg hC] at e2';cases e2'
   rw [if_pos hC] at e2'
   subst hC
   obtain⟨n,e4,e5⟩:=bind_some e2'
   obtain⟨a,dx,fs,g,rfl,h,hk,hs,sub⟩:=r1.obj_inv
   subst hk
   obtain⟨u,f1,k3,k4,_⟩:=hs.get e5
   exact⟨a,κ C',dx,fs,u,rfl,h,hc,hna,uQ e4 k3,q u H1 f1 s1 k4⟩
  |_=>cases e2
end
theorem yr0:∀{fs:List (Str×V)} {f:Str} {n:Nat} (v:V),cW (fs.map (·.1)) f=some n->(gV f v fs).map (·.1)=fs.map (·.1)/\(gV f v fs).map (·.2)=(fs.map (·.2)).set n v
 |[],_,_,_,h=>by cases h
 | (g,x)::r,f,n,v,h=>by
  rw [Zb,cW] at h
  by_cases z:g=f
  ·have z':(g,x).1=f:=z
   rw [if_pos z'] at h;cases h
   rw [gV,if_pos z];exact⟨rfl,rfl⟩
  ·have z':¬(g,x).1=f:=z
   rw [if_neg z'] at h
   obtain⟨m,h1,h2⟩:=Zt.mp h
   subst h2
   obtain⟨k1,k2⟩:=yr0 v h1
   rw [gV,if_neg z]
   exact⟨by rw [Zb,Zb,k1],by rw [Zb,Zb,List.set_cons_succ,k2]⟩
theorem yh1:∀{fs:List (Str×V)} {f:Str} (v:V),cW (fs.map (·.1)) f=none->(gV f v fs).map (·.1)=fs.map (·.1)++[f]/\(gV f v fs).map (·.2)=fs.map (·.2)++[v]
 |[],_,_,_=>⟨rfl,rfl⟩
 | (g,x)::r,f,v,h=>by
  rw [Zb,cW] at h
  by_cases z:g=f
  ·have z':(g,x).1=f:=z
   rw [if_pos z'] at h;cases h
  ·have z':¬(g,x).1=f:=z
   rw [if_neg z'] at h
   obtain⟨k1,k2⟩:=yh1 v (W4.mp h)
   rw [gV,if_neg z]
   exact⟨by rw [Zb,Zb,k1];rfl,by rw [Zb,Zb,k2];rfl⟩
def xP(C f:Str)(y:D):D->Option (Unit×D)
 | .obj true C' ns vs=>if (C'=C/\ns.length<900) then(match cW ns f with
   |some n=>some ((),.obj true C' ns (vs.set n y))
   |none=>some ((),.obj true C' (ns++[f]) (vs++[y]))) else none
 |_=>none
theorem yh2(h:xP C f y d=some (r,d')):∃ns vs,d= .obj true C ns vs/\ns.length<900/\((∃n,cW ns f=some n/\d'= .obj true C ns (vs.set n y))\/(cW ns f=none/\d'= .obj true C (ns++[f]) (vs++[y]))):=by
 unfold xP at h
 split at h
 ·rename_i C' ns vs
  by_cases hh:C'=C/\ns.length<900
  ·rw [if_pos hh] at h
   obtain⟨hC,hl⟩:=hh
   subst hC
   cases q:cW ns f with
   |some n=>rw [q] at h;cases h;exact⟨ns,vs,rfl,hl,.inl ⟨n,q,rfl⟩⟩
   |none=>rw [q] at h;cases h;exact⟨ns,vs,rfl,hl,.inr ⟨q,rfl⟩⟩
  ·rw [if_neg hh] at h;cases h
 ·cases h
def iB(j:Nat)(pf:PSt->Option (List Ps1))(C f:Str)(fe:tz2):tz1:=fun ps=>(fe ps).bind fun y=>((ps[j]?).join).bind fun d0=>(pf ps).bind fun p=>(fO (xP C f y) d0 p).bind fun r=>some (.nx,ps.set j (some r.2))
theorem yh3:∀{ns:List Str} {f:Str} {n:Nat},cW ns f=some n->n<ns.length
 |[],_,_,h=>by cases h
 | m::ns,f,n,h=>by
  rw [cW] at h
  by_cases z:m=f
  ·rw [if_pos z] at h;cases h;simp
  ·rw [if_neg z] at h
   obtain⟨k,h1,h2⟩:=Zt.mp h
   subst h2
   have:=yh3 h1
   simp;omega
section
variable{X:Cx}{κ:tz9}{φ:F0}{o e:Expr}{C fn:Str}{j:Nat}{pf:PSt->Option (List Ps1)}{fe:tz2}{pos pos':Pos}
theorem gT(hc:Cls X.K (κ C))(hna:cN X.K (κ C) fn)(hb:φ.bor j=false)(he:PE X e (tP X.K κ fe))(ho:PE X o (pQ X.K κ j pf))(hs:swapsWith e (some (.Attribute o fn pos')) pos.line X.env=pure false:=by rfl):
  QS X κ φ (.Assign [.Attribute o fn pos'] e pos) (iB j pf C fn fe):=
 (wh5 ho he hs).imp fun E σ H hh_=>by
  obtain⟨ps,F,fl,ps',R,e,q⟩:=hh_
  obtain⟨y,e1,e2⟩:=bind_some e
  obtain⟨d0,e3,e4⟩:=bind_some e2
  have e0:=join_some e3
  obtain⟨p,e5,e6⟩:=bind_some e4
  obtain⟨⟨r,d0'⟩,em,e9⟩:=bind_some e6
  cases e9
  obtain⟨dd,dn,gp,hh⟩:=oU em
  refine⟨ps,y,R.ws,e1,fun v H1 fy s1 n1 nd1 ry=>⟨ps,p,d0,dd,R.ws.same s1,e0,e5,gp,fun lv H2 v0 s2 ev a2=> ?_⟩⟩
  have s12:=s1.trans s2
  obtain⟨d1,d1',fd,m1,m2,m3,m4,m5⟩:=xA R s12 hb e0 ev em a2
  obtain⟨ns,vs,rfl,hlen,hd⟩:=yh2 m2
  obtain⟨l,dx,fs,g1,rfl,hl,hn,hr,rfl⟩:=m1.objT_inv
  subst hn
  have ry2:=ry.same s2
  obtain⟨nl,nd3⟩:=Zu.mp m3
  have own0:∀a∈l::g1,H a≠none:=fun a ha z=>by obtain⟨o,h,_⟩:=R.own (m4 a ha);rw [z] at h;cases h
  have nl2:l∉fy:=fun z=>own0 l Z0 (n1 l z)
  have hl9:fs.length<900:=by rw [Zd] at hlen;exact hlen
  refine⟨l,κ C,dx,fs,rfl,hl,hc,hna,by omega,?_⟩
  have go:∀(g2:List Addr),(∀a∈g2,a∈fy\/a∈g1)->g2.Nodup->Rep X.K κ (upd H2 l (.ins (κ C) dx (gV fn v fs))) (.ref l) d1' (l::g2)->∃F',Stp (φ.fx X.K κ) σ H F σ (upd H2 l (.ins (κ C) dx (gV fn v fs))) (ps.set j (some d0')) F':=fun g2 mem2 nd2 rp=>by
   have n2:l∉g2:=fun z=>(mem2 l z).elim nl2 nl
   obtain⟨F',st,ow⟩:=m5 (upd H2 l (.ins (κ C) dx (gV fn v fs))) (l::g2) [] (fun a o h _ hn=>yA h hn) (fun a h=>qM h) rp
    (by rw [Zi,Zu];exact⟨n2,nd2⟩)
    (fun a ha=>by
     rw [Zi] at ha
     rcases Z5.mp ha with z|z
     ·exact .inl (by rw [z];exact Z0)
     ·exact(mem2 a z).elim (fun z=> .inr (n1 a z)) fun z=> .inl (Z1 _ z))
   exact⟨F',st⟩
  rcases hd with ⟨n,hx,rfl⟩|⟨hx,rfl⟩
  ·obtain⟨k1,k2⟩:=yr0 v hx
   have hn':=yh3 hx
   obtain⟨f1,rest,g2,p1,p2,p3⟩:=hr.setV (n:=n) (by rw [<-hr.length,Zd];rw [Zd] at hn';exact hn') ry2
   have mem2:∀a∈g2,a∈fy\/a∈g1:=fun a ha=>(Zp.mp (p3.mem_iff.mp ha)).elim .inl fun z=> .inr (p1.mem_iff.mpr (Ze _ z))
   have n2:l∉g2:=fun z=>(mem2 l z).elim nl2 nl
   have nd2:g2.Nodup:=p3.nodup_iff.mpr (ZB.mpr ⟨nd1,(ZB.mp (p1.nodup_iff.mp nd3)).2.1,fun a ha b hb e=>by
    subst e
    exact own0 a (Z1 _ (p1.mem_iff.mpr (Ze _ hb))) (n1 a ha)⟩)
   obtain⟨F',st⟩:=go g2 mem2 nd2 (.obj dG k1 (by rw [k2];exact p2.updL hl rfl n2))
   exact q _ _ F' st
  ·obtain⟨k1,k2⟩:=yh1 v hx
   have mem2:∀a∈g1++fy,a∈fy\/a∈g1:=fun a ha=>(Zp.mp ha).elim .inr .inl
   have n2:l∉g1++fy:=fun z=>(mem2 l z).elim nl2 nl
   have nd2:(g1++fy).Nodup:=ZB.mpr ⟨nd3,nd1,fun a ha b hb e=>by
    subst e
    exact own0 a (Z1 _ ha) (n1 a hb)⟩
   obtain⟨F',st⟩:=go (g1++fy) mem2 nd2 (.obj dG k1 (by rw [k2];exact(Reps.append hr (Reps.one ry2)).updL hl rfl n2))
   exact q _ _ F' st
end
structure Mn(K:tz0)(κ:tz9)(C m qual:Str)(st:Stmt)(ps:List Str)(f:Addr)(fd:FuncData):Prop where
 F:Fun K m qual st f fd
 b:lS K fd ps []
 c:Cls K (κ C)
 h:Meth K (κ C) m f
def zq1(C m:Str)(fo:tz2):tz2:=fun ps=>(fo ps).bind fun d=>match d with
 | .obj true C' ns vs=>if (C'=C/\cW ns m=none) then some (.obj true C' ns vs) else none
 |_=>none
theorem yw8(h:zq1 C m fo ps=some d):∃ns vs,d= .obj true C ns vs/\fo ps=some d/\cW ns m=none:=by
 obtain⟨x,e1,e2⟩:=bind_some h
 cases x with
 | obj o C' ns vs=>cases o with
  |true=>
   have e2':(if (C'=C/\cW ns m=none) then some (D.obj true C' ns vs) else none)=some d:=e2
   obtain⟨⟨hC,hn⟩,e3⟩:=cC e2'
   subst hC;cases e3
   exact⟨ns,vs,rfl,e1,hn⟩
  |false=>cases e2
 |_=>cases e2
theorem rF:∀{fs:List (Str×V)} {m:Str},cW (fs.map (·.1)) m=none->fs.lookup m=none
 |[],_,_=>rfl
 | (g,x)::r,m,h=>by
  rw [Zb,cW] at h
  by_cases z:g=m
  ·have z':(g,x).1=m:=z
   rw [if_pos z'] at h;cases h
  ·have z':¬(g,x).1=m:=z
   rw [if_neg z'] at h
   have ih:=rF (W4.mp h)
   rw [ZA]
   have:(m==g)=false:=by
    rw [Yb];exact fun e=>z e.symm
   rw [this];exact ih
section
variable{X:Cx}{κ:tz9}{o e:Expr}{es:List Expr}{C m qual:Str}{st:Stmt}{ps:List Str}{f:Addr}{fd:FuncData}{k np:Nat}{h:tz6}{fo:tz2}{g:tz3}{apos pos p:Pos}{pl:Sem Bool}
theorem xr2(M:Mn X.K κ C m qual st ps f fd)(G:FnOk X.prog X.w X.K X.mg X.base CX0 k f fd ps (SpP 1 X.K κ h))(hr:Room k X.A)(ho:QV X κ o fo)
  (ht:eval (.Call (.Attribute o m apos) [] [] pos) X.env=(do
   let ov<-eval o X.env
   standAt apos.atName
   let (f,first)<-holding [ov] (getMethod ov m pl)
   callWith pos f first (backTo pos (starEach [] X.env)) (backToKw pos (keywordEach [] X.env))):=by rfl):
  QP X κ (.Call (.Attribute o m apos) [] [] pos) (aG h (aA (zq1 C m fo) aE)):=(xo9 ho M.c M.h G hr M.b .nil zf5 ht).imp fun σ H Q hh_=>by
 obtain⟨ps,d,w,e,q⟩:=hh_
 obtain⟨ds,e1,e2⟩:=bind_some e
 obtain⟨x,k1,k2⟩:=bind_some e1
 obtain⟨ds',k3,k4⟩:=bind_some k2
 cases k4;cases k3
 obtain⟨ns,vs,rfl,k5,k6⟩:=yw8 k1
 refine⟨ps,_,w,k5,fun v H1 fp s1 r1=> ?_⟩
 have r1':=r1
 obtain⟨_,_,_,_,rfl,hl,hn,hs,rfl⟩:=r1.objT_inv
 subst hn
 exact⟨_,_,_,rfl,hl,rF k6,rfl,_,_,d,Reps.one r1',e2,q.after s1⟩
end
def pU:Nat->Bool:=fun i=>decide (i=0)
def vW(fd:List Addr):Nat->List Addr:=fun i=>if i=0 then fd else []
theorem mC(h:a∈vW fd i):i=0/\a∈fd:=by
 unfold vW at h
 by_cases z:i=0
 ·rw [if_pos z] at h;exact⟨z,h⟩
 ·rw [if_neg z] at h;exact absurd h (by simp)
theorem zm8{K:tz0}{κ:tz9}{H:Hp}{v:V}{vs:List V}{d:D}{ds:List D}{fd:List Addr}(r:Rep K κ H v d fd)(nd:fd.Nodup)(rs:Reps K κ H vs ds []):
  RS (fxE K κ (ds.length+1) pU) H ((v::vs).map some) ((d::ds).map some) (vW fd):=by
 refine⟨fun i x hx=> ?_,fun i a ha=> ?_,fun i j a h1 h2=> ?_,fun i=> ?_,fun i a _ k z=>z.elim,fun k a z=>z.elim,by simp [rs.length]⟩
 ·cases i with
  |zero=>
   simp at hx;subst hx
   exact⟨v,fd,rfl,r,fun _=>rfl,fun z=>by simp [fxE,pU] at z⟩
  | succ i=>
   rw [Zb,Ye,Zc] at hx
   obtain⟨y,hy,e⟩:=Zt.mp hx
   cases e
   obtain⟨u,f1,k1,k2,k3⟩:=rs.get hy
   have ef:f1=[]:=by
    cases f1 with
    |nil=>rfl
    |cons b l=>exact absurd (k3 b Z0) (by simp)
   subst ef
   exact⟨u,[],by rw [Zb,Ye,Zc,k1];rfl,k2,(fun _=>by simp [vW]),fun _ a ha=>absurd ha (by simp)⟩
 ·obtain⟨e,h⟩:=mC ha
  subst e
  exact⟨by simp [fxE,pU],d,rfl⟩
 ·rw [(mC h1).1,(mC h2).1]
 ·unfold vW;split
  ·exact nd
  ·exact Zn
def yd8:List Arg->Bool
 |[]=>true
 | .im _::as=>yd8 as
 | .io _::_=>false
theorem ArgsAt.reps{K:tz0}{κ:tz9}{H:Hp}{σ:St}{ps:PSt}:∀{as:List Arg} {vs:List V} {ds:List D},ArgsAt K κ H σ ps as vs ds->yd8 as=true->Reps K κ H vs ds []
 |_,_,_,.nil,_=> .nil
 |_,_,_,.io _ _ _,h=>by cases h
 |_,_,_,.im r a,h=> .cons (f:=[]) (g:=[]) r (ArgsAt.reps a h)
def eD(C m:Str)(g:tz7)(ys:List D)(d:D):Option (D×D):=match d with
 | .obj true C' ns vs=>if (C'=C/\cW ns m=none) then(g (.obj true C' ns vs::ys)).bind fun r=>match r.2 with
   |d'::ds=>if ds.length=ys.length then some (r.1,d') else none
   |[]=>none
  else none
 |_=>none
theorem zm9(h:eD C m g ys d=some (r,d')):∃ns vs ds,d= .obj true C ns vs/\cW ns m=none/\g (d::ys)=some (r,d'::ds)/\ds.length=ys.length:=by
 unfold eD at h
 split at h
 ·rename_i C' ns vs
  by_cases hc:C'=C/\cW ns m=none
  ·rw [if_pos hc] at h
   obtain⟨hC,hn⟩:=hc
   subst hC
   obtain⟨⟨r1,ds⟩,e1,e2⟩:=bind_some h
   cases ds with
   |nil=>cases e2
   |cons d1 ds=>
    obtain⟨hl,e3⟩:=cC e2
    cases e3
    exact⟨ns,vs,ds,rfl,hn,e1,hl⟩
  ·rw [if_neg hc] at h;cases h
 ·cases h
section
variable{X:Cx}{κ:tz9}{φ:F0}{o e:Expr}{es:List Expr}{C m qual:Str}{st:Stmt}{ps:List Str}{f:Addr}{fd:FuncData}{k np j:Nat}{mk:Nat->Bool}{g:tz7}{pf:PSt->Option (List Ps1)}{as:List Arg}{apos pos p:Pos}{pl:Sem Bool}
theorem xr3{σ:St}{H H1:Hp}{Q:VK}{ps:PSt}{F:Nat->List Addr}{d0 d0' r:D}{pp:List Ps1}{v0 v:V}{ys:List D}{us:List V}(R:RS (φ.fx X.K κ) H σ ps F)(s1:SameK H H1)(hb:φ.bor j=false)(e0:ps[j]? =some (some d0))(ev:σ[j]? =some (some v0))
  (em:fO (eD C m g ys) d0 pp=some (r,d0')) (at_:At H1 v0 pp v) (ry:Reps X.K κ H1 us ys []) (hnp:np=ys.length+1) (hm:mk=pU)
  (q:∀v H' F' fv,Stp (φ.fx X.K κ) σ H F σ H' (ps.set j (some d0')) F'->OwnV F H F' fv->Rep X.K κ H' v r fv->Q v H'):SpE np X.K κ mk g (v::us) H1 Q E0:=by
 subst hnp hm
 obtain⟨d1,d1',fd,m1,m2,m3,m4,m5⟩:=xA R s1 hb e0 ev em at_
 obtain⟨ns,vs,ds,rfl,hn,eg,hl⟩:=zm9 m2
 refine⟨by rw [Z6,ry.length],_,r,d1'::ds,vW fd,by simp,zm8 m1 m3 ry,eg,fun u H' F' fv s o rv=> ?_⟩
 obtain⟨v2,fp2,k1,k2,k3,_⟩:=s.rs.rep 0 d1' rfl
 have ek:v2=v:=by
  have:(List.map some (v::us))[0]? =some (some v2):=k1
  simp at this;exact this.symm
 subst ek
 have k3':=k3 (by simp [fxE,pU])
 subst k3'
 have old:∀a,((∃i,a∈vW fd i)\/H1 a=none)->a∈fd\/H a=none:=fun a h=>h.elim (fun⟨i,hi⟩=> .inl (mC hi).2) fun z=> .inr (s1.grow a z)
 obtain⟨F2,st2,ow2⟩:=m5 H' (F' 0) fv (fun a o h k hn=>s.fr.keep a o h k fun i hi=>hn (mC hi).2) (fun a h=>s.fr.grow a h) k2
  (ZB.mpr ⟨s.rs.nd 0,o.nd,fun a ha b hb e=>by subst e;exact o.dis 0 a ha hb⟩)
  (fun a ha=>(Zp.mp ha).elim (fun z=>old a (s.nw 0 a z)) fun z=>old a (o.nw a z))
 exact q u H' F2 fv st2 ow2 rv
theorem xr4{σ:St}{H H1:Hp}{ps:PSt}{F:Nat->List Addr}{d0 d0' r:D}{pp:List Ps1}{v0 v:V}{ys:List D}(R:RS (φ.fx X.K κ) H σ ps F)(s1:SameK H H1)(e0:ps[j]? =some (some d0))(ev:σ[j]? =some (some v0))
  (em:fO (eD C m g ys) d0 pp=some (r,d0')) (at_:At H1 v0 pp v):∃a dx fs,v= .ref a/\H1 a=some (.ins (κ C) dx fs)/\fs.lookup m=none:=by
 obtain⟨dd,dn,gp,hh⟩:=oU em
 obtain⟨ns,vs,ds,rfl,hn,_⟩:=zm9 hh
 obtain⟨fd,rd⟩:=zs7 R.ws s1 e0 ev gp at_
 obtain⟨_,_,_,_,rfl,hl,hk,hs,rfl⟩:=rd.objT_inv
 subst hk;exact⟨_,_,_,rfl,hl,rF hn⟩
theorem lK(M:Mn X.K κ C m qual st ps f fd)(G:FnOk X.prog X.w X.K X.mg X.base CX0 k f fd ps (SpE np X.K κ mk g))(hr:Room k X.A)(hb:φ.bor j=false)(ho:PE X o (pQ X.K κ j pf))(ha:PA X (e::es) (tIO X.K κ as))(has:yd8 as=true)(hnp:np=as.length+1)(hm:mk=pU)
  (hst:StE e es X:=by rfl) (hpl:BkE pos es X:=by rfl)
  (ht:eval (.Call (.Attribute o m apos) (e::es) [] pos) X.env=(do
   let ov<-eval o X.env
   standAt apos.atName
   let (f,first)<-holding [ov] (getMethod ov m pl)
   callWith pos f first (backTo pos (starEach (e::es) X.env)) (backToKw pos (keywordEach [] X.env))):=by rfl):
  QE X κ φ (.Call (.Attribute o m apos) (e::es) [] pos) (dA j pf (cJ as) (eD C m g)):=(xz7 ho M.c M.h G hr M.b .nil zf5 ha hst hpl ht).imp fun σ H Q hh_=>by
 obtain⟨ps,F,d,ps',R,e,q⟩:=hh_
 obtain⟨d0,pp,ys,d0',e0,ep,eg,em,rfl⟩:=zb1 e
 obtain⟨dd,dn,gp,hh⟩:=oU em
 refine⟨ps,pp,d0,dd,R.ws,e0,ep,gp,fun v H1 v0 s1 ev a1=> ?_⟩
 obtain⟨a,dx,fs,rfl,hl,hn⟩:=xr4 R s1 e0 ev em a1
 refine⟨a,dx,fs,rfl,hl,hn,ps,ys,R.ws.same s1,eg,fun us H2 s2 a2=> ?_⟩
 show SpE np X.K κ mk g (_::(us++[])) H2 Q E0
 rw [Zi]
 exact xr3 R (s1.trans s2) hb e0 ev em (a1.same s2) (a2.reps has) (by rw [hnp,a2.len.2]) hm q
end
structure Kn(K:tz0)(mg:tzA)(κ:tz9)(C qual:Str)(st:Stmt)(ps:List Str)(f:Addr)(fd:FuncData):Prop where
 F:Fun K "__init__" qual st f fd
 b:lS K fd ps []
 M:Mk K (κ C) f
 m:mg C=some (.ref (κ C))
def fA(C:Str)(ga:tz3)(g:tz7):tz2:=fun ps=>(ga ps).bind fun ys=>(g (.obj true C [] []::ys)).bind fun r=>match r with
 |(.non,d'::_)=>some d'
 |_=>none
theorem yw9(h:fA C ga g ps=some d):∃ys ds,ga ps=some ys/\g (.obj true C [] []::ys)=some (.non,d::ds):=by
 obtain⟨ys,e1,e2⟩:=bind_some h
 obtain⟨⟨r,ds⟩,e3,e4⟩:=bind_some e2
 cases r with
 |non=>cases ds with
  |nil=>cases e4
  |cons d1 ds=>cases e4;exact⟨ys,ds,e1,e3⟩
 |_=>cases e4
section
variable{X:Cx}{κ:tz9}{e:Expr}{es:List Expr}{C qual:Str}{st:Stmt}{ps:List Str}{f:Addr}{fd:FuncData}{k np:Nat}{mk:Nat->Bool}{g:tz7}{as:List Arg}{pos p:Pos}
theorem wb9{H H1:Hp}{Q:VK}{d:D}{ys ds:List D}{us:List V}{x dx:Addr}(s1:SameK H H1)(hx:H1 x=none)(hdx:H1 dx=none)(hne:dx≠x)(ry:Reps X.K κ H1 us ys [])(hnp:np=ys.length+1)(hm:mk=pU)(eg:g (.obj true C [] []::ys)=some (.non,d::ds))(q:lN X.K κ H d Q):
  SpE np X.K κ mk g (.ref x::us) (upd (upd H1 dx (.own x)) x (.ins (κ C) dx [])) (fun v H2=>v= .non/\Q (.ref x) H2) E0:=by
 subst hnp hm
 have ne:∀a o,H1 a=some o->a≠x/\a≠dx:=fun a o h=>⟨fun z=>(by rw [z,hx] at h;cases h),fun z=>(by rw [z,hdx] at h;cases h)⟩
 have up:∀a o,H1 a=some o->upd (upd H1 dx (.own x)) x (.ins (κ C) dx []) a=some o:=fun a o h=>by rw [bR (ne a o h).1,bR (ne a o h).2];exact h
 have gr:∀a,upd (upd H1 dx (.own x)) x (.ins (κ C) dx []) a=none->H1 a=none:=fun a h=>by
  by_cases z:a=x
  ·rw [z];exact hx
  ·rw [bR z] at h
   by_cases z2:a=dx
   ·rw [z2];exact hdx
   ·rwa [bR z2] at h
 have s2:SameK H1 (upd (upd H1 dx (.own x)) x (.ins (κ C) dx [])):=⟨fun a o h _=>up a o h,gr⟩
 have r0:Rep X.K κ (upd (upd H1 dx (.own x)) x (.ins (κ C) dx [])) (.ref x) (.obj true C [] []) [x]:= .obj (fs:=[]) dG rfl .nil
 have ry2:Reps X.K κ (upd (upd H1 dx (.own x)) x (.ins (κ C) dx [])) us ys []:=ry.move (fun a o h _=>up a o h) fun a ha=>absurd ha (by simp)
 refine⟨by rw [Z6,ry.length],_,.non,d::ds,vW [x],by simp,zm8 r0 (by simp) ry2,eg,fun u H' F' fv s o rv=>⟨by cases rv;rfl,?_⟩⟩
 obtain⟨v2,fp2,k1,k2,k3,_⟩:=s.rs.rep 0 d rfl
 have ek:v2= .ref x:=by
  have:(List.map some (V.ref x::us))[0]? =some (some v2):=k1
  simp at this;exact this.symm
 subst ek
 have k3':=k3 (by simp [fxE,pU])
 subst k3'
 refine q (.ref x) H' (F' 0) ⟨fun a o h hk=> ?_,fun a h=>s1.grow a (gr a (s.fr.grow a h))⟩ (fun a ha=> ?_) (s.rs.nd 0) k2
 ·have h1:=s1.keep a o h hk
  refine s.fr.keep a o (up a o h1) hk fun i hi=> ?_
  have:=(mC hi).2
  simp at this
  exact(ne a o h1).1 this
 ·rcases s.nw 0 a ha with ⟨i,hi⟩|z
  ·have:=(mC hi).2
   simp at this
   subst this
   exact s1.grow a hx
  ·exact s1.grow a (gr a z)
theorem nG(Kd:Kn X.K X.mg κ C qual st ps f fd)(G:FnOk X.prog X.w X.K X.mg X.base CX0 k f fd ps (SpE np X.K κ mk g))(hr:Room (k+1) X.A)(hg:Gl X C)(ha:PA X (e::es) (tIO X.K κ as))(has:yd8 as=true)(hnp:np=as.length+1)(hm:mk=pU)
  (hdb:NDb C:=by decide) (he:StE e es X:=by rfl) (hpl:BkE pos es X:=by rfl):
  QP X κ (.Call (.Name C p) (e::es) [] pos) (fA C (cJ as) g):=(xz8 Kd.M G hr hg Kd.m Kd.b .nil zf5 ha hdb he hpl).imp fun σ H Q hh_=>by
 obtain⟨ps,d,w,e,q⟩:=hh_
 obtain⟨ys,ds,e1,e2⟩:=yw9 e
 refine⟨ps,ys,w,e1,fun us H1 s1 a1 x dx hx hdx hne=> ?_⟩
 show SpE np X.K κ mk g (_::(us++[])) _ _ E0
 rw [Zi]
 exact wb9 s1 hx hdx hne (a1.reps has) (by rw [hnp,a1.len.2]) hm e2 q
end
section
variable{X:Cx}{κ:tz9}
theorem xg1:MtR X "str.startswith" (fun x xs H Q=>∃z y,x= .str z/\xs=[.str y]/\Q (.bl (Txt.startswith z y)) H):=⟨by
 intro pins s σ H x xs v us Q I rx r h
 obtain⟨z,y,rfl,rfl,q⟩:=h
 obtain⟨t,rfl⟩:=rx
 obtain⟨u,rfl,t',rfl⟩:=oG r
 exact SC.startswith ⟨.bl _,H,I.tok _,rfl,q⟩⟩
def rJ:D->tz6
 | .str z,[.str y]=>some (.bl (Txt.startswith z y))
 |_,_=>none
theorem yh4:MtR X "str.startswith" (PMt X.K κ rJ):=⟨by
 rintro pins s σ H x vs v us Q I rx r ⟨dx,ds,fx,fp,d,r1,rs,e,q⟩
 unfold rJ at e
 split at e
 ·cases e
  obtain⟨w,rfl,r2⟩:=rs.one_inv
  exact xg1 pins s σ H x _ v us Q I rx r ⟨_,_,r1.is_str,by rw [r2.is_str],q.now (.bl _)⟩
 ·cases e⟩
end
theorem dN(n:Nat):bI (true::List.replicate n false)=pU:=by
 funext i
 unfold bI pU
 cases i with
 |zero=>rfl
 |succ i=>
  rw [Ye,Yu]
  split<;>simp
def kap:List (Str×Addr)->tz9
 |[],_=>mainGlobals
 |(x,a)::r,y=>if x=y then a else kap r y
section
variable{X:Cx}{pins:tzB}{σ:St}{H:Hp}{s:Shared}{a C dx:Addr}{fs:List (Str×V)}
theorem Inv.freeze(I:Inv X pins σ H s)(h:H a=some (.ins C dx fs)):Inv X pins σ (upd H a (.frz (PySem.W.instObj C dx) (.ins C dx fs))) s:=by
 have ne:∀b,H b=none->b≠a:=fun b hb z=>by rw [z,h] at hb;cases hb
 have nt:∀b o,H b=some o->(∀C' dx' fs',o≠ .ins C' dx' fs')->b≠a:=fun b o hb ho z=>by
  rw [z,h] at hb
  cases hb
  exact ho _ _ _ rfl
 refine⟨I.ok,I.os,I.bare,⟨I.base.keep,I.base.slot,fun b o h1 h2 h3=> ?_,I.base.there,fun b xs h1=> ?_,fun b o u h1=> ?_,fun b ps h1=> ?_⟩,I.loc,I.cell,?_,fun x c e=> ?_,fun p hp=> ?_,fun b o e=> ?_,I.len⟩
 ·have:=I.base.free b o h1 h2 h3
  rw [bR (ne b this)];exact this
 ·have:=I.base.tups b xs h1
  rw [bR (nt b _ this fun _ _ _ z=>by cases z)];exact this
 ·have:=I.base.frzs b o u h1
  rw [bR (nt b _ this fun _ _ _ z=>by cases z)];exact this
 ·obtain⟨more,this⟩:=I.base.tbls b ps h1
  exact⟨more,by rw [bR (nt b _ this fun _ _ _ z=>by cases z)];exact this⟩
 ·rw [bR (ne _ I.free)];exact I.free
 ·have:=I.freeC x c e
  rw [bR (ne _ this)];exact this
 ·obtain⟨p1,p2,p3⟩:=I.pin p hp
  exact⟨p1,by rw [bR (ne _ p2)];exact p2,p3⟩
 ·have st:∀{b o},eI X.prog X.w H s.heap b o->eI X.prog X.w (upd H a (.frz (PySem.W.instObj C dx) (.ins C dx fs))) s.heap b o:=fun x=>
   x.stay (fun _ _ _ q=>q) (fun b' hb=>by rw [bR (nt b' _ hb fun _ _ _ z=>by cases z)];exact hb) fun b' xs hb=>by rw [bR (nt b' _ hb fun _ _ _ z=>by cases z)];exact hb
  by_cases z:b=a
  ·subst z
   rw [dG] at e
   cases e
   have x:=I.hok b _ h
   obtain⟨_,_,_,ob,_⟩:=(show eI X.prog X.w H s.heap b (.ins C dx fs) from x)
   exact⟨ob,st x⟩
  ·rw [bR z] at e
   exact st (I.hok b o e)
end
theorem PE.frz(h:PE X e t):PE X e (fun σ H Q=>t σ H fun x H'=>∃a C dx fs,x= .ref a/\H' a=some (.ins C dx fs)/\Q x (upd H' a (.frz (PySem.W.instObj C dx) (.ins C dx fs)))):=⟨by
 intro pins s σ H Q I q
 exact thn (h pins s σ H _ I q) fun v s1 ⟨x,H1,I1,rx,a,C,dx,fs,ex,ea,q1⟩=>⟨x,_,I1.freeze ea,rx,q1⟩⟩
def nV(f:tz2):tz2:=fun ps=>(f ps).bind fun d=>match d with
 | .obj true C ns vs=>if D.imms vs=true then some (.obj false C ns vs) else none
 |_=>none
theorem zn0(h:QP X κ e f):QP X κ e (nV f):=
 (PE.frz h).imp fun σ H Q hh_=>by
  obtain⟨ps,d,w,e,q⟩:=hh_
  obtain⟨d0,e1,e2⟩:=bind_some e
  refine⟨ps,d0,w,e1,fun v H1 fv s1 n1 nd1 r1=> ?_⟩
  cases d0 with
  | obj o C ns vs=>cases o with
   | true=>
    have e2':(if D.imms vs=true then some (D.obj false C ns vs) else none)=some d:=e2
    obtain⟨hi,e3⟩:=cC e2'
    cases e3
    obtain⟨l,dx,fs,g,rfl,hl,hn,hs,rfl⟩:=r1.objT_inv
    have eg:=hs.imm hi
    subst eg
    have hln:=n1 l Z0
    have up:∀b o,H b=some o->b≠l:=fun b o hb z=>by rw [z,hln] at hb;cases hb
    refine⟨l,κ C,dx,fs,rfl,hl,q (.ref l) _ [] ⟨fun b o hb hk=> ?_,fun b hb=> ?_⟩ (fun _ h=>absurd h (by simp)) Zn (.objF dG hn (hs.move (fun b o hb ht=> ?_) fun _ h=>absurd h (by simp)))⟩
    ·rw [bR (up b o hb)];exact s1.keep b o hb hk
    ·by_cases z:b=l
     ·rw [z,dG] at hb;cases hb
     ·rw [bR z] at hb;exact s1.grow b hb
    ·by_cases z:b=l
     ·rw [z,hl] at hb;cases hb;cases ht
     ·rw [bR z];exact hb
   |false=>cases e2
  |_=>cases e2
section
variable{X:Cx}{κ:tz9}
theorem xr5:MtR X "str.rfind" (fun x xs H Q=>∃z y,x= .str z/\xs=[.str y]/\Q (.int (Txt.rfind z y)) H):=⟨by
 intro pins s σ H x xs v us Q I rx r h
 obtain⟨z,y,rfl,rfl,q⟩:=h
 obtain⟨t,rfl⟩:=rx
 obtain⟨u,rfl,t',rfl⟩:=oG r
 exact SC.rfind ⟨.int _,H,I.tok _,⟨_,rfl⟩,q⟩⟩
def zq2:D->tz6
 | .str z,[.str y]=>some (.int (Txt.rfind z y))
 |_,_=>none
theorem wc0:MtR X "str.rfind" (PMt X.K κ zq2):=⟨by
 rintro pins s σ H x vs v us Q I rx r ⟨dx,ds,fx,fp,d,r1,rs,e,q⟩
 unfold zq2 at e
 split at e
 ·cases e
  obtain⟨w,rfl,r2⟩:=rs.one_inv
  exact xr5 pins s σ H x _ v us Q I rx r ⟨_,_,r1.is_str,by rw [r2.is_str],q.now (.int _)⟩
 ·cases e⟩
end
def fTE(f:tz8):PSt->Option (Bool×PSt):=fun ps=>(f ps).bind fun r=>(zv7 r.1).bind fun b=>some (b,r.2)
def fE2(g:D->D->Option D)(fa:tz8)(fb:tz2):tz8:=fun ps=>(fa ps).bind fun r=>(fb r.2).bind fun y=>(g r.1 y).bind fun d=>some (d,r.2)
section
variable{X:Cx}{κ:tz9}{φ:F0}{a b:Expr}{pos:Pos}
theorem wc1(h:QE X κ φ a f)(he:∀whole,isTrue a X.env whole=(do let v<-whole;standAt a.pos;holding [v] (truthy v)):=by intro _;rfl):QTE X κ φ a (fTE f):=(yf5 h he).imp fun σ H Q hh_=>by
 obtain⟨ps,F,c,ps',R,e,q⟩:=hh_
 obtain⟨⟨d,p1⟩,e1,e2⟩:=bind_some e
 obtain⟨c1,e3,e4⟩:=bind_some e2
 cases e4
 exact⟨ps,F,d,p1,R,e1,fun v H' F' fv s o r=>⟨_,yq3 r e3,q H' F' s⟩⟩
theorem wj7(ho:OpR X (compareOp op) (POp X.K κ g))(ha:QE X κ φ a fa)(hb:QV X κ b fb)(hm:behindInMarks op b=false):QE X κ φ (.Compare a [op] [b] pos) (fE2 g fa fb):=
 (yp6 ho ha hb hm).imp fun σ H Q hh_=>by
  obtain⟨ps,F,d,ps',R,e,q⟩:=hh_
  obtain⟨⟨dx,p1⟩,e1,e2⟩:=bind_some e
  obtain⟨y,e3,e4⟩:=bind_some e2
  obtain⟨d1,e5,e6⟩:=bind_some e4
  cases e6
  refine⟨ps,F,dx,p1,R,e1,fun v H1 F1 fv s1 o1 r1=>⟨p1,y,s1.rs.ws,e3,fun u H2 fu s2 r2=>⟨dx,y,_,fv,fu,r1.same s2,r2,e5,fun w H3 fw s3 n3 nd3 r3=> ?_⟩⟩⟩
  exact q w H3 F1 fw (s1.trans (.same s1.rs (s2.trans s3))) (OwnV.after s1 (OwnV.new s1.rs (fun a ha=>s2.grow a (n3 a ha)) nd3)) r3
end
def xw5:D->Option (List D)
 | .tup ds=>some ds
 |_=>none
theorem xg2(h:xw5 d=some ys):d= .tup ys:=by
 unfold xw5 at h
 split at h
 ·cases h;rfl
 ·cases h
def oA(is:List Nat)(f:tz1):List D->tz1
 |[],ps=>some (.nx,ps)
 | d::ds,ps=>(xw5 d).bind fun ys=>if ys.length=is.length then(f (pS ps is ys)).bind fun q=>match q with
   |(.nx,p)=>oA is f ds p
   |(.ct,p)=>oA is f ds p
   |(.bk,p)=>some (.nx,p)
   |(.ret d,p)=>some (.ret d,p)
  else none
def yd9(is:List Nat)(fi:tz3)(f:tz1):tz1:=fun ps=>(fi ps).bind fun ds=>oA is f ds ps
def xa7:D->Option (List D)
 | .lst true xs=>if D.imms xs=true then some xs else none
 |_=>none
theorem yx0(h:xa7 d=some xs):d= .lst true xs/\D.imms xs=true:=by
 unfold xa7 at h
 split at h
 ·obtain⟨h1,h2⟩:=cC h
  cases h2
  exact⟨rfl,h1⟩
 ·cases h
def DkT{α:Type}:Sem α->Prop
 | .pure _=>True
 | .raise _=>True
 | .unsupported _=>True
 | .rule _ k=>∀x,DkT (k x)
 | .at _ k=>∀x,DkT (k x)
 | .load _ _ k=>∀x,DkT (k x)
 | .update _ _ f k=>(∀o:Obj,(f o).dict=o.dict)/\∀x,DkT (k x)
 | .alloc _ k=>∀x,DkT (k x)
 | .stack k=>∀x,DkT (k x)
 |_=>False
theorem DkT.bind{α β:Type}{f:α->Sem β}(hf:∀a,DkT (f a)):∀{m:Sem α},DkT m->DkT (m>>=f):=by
 intro m
 show DkT m->DkT (m.bind f)
 induction m with
 |pure a=>exact fun _=>hf a
 |raise=>exact fun _=>trivial
 |unsupported=>exact fun _=>trivial
 |rule _ k ih=>exact fun h x=>ih x (h x)
 |«at» _ k ih=>exact fun h x=>ih x (h x)
 |load _ _ k ih=>exact fun h x=>ih x (h x)
 |update _ _ f k ih=>exact fun h=>⟨h.1,fun x=>ih x (h.2 x)⟩
 |alloc _ k ih=>exact fun h x=>ih x (h x)
 |stack k ih=>exact fun h x=>ih x (h x)
 |_=>exact fun h=>h.elim
def KDs(h h':Heap):Prop:=∀(b:Nat) (o:Obj),h.objs[b]? =some o->∃o':Obj,h'.objs[b]? =some o'/\o'.dict=o.dict
theorem KDs.refl(h:Heap):KDs h h:=fun b o e=>⟨o,e,rfl⟩
theorem KDs.trans(x:KDs a b)(y:KDs b c):KDs a c:=fun i o e=>by
 obtain⟨o1,e1,q1⟩:=x i o e
 obtain⟨o2,e2,q2⟩:=y i o1 e1
 exact⟨o2,e2,q2.trans q1⟩
theorem yx1(d:∀o:Obj,(f o).dict=o.dict)(h:Heap):KDs h (h.update a f):=fun b o e=>by
 obtain⟨os,l⟩:=h
 show ∃o':Obj,(os.modify a f)[b]? =some o'/\o'.dict=o.dict
 have e':os[b]? =some o:=e
 rw [Array.getElem?_modify,e']
 split
 ·exact⟨_,rfl,d o⟩
 ·exact⟨o,rfl,rfl⟩
theorem xr6(h:Heap)(x:Obj):KDs h (h.push x):=fun b o e=>by
 obtain⟨os,l⟩:=h
 have e':os[b]? =some o:=e
 refine⟨o,?_,rfl⟩
 show(os.push x)[b]? =some o
 have hl:=(Array.getElem?_eq_some_iff.mp e').1
 rw [Array.getElem?_push,if_neg (ZF hl)];exact e'
theorem wq3:∀(t:Sem α),DkT t->∀{Q:α->Pos->Shared->Prop} (p:Pos) (s:Shared),Sem.wp M Γ t Q E p s->Sem.wp M Γ t (fun a p s'=>Q a p s'/\KDs s.heap s'.heap) E p s:=by
 intro t
 have up:∀{t:Sem α} {Q:α->Pos->Shared->Prop} {p:Pos} {s:Shared} {h:Heap},KDs h s.heap->Sem.wp M Γ t (fun a p s'=>Q a p s'/\KDs s.heap s'.heap) E p s->Sem.wp M Γ t (fun a p s'=>Q a p s'/\KDs h s'.heap) E p s:=fun k x=>Sem.wp_mono M Γ _ (fun _ _ _ z=>⟨z.1,k.trans z.2⟩) (fun _ _ _ z=>z) _ _ x
 induction t with
 |pure a=>exact fun _ Q p s h=>⟨h,.refl _⟩
 |raise e=>exact fun _ Q p s h=>h
 |unsupported=>exact fun _ Q p s h=>h
 |rule _ k ih=>exact fun d Q p s h=>ih () (d ()) p s h
 |«at» p' k ih=>exact fun d Q p s h=>ih () (d ()) p' s h
 |load a _ k ih=>exact fun d Q p s h=>by obtain⟨o,e,h⟩:=h;exact⟨o,e,ih o (d o) p s h⟩
 |update a _ f k ih=>exact fun d Q p s h=>⟨h.1,up (yx1 d.1 _) (ih () (d.2 ()) p _ h.2)⟩
 |alloc o k ih=>exact fun d Q p s h=>up (t:=k s.heap.objs.size) (s:={s with heap:=s.heap.push o}) (xr6 _ o) (ih _ (d _) p _ h)
 |stack k ih=>exact fun d Q p s h=>ih _ (d _) p s h
 |_=>exact fun d=>d.elim
theorem yh5(d:DkT t)(h:wpAny M A t Q E s):wpAny M A t (fun a s'=>Q a s'/\KDs s.heap s'.heap) E s:=
 fun Γ p hΓ=>wq3 t d p s (h Γ p hΓ)
theorem zt1(o:Obj)(f:Array Value->Array Value):(Obj.mapFields f o).dict=o.dict:=by
 unfold Obj.mapFields
 split<;>rfl
theorem zt2:DkT (load a):=fun _=>trivial
theorem yC{v:Value}{i:Nat}:DkT (field v i):=by
 unfold field fieldsOf
 refine DkT.bind (fun _=>by split<;>trivial) ?_
 split
 ·exact DkT.bind (fun _=>by split<;>trivial) zt2
 ·trivial
theorem yh6{v x:Value}{i:Nat}:DkT (setField v i x):=by
 unfold setField updateField
 split
 ·refine DkT.bind (fun _=> ?_) zt2
  split
  ·split
   ·exact⟨fun o=>zt1 o _,fun _=>trivial⟩
   ·trivial
  ·trivial
 ·trivial
theorem xg3{e:Value}{f:Option Addr}:DkT (setFlight e f):=by
 unfold setFlight
 refine DkT.bind (fun _=> ?_) yC
 split
 ·exact yh6
 ·trivial
theorem yh7:∀l:List Env,DkT (readyFrames l)
 |[]=>trivial
 | env::outer=>by
  unfold readyFrames
  split
  ·refine DkT.bind (fun _=> ?_) zt2
   split
   ·trivial
   ·refine DkT.bind (fun _=>DkT.bind (fun _=>DkT.bind (fun _=>yh7 outer) (by exact⟨fun _=>rfl,fun _=>True.intro⟩)) ?_) ?_
    ·unfold keptBack
     split
     ·split
      ·trivial
      ·exact DkT.bind (fun _=>by exact True.intro) (DkT.bind (fun _=>by exact True.intro) (by exact fun _=>True.intro))
     ·trivial
    ·unfold behindIsImport
     split
     ·trivial
     ·split
      ·trivial
      ·exact DkT.bind (fun _=>by exact True.intro) yC
  ·trivial
theorem wc2{e:Value}{env:Env}:DkT (noteFrame e env):=by
 unfold noteFrame
 split
 ·refine DkT.bind (fun hd=> ?_) yC
  have nw:∀{f:Addr} {b:Bool},DkT (do setField e 1 (<-EntryCells.newEntry hd (<-PySem.frameOf env) .none (rawInt f) .none (<-entryPlaceOf f b))):=fun {f b}=>by
   refine DkT.bind (fun _=>DkT.bind (fun _=>DkT.bind (fun _=>yh6) ?_) ?_) ?_
   ·unfold EntryCells.newEntry newFields newObj newObjAsIs
    dsimp only
    split<;>split<;>first|exact True.intro|exact fun _=>True.intro
   ·unfold entryPlaceOf
    refine DkT.bind (fun _=> ?_) (by exact fun _=>True.intro)
    split<;>trivial
   ·unfold PySem.frameOf
    refine DkT.bind (fun _=>DkT.bind (fun _=>by split<;>trivial) ?_) (DkT.bind (fun _=>by exact True.intro) (by exact fun _=>True.intro))
    unfold frameObject
    split
    ·trivial
    ·exact DkT.bind (fun _=>by exact True.intro) (yh7 _)
  split
  ·refine DkT.bind (fun _=> ?_) yC
   split
   ·exact True.intro
   ·exact DkT.bind (fun _=>nw) yh6
  ·exact nw
 ·trivial
theorem yh8{e:Value}{env:Env}:DkT (leaving env e):=DkT.bind (fun _=>xg3) wc2
def KD(e:Addr)(dd:Option Addr)(h:Heap):Prop:=∃o,h.get? e=some o/\o.dict=dd
theorem yh9{h:Heap}{e:Addr}{o:Obj}(q:h.get? e=some o):h.objs[e]? =some o:=by
 unfold Heap.get? at q
 split at q
 ·cases q
 ·exact q
theorem KD.step{e:Addr}{dd:Option Addr}{h h':Heap}(k:KD e dd h)(s:KDs h h')(t:∃o,h'.get? e=some o):KD e dd h':=by
 obtain⟨o,q1,q2⟩:=k
 obtain⟨o',q3⟩:=t
 obtain⟨o2,q4,q5⟩:=s e o (yh9 q1)
 rw [yh9 q3] at q4
 cases q4
 exact⟨o',q3,q5.trans q2⟩
section
variable{M:Model}{A:Around}{E:Value->Shared->Prop}{s:Shared}{base:Heap}{env:Env}{outer:List Env}{L e:Addr}{oe:Obj}{vs:Array Value}{dd:Option Addr}{cls a0:Value}
theorem yx2(fr:A.frames=some (env::outer))(hf:env.frame=some L)(fl:Heap.FlyingW base (env::outer) e cls a0 s.heap)(kd:KD e dd s.heap)(q:∀h',Heap.FlyingW base outer e cls a0 h'->s.heap.UpToSlots h'->KD e dd h'->Q () {s with heap:=h'}):wpAny M A (leaving env (.ref e)) Q E s:=
 ZW (yh5 yh8 (wpAny_leaves_onW (Q:=fun _ s'=>∃h',s'={s with heap:=h'}/\Heap.FlyingW base outer e cls a0 h'/\s.heap.UpToSlots h') fr hf fl fun h' x y=>⟨h',rfl,x,y⟩)) (fun _ _ h=>by
  obtain⟨⟨h',rfl,x,y⟩,z⟩:=h
  exact q h' x y (kd.step z (x.there.imp fun _ w=>w.1))) fun _ _ h=>h
theorem xg4(fr:A.frames=some (env::outer))(ff:s.heap.FunFrames base (env::outer))(hf:env.frame=some L)(he:s.heap.get? e=some oe)(kb:base.StaysIn s.heap)(en:base.get? e=none)(hd:oe.data= .fields vs)(h1:vs[1]? =some .none)(h0:vs[0]? =some a0)(kd:oe.dict=dd)
  (q:∀h',Heap.LeftW base (env::outer) e oe.cls a0 s.heap h'->KD e dd h'->Q () {s with heap:=h'}):wpAny M A (leaving env (.ref e)) Q E s:=
 ZW (yh5 yh8 (wpAny_leaving_firstW (Q:=fun _ s'=>∃h',s'={s with heap:=h'}/\Heap.LeftW base (env::outer) e oe.cls a0 s.heap h') fr ff hf he kb en hd h1 h0 fun h' x=>⟨h',rfl,x⟩)) (fun _ _ h=>by
  obtain⟨⟨h',rfl,x⟩,z⟩:=h
  exact q h' x (KD.step ⟨oe,he,kd⟩ z (x.2.2.1.at.there.imp fun _ w=>w.1))) fun _ _ h=>h
end
theorem eI.get(x:eI P w H h a o):∃u,h.get? a=some u:=by
 cases o with
 |lst xs=>obtain⟨_,_,_,_,e⟩:=x;exact⟨_,e⟩
 |tup xs=>obtain⟨_,_,_,_,e,_⟩:=x;exact⟨_,e⟩
 |dK kvs=>obtain⟨_,_,_,_,o,_,_,e,_⟩:=x;exact⟨_,e⟩
 |dT kvs=>obtain⟨_,_,_,_,o,_,_,e,_⟩:=x;exact⟨_,e⟩
 |set S n=>obtain⟨o,_,_,_,e,_⟩:=x;exact⟨_,e⟩
 |ins C dx fs=>obtain⟨_,_,_,e,_⟩:=x;exact⟨_,e⟩
 |own y=>exact x
 |xd fs=>obtain⟨_,⟨_,_,_,e,_⟩,_⟩:=x;exact⟨_,e⟩
 |rng lo hi=>obtain⟨_,_,_,e⟩:=x;exact⟨_,e⟩
 |frz ob u=>obtain⟨e,_⟩:=x;exact⟨_,e⟩
 |tbl ps=>exact⟨_,(show h.get? a=some _ from x)⟩
 |met f y=>exact⟨_,(show h.get? a=some _ from x)⟩
 |ext φ=>obtain⟨_,e,_⟩:=x;exact e
theorem HOk.none_of(x:HOk P w H h){a:Addr}(e:h.get? a=none):H a=none:=by
 cases q:H a with
 |none=>rfl
 |some o=>obtain⟨u,z⟩:=(x a o q).get;rw [e] at z;cases z
theorem HOk.but(x:HOk P w H h)(k:∀b o u,H b=some o->h.get? b=some u->h'.get? b=some u):HOk P w H h':=fun a o e=>
 (x a o e).stay (fun b u hb q=>by
  rcases hb with rfl|hb
  ·exact k _ _ _ e q
  ·exact k _ _ _ hb q) (fun _ q=>q) fun _ _ q=>q
theorem zy5(e:(PySem.W.hideAll h as).get? b=none):b∈as\/h.get? b=none:=by
 cases q:h.get? b with
 |none=>exact .inr rfl
 |some o=>
  by_cases m:b∈as
  ·exact .inl m
  ·rw [Yc as q m] at e;cases e
theorem yr1(h:env∈l)(e:env.frame=some a):a∈frs l:=Xn.mpr ⟨env,h,e⟩
structure Fly(base:Heap)(C:Addr)(l:List Env)(H:Hp)(h0:Heap)(e T:Addr)(a0:Value)(h:Heap):Prop where
 ne:h0.get? e=none
 nT:h0.get? T=none
 He:H e=none
 HT:H T=none
 st:base.StaysIn h
 be:base.get? e=none
 bT:base.get? T=none
 fr:h.FunFrames base l
 tr:∃oe vs oT ts,h.get? e=some oe/\(oe.cls= .ref C/\vs[0]? =some a0)/\oe.data= .fields vs/\vs[1]? =some (.ref T)/\T≠e/\h.get? T=some oT/\oT.data= .fields ts/\ts[3]? =some .none
abbrev xw6(h:Heap)(l:List Env)(e T:Addr):Heap:=PySem.W.hideAll h (e::T::frs l)
section
variable{base h0 h:Heap}{C e T:Addr}{l:List Env}{H:Hp}{a0:Value}
theorem Fly.flying(x:Fly base C l H h0 e T a0 h):Heap.FlyingW (xw6 h l e T) l e (.ref C) a0 h:=by
 obtain⟨oe,vs,oT,ts,h1,h2,h3,h4,h5,h6,h7,h8⟩:=x.tr
 refine⟨fun b o q=>Xm _ q,YB _ Z0,W5 x.fr fun env m a q=>Z1 _ (Z1 _ (yr1 m q)),?_⟩
 exact⟨oe,vs,T,oT,ts,h1,h2,h3,h4,YB _ (Z1 _ Z0),h5,h6,h7,h8⟩
theorem Fly.base_in(x:Fly base C l H h0 e T a0 h):base.StaysIn (xw6 h l e T):=fun b o q=>by
 refine Yc _ (x.st b o q) fun m=> ?_
 rcases Z5.mp m with z|m
 ·rw [z,x.be] at q;cases q
 ·rcases Z5.mp m with z|m
  ·rw [z,x.bT] at q;cases q
  ·rw [(x.fr.mem m).1] at q;cases q
theorem Fly.next(x:Fly base C l H h0 e T a0 h)(ok:HOk P w H h)(th:∀b o,h0.get? b=some o->∃o',h.get? b=some o'){h':Heap}{l':List Env}(ups:h.UpToSlots h')(f:Heap.FlyingW (xw6 h l e T) l' e (.ref C) a0 h'):∃T',Fly base C l' H h0 e T' a0 h':=by
 obtain⟨k1,k2,k3,oe,vs,T',oT,ts,h1,h2,h3,h4,h5,h6,h7,h8,h9⟩:=f
 have hT:T'=T\/h.get? T'=none:=by
  rcases zy5 h5 with m|m
  ·rcases Z5.mp m with z|m
   ·exact absurd z h6
   ·rcases Z5.mp m with z|m
    ·exact .inl z
    ·obtain⟨_,o,q1,q2⟩:=x.fr.mem m
     obtain⟨sl,q3⟩:=ups T' o q1 q2
     rw [h7] at q3;cases q3
     exact absurd h8 (q2 _)
  ·exact .inr m
 refine⟨T',x.ne,?_,x.He,?_,fun b o q=>k1 b o (x.base_in b o q),x.be,?_,W6 x.base_in k3,oe,vs,oT,ts,h1,h2,h3,h4,h6,h7,h8,h9⟩
 ·rcases hT with z|z
  ·rw [z];exact x.nT
  ·cases q:h0.get? T' with
   |none=>rfl
   |some o=>obtain⟨o',q'⟩:=th _ _ q;rw [z] at q';cases q'
 ·rcases hT with z|z
  ·rw [z];exact x.HT
  ·exact ok.none_of z
 ·cases q:base.get? T' with
  |none=>rfl
  |some o=>have:=x.base_in T' o q;rw [h5] at this;cases this
end
theorem zt3(fr:h.FunFrames base l)(ups:h.UpToSlots h')(st:(PySem.W.hideAll h (S++frs l)).StaysIn h'):Un (frs l) S H H h h':=by
 have kp:∀b o,h.get? b=some o->b∉frs l->b∉S->h'.get? b=some o:=fun b o q n1 n2=>st b o (Yc _ q fun m=>(Zp.mp m).elim n2 n1)
 have sl:∀b o,h.get? b=some o->b∈frs l->∃s,h'.get? b=some {o with slots:=s}:=fun b o q m=>by
  obtain⟨_,o',q1,q2⟩:=fr.mem m
  rw [q] at q1;cases q1
  exact ups b o q q2
 refine⟨fun b o q _ hb hx=>kp b o q hb hx,fun b o q _ hb _=>sl b o q hb,fun _ _ _ n _=>n,fun b o q hx=> ?_,fun _ _ q=>q,fun _ _ _ q=>q,fun _ ps q=>⟨#[],by rw [q];simp⟩⟩
 by_cases hb:b∈frs l
 ·obtain⟨s,e⟩:=sl b o q hb;exact⟨_,e⟩
 ·exact⟨o,kp b o q hb hx⟩
theorem zt4(u:Un fs' ex' H H' h h')(hx:∀b o,h.get? b=some o->b∉ex')(hf:∀b o,h.get? b=some o->b∈fs'->b∈fs):Un fs [] H H' h h':=
 ⟨fun b o q n hb _=>u.keep b o q n (fun z=>hb (hf b o q z)) (hx b o q),fun b o q n _ _=>u.any q n (hx b o q),fun b o q n _=>u.free b o q n (hx b o q),fun b o q _=>u.there b o q (hx b o q),u.tups,u.frzs,u.tbls⟩
theorem zj6(ok:HOk P w H h)(hS:∀b∈S,H b=none)(hF:∀b∈frs l,H b=none)(st:(PySem.W.hideAll h (S++frs l)).StaysIn h'):HOk P w H h':=
 ok.but fun b o u e q=>st b u (Yc _ q fun m=>by
  rcases Zp.mp m with m|m
  ·rw [hS b m] at e;cases e
  ·rw [hF b m] at e;cases e)
def CXn(P:Program)(w:World)(base:Heap)(C:Addr):CXT:=fun outer H s E e s'=>∃ea T a0 dd H',e= .ref ea/\s'.os=s.os/\AllBare s'.gens/\Un (frs outer) [] H H' s.heap s'.heap/\HOk P w H' s'.heap/\Fly base C outer H' s.heap ea T a0 s'.heap/\KD ea dd s'.heap/\E (.ref C) dd H'
theorem Fly.down(x:Fly base C l H h1 e T a0 h)(th:∀b o,h0.get? b=some o->∃o',h1.get? b=some o'):Fly base C l H h0 e T a0 h:=by
 have none:∀{b:Addr},h1.get? b=none->h0.get? b=none:=fun {b} z=>by
  cases q:h0.get? b with
  |none=>rfl
  |some o=>obtain⟨o',q'⟩:=th _ _ q;rw [z] at q';cases q'
 exact⟨none x.ne,none x.nT,x.He,x.HT,x.st,x.be,x.bT,x.fr,x.tr⟩
section
variable{P:Program}{w:World}{K:tz0}{mg:tzA}{base:Heap}{N:List Str}{qual:Str}{scope:Scope}{f C:Addr}{cd:Value}{A:Around}{outer:List Env}{s:Shared}{H:Hp}{E:XK}
theorem zg2:frs (envOfC qual scope s.heap.objs.size f cd::outer)=s.heap.objs.size::frs outer:=rfl
theorem wq4:nY (CXn P w base C) (iW (CXn P w base C) P w K mg base N qual scope f cd A outer s H E) E:=by
 intro pins σ H1 s1 e s2 I h
 obtain⟨ea,T,a0,dd,H2,rfl,os,bare,un,hok,fly,kd,q⟩:=h
 have stk:∀b∈frs (envOfC qual scope s.heap.objs.size f cd::outer),H2 b=none:=fun b m=>by
  obtain⟨_,o,q1,_⟩:=(show s1.heap.FunFrames base (envOfC qual scope s.heap.objs.size f cd::outer) from I.stack).mem m
  exact un.free b o q1 (I.stkFree b m) (by simp)
 have th1:∀b o,s1.heap.get? b=some o->∃o',s2.heap.get? b=some o':=fun b o q=>un.there b o q (by simp)
 have th0:∀b o,s.heap.get? b=some o->∃o',s1.heap.get? b=some o':=fun b o q=>I.base.there b o q (by show b∉([]:List Addr);simp)
 show wpAny (model P w) (A.deeper (envOfC qual scope s.heap.objs.size f cd)) (leaving (envOfC qual scope s.heap.objs.size f cd) (.ref ea)) (fun _ s''=>CXn P w base C outer H s E (.ref ea) s'') (fun e' s''=>CXn P w base C outer H s E e' s'') s2
 refine yx2 (L:=s.heap.objs.size) I.ok.frames rfl fly.flying kd fun h' fl ups kd'=> ?_
 obtain⟨T',fly'⟩:=fly.next hok th1 ups fl
 have st:(PySem.W.hideAll s2.heap ([ea,T]++frs (envOfC qual scope s.heap.objs.size f cd::outer))).StaysIn h':=fl.1
 have u1:Un (frs (envOfC qual scope s.heap.objs.size f cd::outer)) [ea,T] H H1 s.heap s1.heap:=(show Un (frs outer) [] H H1 s.heap s1.heap from I.base).mono (fun b m=>by rw [zg2];exact Z1 _ m) (fun b m=>absurd m (by simp))
 have u2:=un.mono (fs':=frs (envOfC qual scope s.heap.objs.size f cd::outer)) (ex':=[ea,T]) (fun b m=>m) (fun b m=>absurd m (by simp))
 have u3:Un (frs (envOfC qual scope s.heap.objs.size f cd::outer)) [ea,T] H2 H2 s2.heap h':=zt3 fly.fr ups st
 refine⟨ea,T',a0,dd,H2,rfl,os.trans (show s1.os=s.os from I.os),bare,zt4 ((u1.trans u2).trans u3) (fun b o q m=> ?_) (fun b o q m=> ?_),zj6 hok (fun b m=> ?_) stk st,fly'.down th0,kd',q⟩
 ·obtain⟨o',q'⟩:=th0 b o q
  rcases Z5.mp m with z|m
  ·rw [z,fly.ne] at q';cases q'
  ·rw [Zg.mp m,fly.nT] at q';cases q'
 ·rw [zg2] at m
  rcases Z5.mp m with z|m
  ·exact absurd (Zm q) (by rw [z];exact Y5 _)
  ·exact m
 ·rcases Z5.mp m with z|m
  ·rw [z];exact fly.He
  ·rw [Zg.mp m];exact fly.HT
end
abbrev wo3(C:Addr)(dx:Option Addr)(t:Addr):Obj:={cls:= .ref C,dict:=dx,data:= .fields #[.ref t,.none,.none,.none,.bool false,.none]}
section
variable{P:Program}{w:World}{K:tz0}{mg:tzA}{base:Heap}{N:List Str}{qual:Str}{scope:Scope}{f C:Addr}{cd:Value}{A:Around}{outer:List Env}{s:Shared}{H:Hp}{E:XK}
theorem xg5(I:Inv (iW (CXn P w base C) P w K mg base N qual scope f cd A outer s H E) pins σ H2 s2)(ne:s.heap.get? e=none)(He:H2 e=none)(he:s2.heap.get? e=some (wo3 C dd t))(q:E (.ref C) dd H2):
  (iW (CXn P w base C) P w K mg base N qual scope f cd A outer s H E).xe (.ref e) s2:=by
 have fr1:s2.heap.FunFrames base (envOfC qual scope s.heap.objs.size f cd::outer):=I.stack
 have nf:∀b∈frs (envOfC qual scope s.heap.objs.size f cd::outer),base.get? b=none:=fun b m=>(fr1.mem m).1
 have be:base.get? e=none:=by
  cases z:base.get? e with
  |none=>rfl
  |some o=>have:=(I.ok.bs e o z).1;rw [show(iW (CXn P w base C) P w K mg base N qual scope f cd A outer s H E).s₀.heap.get? e=none from ne] at this;cases this
 have th0:∀b o,s.heap.get? b=some o->∃o',s2.heap.get? b=some o':=fun b o q=>I.base.there b o q (by show b∉([]:List Addr);simp)
 have bin:base.StaysIn (PySem.W.hideAll s2.heap ([e]++frs (envOfC qual scope s.heap.objs.size f cd::outer))):=fun b o q=>by
  refine Yc _ (I.bk b o q) fun m=> ?_
  rcases Zp.mp m with m|m
  ·rw [Zg.mp m,be] at q;cases q
  ·rw [nf b m] at q;cases q
 show wpAny (model P w) (A.deeper (envOfC qual scope s.heap.objs.size f cd)) (leaving (envOfC qual scope s.heap.objs.size f cd) (.ref e)) (fun _ s''=>CXn P w base C outer H s E (.ref e) s'') (fun e' s''=>CXn P w base C outer H s E e' s'') s2
 refine xg4 (base:=PySem.W.hideAll s2.heap ([e]++frs (envOfC qual scope s.heap.objs.size f cd::outer))) (L:=s.heap.objs.size) (a0:= .ref t) I.ok.frames (W5 fr1 fun env m a q=>Ze _ (yr1 m q)) rfl he (fun b o q=>Xm _ q) (YB _ (Zq _ (List.mem_singleton_self e))) rfl rfl rfl rfl fun h'' hL kd=> ?_
 obtain⟨st,fr2,⟨oe,vs2,T,oT,ts,h1,h2,h3,h4,h5,h6,h7,h8,h9⟩,ups⟩:=hL
 have hT:s2.heap.get? T=none:=by
  rcases zy5 h5 with m|m
  ·rcases Zp.mp m with m|m
   ·exact absurd (Zg.mp m) h6
   ·obtain⟨_,o,q1,q2⟩:=fr1.mem m
    obtain⟨sl,q3⟩:=ups T o q1 q2
    rw [h7] at q3;cases q3
    exact absurd h8 (q2 _)
  ·exact m
 have hT0:s.heap.get? T=none:=by
  cases z:s.heap.get? T with
  |none=>rfl
  |some o=>obtain⟨o',z'⟩:=th0 T o z;rw [hT] at z';cases z'
 have bT:base.get? T=none:=by
  cases z:base.get? T with
  |none=>rfl
  |some o=>have:=I.bk T o z;rw [hT] at this;cases this
 have u1:Un (frs (envOfC qual scope s.heap.objs.size f cd::outer)) [e] H H2 s.heap s2.heap:=(show Un (frs outer) [] H H2 s.heap s2.heap from I.base).mono (fun b m=>by rw [zg2];exact Z1 _ m) (fun b m=>absurd m (by simp))
 have u3:Un (frs (envOfC qual scope s.heap.objs.size f cd::outer)) [e] H2 H2 s2.heap h'':=zt3 fr1 ups st
 refine⟨e,T,.ref t,dd,H2,rfl,(show s2.os=s.os from I.os),I.bare,zt4 (u1.trans u3) (fun b o q m=> ?_) (fun b o q m=> ?_),zj6 I.hok (fun b m=> ?_) I.stkFree st,⟨ne,hT0,He,I.hok.none_of hT,fun b o q=>st b o (bin b o q),be,bT,W6 bin fr2.2.2,oe,vs2,oT,ts,h1,h2,h3,h4,h6,h7,h8,h9⟩,kd,q⟩
 ·rw [Zg.mp m,ne] at q;cases q
 ·rw [zg2] at m
  rcases Z5.mp m with z|m
  ·exact absurd (Zm q) (by rw [z];exact Y5 _)
  ·exact m
 ·rw [Zg.mp m];exact He
theorem xg6(I:Inv (iW (CXn P w base C) P w K mg base N qual scope f cd A outer s H E) pins σ H1 s1)(mk:Heap.MadeExcOf s1.heap h' e (.ref C) vs)(q:E (.ref C) none H1):
  (iW (CXn P w base C) P w K mg base N qual scope f cd A outer s H E).xe (.ref e) {s1 with heap:=h'}:=by
 obtain⟨t,he,ht,_⟩:=mk.there
 refine xg5 (I.kept (t':=s1.toks) mk.keeps) ?_ (I.hok.none_of mk.new) he q
 cases z:s.heap.get? e with
 |none=>rfl
 |some o=>obtain⟨o',z'⟩:=I.base.there e o z (by show e∉([]:List Addr);simp);rw [mk.new] at z';cases z'
theorem xg7(O:OwnCls x C bmB newId mg base)(FB:ExcBaseFacts B newId initId bmB)(hg:Gl (iW (CXn P w base C) P w K mg base N qual scope f cd A outer s H E) x)
  (hd:NDb x:=by decide) (hs:starEach [.Constant (.str z) j p1] (envOfC qual scope s.heap.objs.size f cd)=[(false,eval (.Constant (.str z) j p1) (envOfC qual scope s.heap.objs.size f cd))]:=by rfl):
  PS (iW (CXn P w base C) P w K mg base N qual scope f cd A outer s H E) (.Raise (some (.Call (.Name x np) [.Constant (.str z) j p1] [] cpos)) none pos) (fun _ _ H'=>E (.ref C) none H'):=⟨by
 intro pins s1 σ H1 D I h
 obtain⟨tl,N',nm,q,bs,hdct,sn,sub,ab,col,dd,k0,k1,k2,k3,k5,mN,hC,hN,hni,T⟩:=O.obj
 refine wpAny_Raise_call_subT (C:=C) (nm:=nm) (q:=q) (N:=N') (bs:=bs) (bm:=tl) (hdct:=hdct) (sn:=sn) (sub:=sub) (ab:=ab) (col:=col) (dd:=dd) (k0:=k0) (k1:=k1) (k2:=k2) (k3:=k3) (k5:=k5)
  FB (mN:=mN) (T.hasType FB.hasBase) (I.ok.hd rfl) (by show(backTo cpos (starEach [.Constant (.str z) j p1] (envOfC qual scope s.heap.objs.size f cd))).any (·.1)=false;rw [hs];rfl) hni (tZ I hg O.bound ⟨rfl,?_⟩ hd)
 show wpAny (model P w) (A.deeper (envOfC qual scope s.heap.objs.size f cd)) (evalArgs (.ref C) true (backTo cpos (starEach [.Constant (.str z) j p1] (envOfC qual scope s.heap.objs.size f cd))) []) _ _ s1
 rw [hs]
 refine Calls.evalArgs_plain (YT (Calls.Constant_str (k:=j) (pos:=p1) (X7 ?_)))
 have kp:∀b o,base.get? b=some o->s1.heap.get? b=some o:=I.bk
 refine⟨rfl,(show 1<=sizeLine from Zr (by decide) (vI (n:=1) (by decide))),kp _ _ hC,hN.keeps kp,T.keeps kp,fun h' e mk=> ?_⟩
 exact xg6 (I.tok (s1.toks+1)) mk h⟩
end
def tX(φ:Fx)(fx:tz5)(Ex:Hp->Prop):TS:=fun _ σ H=>∃ps F,RS φ H σ ps F/\fx ps=true/\∀H',Frm F H H'->Ex H'
def zd7(np:Nat)(K:tz0)(κ:tz9)(C:Addr)(g:List D->Bool):Sp:=fun vs H _ E=>vs.length=np/\∃ds fp,Reps K κ H vs ds fp/\g ds=true/\∀H',SameK H H'->E (.ref C) none H'
def gX(np n:Nat)(fx:tz5):List D->Bool:=fun ds=>decide (ds.length=np)&&fx (ds.map some++List.replicate n none)
def xw7(ft:tz4)(fx:tz5):tz5:=fun ps=>match ft ps with
 |some true=>fx ps
 |_=>false
def xy6:tz5:=fun _=>true
abbrev QX(X:Cx)(κ:tz9)(φ:F0)(Ex:Hp->Prop)(st:Stmt)(fx:tz5):Prop:=PS X st (tX (φ.fx X.K κ) fx Ex)
abbrev QXs(X:Cx)(κ:tz9)(φ:F0)(Ex:Hp->Prop)(st:List Stmt)(fx:tz5):Prop:=PSs X st (tX (φ.fx X.K κ) fx Ex)
theorem xg8(k:Frm (fun _=>[]) H H'):SameK H H':=⟨fun a o h kk=>k.keep a o h kk (fun _=>by simp),k.grow⟩
section
variable{P:Program}{w:World}{K:tz0}{mg:tzA}{base:Heap}{κ:tz9}{C:Addr}
theorem zy6{x qual:Str}{st:Stmt}{f:Addr}{fd:FuncData}{N ps:List Str}{k:Nat}{fx:tz5}(F:Fun K x qual st f fd)(S:FnScope N ps (aW st))
  (hbody:∀(cdv:Value) (A:Around) (outer:List Env) (s:Shared) (H:Hp) (E:XK) (B:Nat->Addr->Prop),Room k (A.deeper (envOfC qual (aW st) s.heap.objs.size f cdv))->
   QXs (iW (CXn P w base C) P w K mg base N qual (aW st) f cdv A outer s H E) κ (f0P ps.length B) (E (.ref C) none) (nK st) fx):
  FnOk P w K mg base (CXn P w base C) (k+1) f fd ps (zd7 ps.length K κ C (gX ps.length (N.length-ps.length) fx)):=by
 obtain⟨oc,od,kV,doc,pm,an,cdv,ct,osl,rfl,lk,hcd⟩:=F.ex
 refine xx4 lk hcd S (fun vs H Q E h=>h.1) fun A outer s H vs Q E hr hsp=> ?_
 obtain⟨hl,ds,fp,r,e,q⟩:=hsp
 have hn:ps.length<=N.length:=by have:=ZV List.length S.pre;rw [Yy] at this;omega
 refine⟨_,hbody cdv A outer s H E (fun _ a=>a∈fp) hr,_,fun _=>[],RS.start r hl hn,?_,fun H' fr=>q H' (xg8 fr)⟩
 unfold gX at e
 exact(Bool.and_eq_true_iff.mp e).2
end
section
variable{X:Cx}{κ:tz9}{φ:F0}{Ex:Hp->Prop}{fx:tz5}{st:Stmt}{rest:List Stmt}{pos:Pos}
theorem zy7:PSs X rest (fun _ _ _=>False):=⟨fun _ _ _ _ _ _ h=>h.elim⟩
theorem zt5(h1:QX X κ φ Ex st fx):QXs X κ φ Ex (st::rest) fx:=(lX h1 zy7).imp fun D σ H h=>h
theorem wq5(hc:QT X.nox κ c ft)(ha:QXs X κ φ Ex a fx):QX X κ φ Ex (.If c a b pos) (xw7 ft fx):=
 (yu3 (PT.nox hc) ha zy7).imp fun D σ H hh_=>by
  obtain⟨ps,F,R,e,q⟩:=hh_
  unfold xw7 at e
  split at e
  ·rename_i he
   refine⟨ps,true,R.ws,he,fun H' s=> ?_⟩
   show(if true=true then tX (φ.fx X.K κ) fx Ex D σ H' else _)
   rw [if_pos rfl]
   exact⟨ps,F,R.same s,e,fun H'' fr=>q H'' ⟨fun a o h k n=>fr.keep a o (s.keep a o h k) k n,fun a z=>s.grow a (fr.grow a z)⟩⟩
  ·cases e
end
section
variable{P:Program}{w:World}{K:tz0}{mg:tzA}{base:Heap}{N:List Str}{qual:Str}{scope:Scope}{f C:Addr}{cd:Value}{A:Around}{outer:List Env}{s:Shared}{H:Hp}{E:XK}{κ:tz9}{φ:F0}
theorem xr7(O:OwnCls x C bmB newId mg base)(FB:ExcBaseFacts B newId initId bmB)(hg:Gl (iW (CXn P w base C) P w K mg base N qual scope f cd A outer s H E) x)
  (hd:NDb x:=by decide) (hs:starEach [.Constant (.str z) j p1] (envOfC qual scope s.heap.objs.size f cd)=[(false,eval (.Constant (.str z) j p1) (envOfC qual scope s.heap.objs.size f cd))]:=by rfl):
  QX (iW (CXn P w base C) P w K mg base N qual scope f cd A outer s H E) κ φ (E (.ref C) none) (.Raise (some (.Call (.Name x np) [.Constant (.str z) j p1] [] cpos)) none pos) xy6:=
 (xg7 O FB hg hd hs).imp fun D σ H' hh_=>by
  obtain⟨ps,F,R,e,q⟩:=hh_
  exact q H' ⟨fun a o h _ _=>h,fun a h=>h⟩
end
theorem PA.nox(h:PA X.nox es t):PA X es t:=⟨fun pos pins s σ H Q I hw=>
 ZW (h pos pins s σ H Q (I.wish _) hw) (fun _ _ q=>by obtain⟨vs,H',I',r,q⟩:=q;exact⟨vs,H',I'.unwish,r,q⟩) fun _ _ z=>False.elim z⟩
abbrev bmV:List Value:=[.type "ValueError",.type "Exception",.type "BaseException",.type "object"]
theorem wc3{K:tz0}{h:Heap}{C:Addr}{bm:List Value}{nid:String}(X:K.In h)(q:PySem.W.excIn K C bm nid=true):
  ∃bm' N nm qn bs hd sn sub ab col dd k0 k1 k2 k3 k5 mN,h.get? C=some (excClassObj nm qn C N bs bm' hd sn sub ab col dd k0 k1 k2 k3 k5 nid)/\h.Ns N mN/\mN "__init__"=none/\OwnTail h bm bm':=by
 unfold PySem.W.excIn at q
 split at q
 case h_2=>cases q
 rename_i dd c sl look
 split at q
 case h_2=>cases q
 rename_i C1 bm1 a0 a1 a2 a3 n1 a5 em es
 rw [Zx,Zx,Zx,Zx,Zx] at q
 obtain⟨⟨⟨⟨⟨q1,q2⟩,q3⟩,q4⟩,q5⟩,q6⟩:=q
 have z1:=eq_of_beq q1
 have z2:=eq_of_beq q2
 have z6:=eq_of_beq q6
 subst z1 z2
 cases c with
 | mk nm bs mro ns qn hd sn sub ab col del=>
  dsimp only at em q3 q5 z6
  have z3:del=false:=by cases del<;>first|rfl|cases q3
  subst em z3
  have zs:sl= #[a0,a1,a2,a3,some (.builtin n1),a5]:=by
   cases sl
   dsimp only at es
   rw [es]
  subst zs
  exact⟨bm1,ns,nm,qn,bs,hd,sn,sub,ab,col,dd,a0,a1,a2,a3,a5,_,X _ _ look,.of_isNs (PySem.W.isNs_of_in X q5),PySem.W.nsMap_none_of_in X q5 z6,PySem.W.tail_of_in X q4⟩
def tXe(φ:Fx)(fx:tz5)(Ex:Hp->Prop):TE:=fun σ H _=>∃ps F,RS φ H σ ps F/\fx ps=true/\∀H',Frm F H H'->Ex H'
abbrev QXe(X:Cx)(κ:tz9)(φ:F0)(Ex:Hp->Prop)(e:Expr)(fx:tz5):Prop:=PE X e (tXe (φ.fx X.K κ) fx Ex)
section
variable{X:Cx}{κ:tz9}{φ:F0}{Ex:Hp->Prop}{fx fy:tz5}{st:Stmt}{rest l:List Stmt}{pos:Pos}
theorem wj8(i:Nat){x:Str}{e:Expr}{pos':Pos}(hN:X.N.Nodup)(hi:X.N[i]? =some x)(hx:Loc X.env.scope x)(he:QXe X κ φ Ex e fx)(hs:swapsWith e (some (.Name x pos')) pos.line X.env=pure false:=by rfl)(hf:X.fn x=true\/X.env.scope.names.lookup x=some .local:=by first|exact .inl rfl|exact .inr rfl|assumption):
  QX X κ φ Ex (.Assign [.Name x pos'] e pos) fx:=(rQ hN hi hx he hs hf).imp fun _ _ _ h=>h
end
end L2
namespace L2
section
open PySem PySem.W PySem.Calls PyProof.Rows Builtin Builtin.ObjectAttr Builtin.Getset_descriptor
variable{prog:Program}{w:World}{A:Around}{E:Value->Shared->Prop}{s:Shared}{K:tz0}{x D:Addr}{name:Str}
end
open PySem PySem.Spec PyProof.Rows
section
variable{P:Program}{w:World}{A:Around}{E:Value->Shared->Prop}{h:Heap}{g:Array GenState}{d:Drawn}{t:Nat}{os:OsState}{nm q:Str}{C N:Addr}{bs bm bmB:List Value}{hdct ab:Bool}{sn:List Str}{sub:List Value}
 {col:Option Bool} {dd:Option Addr} {k0 k1 k2 k3 k5:Option Value} {B newId initId:String}
end
section
variable{P:Program}{w:World}{A:Around}{E:Value->Shared->Prop}{s:Shared}{env:Env}{nm q:Str}{C N:Addr}{bs bm bmB:List Value}{hdct ab:Bool}{sn:List Str}{sub:List Value}
 {col:Option Bool} {dd:Option Addr} {k0 k1 k2 k3 k5:Option Value} {B newId initId:String}
end
end L2
namespace L2
section
open PySem PySem.W PySem.Calls PyProof.Rows Builtin Builtin.ObjectAttr Builtin.Getset_descriptor
variable{prog:Program}{w:World}{A:Around}{E:Value->Shared->Prop}{K:tz0}{x C:Addr}{name:Str}
end
open PySem PySem.Spec PyProof.Rows
def tN:tz2:=fun _=>some (.dic true [] [])
theorem xr8{X:Cx}{κ:tz9}{pos:Pos}:QP X κ (.Dict [] [] pos) tN:=xp7.imp fun σ H Q hh_=>by
 obtain⟨ps,d,w,e,q⟩:=hh_
 cases e
 exact fun p hp=>q.at hp (fv:=[p]) (fun a ha=>by rw [Zg.mp ha];exact hp) (by simp) (.dic (kvs:=[]) dG rfl .nil)
section
variable{K:tz0}{κ:tz9}{H:Hp}
theorem wK:∀{kvs:List (Key×V)} {ks:List Key} {ds:List D} {g:List Addr} {k:Key},kvs.map (·.1)=ks->Reps K κ H (kvs.map (·.2)) ds g->(qS kvs k).isSome=(pT ks ds k).isSome
 |[],_,_,_,_,e,r=>by subst e;cases r;rfl
 |(k0,v0)::kvs,_,_,_,k,e,.cons h hs=>by
  subst e
  rw [Zb,pT]
  by_cases z:k0=k
  ·rw [if_pos z,uM z];rfl
  ·rw [if_neg z,uN z];exact wK rfl hs
theorem Rep.dicT_inv(r:Rep K κ H v (.dic true ks ds) fp):∃a kvs g,v= .ref a/\H a=some (.dK kvs)/\kvs.map (·.1)=ks/\Reps K κ H (kvs.map (·.2)) ds g/\fp=a::g:=by
 cases r with
 |dic h e hs=>exact⟨_,_,_,rfl,h,e,hs,rfl⟩
theorem Rep.dicF_inv(r:Rep K κ H v (.dic false ks ds) fp):∃a o kvs,v= .ref a/\H a=some (.frz o (.dK kvs))/\kvs.map (·.1)=ks/\Reps K κ H (kvs.map (·.2)) ds []:=by
 cases r with
 |dicF h e hs=>exact⟨_,_,_,rfl,h,e,hs⟩
end
def lL:D->D->Option D
 |y,.dic _ ks ds=>y.key.bind fun k=>some (.bl (!(pT ks ds k).isSome))
 |_,_=>none
def zG:List Key->List D->Key->D->List D
 |k::ks,d::ds,j,y=>(if k=j then y else d)::zG ks ds j y
 |_,_,_,_=>[]
def rK:D->D->D->Option (Unit×D)
 |i,y,.dic true ks ds=>i.key.bind fun k=>if D.imms ds=true/\y.imm=true/\ks.length<sizeLine then some ((),if (pT ks ds k).isSome=true then .dic true ks (zG ks ds k y) else .dic true (ks++[k]) (ds++[y])) else none
 |_,_,_=>none
theorem yx3(h:rK i y d=some (r,d')):∃k ks ds,d= .dic true ks ds/\i.key=some k/\D.imms ds=true/\y.imm=true/\ks.length<sizeLine/\d'=if (pT ks ds k).isSome=true then .dic true ks (zG ks ds k y) else .dic true (ks++[k]) (ds++[y]):=by
 unfold rK at h
 split at h
 ·obtain⟨k,e1,e2⟩:=bind_some h
  obtain⟨hc,e3⟩:=cC e2
  cases e3
  exact⟨k,_,_,rfl,e1,hc.1,hc.2.1,hc.2.2,rfl⟩
 ·cases h
theorem zb4{K:tz0}{κ:tz9}{H:Hp}{v:V}{y:D}{k:Key}(r:Rep K κ H v y []):∀{kvs:List (Key×V)} {ds:List D},Paired (fun v d=>Rep K κ H v d []) (kvs.map (·.2)) ds->Paired (fun v d=>Rep K κ H v d []) ((kvs.map fun kv=>if kv.1=k then(kv.1,v) else kv).map (·.2)) (zG (kvs.map (·.1)) ds k y)
 |[],_,.nil=> .nil
 |(k0,v0)::kvs,_,.cons h t=>by
  rw [Zb,Zb,Zb,zG]
  by_cases z:k0=k
  ·rw [if_pos z,if_pos z];exact .cons r (zb4 r t)
  ·rw [if_neg z,if_neg z];exact .cons h (zb4 r t)
theorem zV{k:Key}{v:V}:∀kvs:List (Key×V),(kvs.map fun kv=>if kv.1=k then(kv.1,v) else kv).map (·.1)=kvs.map (·.1)
 |[]=>rfl
 |(k0,v0)::kvs=>by
  rw [Zb,Zb,Zb,zV kvs]
  by_cases z:k0=k
  ·rw [if_pos z]
  ·rw [if_neg z]
theorem wc4{K:tz0}{κ:tz9}{H:Hp}{l:Addr}{v:V}{y:D}{kvs:List (Key×V)}{ds:List D}{k:Key}(hl:H l=some (.dK kvs))(hs:Reps K κ H (kvs.map (·.2)) ds [])(ry:Rep K κ H v y []):
  Rep K κ (upd H l (.dK (kE kvs k v))) (.ref l) (if (pT (kvs.map (·.1)) ds k).isSome=true then .dic true (kvs.map (·.1)) (zG (kvs.map (·.1)) ds k y) else .dic true (kvs.map (·.1)++[k]) (ds++[y])) [l]:=by
 have ha:=zj1 k kvs
 rw [wK (k:=k) rfl hs] at ha
 have hs':Reps K κ (upd H l (.dK (kE kvs k v))) (kvs.map (·.2)) ds []:=hs.updL hl rfl (by simp)
 have ry':Rep K κ (upd H l (.dK (kE kvs k v))) v y []:=ry.updL hl rfl (by simp)
 by_cases hc:(pT (kvs.map (·.1)) ds k).isSome=true
 ·rw [if_pos hc]
  rw [hc] at ha
  have e:kE kvs k v=kvs.map fun kv=>if kv.1=k then(kv.1,v) else kv:=by unfold kE;rw [if_pos ha]
  exact .dic (fp:=[]) (kvs:=kE kvs k v) dG (by rw [e];exact zV kvs) (.ofp (by rw [e];rw [e] at hs' ry';exact zb4 ry' hs'.nilp))
 ·rw [if_neg hc]
  rw [Xy] at hc
  rw [hc] at ha
  have e:kE kvs k v=kvs++[(k,v)]:=by unfold kE;rw [if_neg (by rw [ha];exact Z9)]
  have hh:=Reps.append hs' (Reps.one ry')
  exact .dic (fp:=[]) (kvs:=kE kvs k v) dG (by rw [e,Y7];rfl) (by rw [e,Y7];rw [e] at hh;exact hh)
section
variable{X:Cx}{κ:tz9}{φ:F0}{a b o e i:Expr}{f fa fb fi fe:tz2}{pf:PSt->Option (List Ps1)}{j:Nat}{pos apos:Pos}{tg:Expr}
theorem xg9(hu:X.A.units+1<cLine)(ha:QV X κ a fa)(hb:QV X κ b fb)(hm:behindInMarks .NotIn b=false:=by rfl):QT X κ (.Compare a [.NotIn] [b] pos) (fB (f2 lL fa fb)):=
 (wg0 (xe2 hu ha hb) hm).imp fun σ H Q hh_=>by
  obtain⟨ps,c,w,e,q⟩:=hh_
  obtain⟨x,y,e1,e2,e3⟩:=wX (zs2 e)
  refine⟨ps,x,w,e1,fun v H1 fp s1 r1=>⟨ps,y,w.same s1,e2,fun u H2 fq s2 r2=> ?_⟩⟩
  unfold lL at e3
  split at e3
  ·obtain⟨k,e4,e5⟩:=bind_some e3
   cases e5
   obtain⟨l,kvs,g,rfl,h,hk,hs,_⟩:=r2.dic_inv
   exact⟨l,qS kvs k,rfl,.inl ⟨kvs,k,h,zs8 r1 e4,rfl⟩,_,by rw [wK hk hs],q H2 (s1.trans s2)⟩
  ·cases e3
def tR(j:Nat)(pf:PSt->Option (List Ps1))(fi fe:tz2):tz1:=fun ps=>(fe ps).bind fun y=>((ps[j]?).join).bind fun d0=>(pf ps).bind fun p=>(fi ps).bind fun i=>(fO (rK i y) d0 p).bind fun r=>some (.nx,ps.set j (some r.2))
theorem wc5(hu:X.A.units+1<cLine)(hb:φ.bor j=false)(he:PE X e (tP X.K κ fe))(ho:PE X o (pQ X.K κ j pf))(hi:PE X i (tV X.K κ fi))(hs:swapsWith e (some (.Subscript o i apos)) pos.line X.env=pure false:=by rfl):QS X κ φ (.Assign [.Subscript o i apos] e pos) (tR j pf fi fe):=
 (wa8 hu ho hi he hs).imp fun E σ H hh_=>by
  obtain⟨ps,F,fl,ps',R,e,q⟩:=hh_
  obtain⟨y,e1,e2⟩:=bind_some e
  obtain⟨d0,e3,e4⟩:=bind_some e2
  have e0:=join_some e3
  obtain⟨p,e5,e6⟩:=bind_some e4
  obtain⟨iv,e7,e8⟩:=bind_some e6
  obtain⟨⟨r,d0'⟩,em,e9⟩:=bind_some e8
  cases e9
  obtain⟨dd,dn,gp,hh⟩:=oU em
  refine⟨ps,y,R.ws,e1,fun v H1 fy s1 n1 nd1 ry=>⟨ps,p,d0,dd,R.ws.same s1,e0,e5,gp,fun lv H2 v0 s2 ev a2=>⟨ps,iv,(R.ws.same s1).same s2,e7,fun u H3 fu s3 r3=> ?_⟩⟩⟩
  have s13:=(s1.trans s2).trans s3
  obtain⟨d1,d1',fd,m1,m2,m3,m4,m5⟩:=xA R s13 hb e0 ev em (a2.same s3)
  obtain⟨k,ks,ds,rfl,ek,hi,hy,hl,rfl⟩:=yx3 m2
  obtain⟨l,kvs,g,rfl,hd,hk,hs,rfl⟩:=m1.dicT_inv
  subst hk
  have eg:=hs.imm hi
  subst eg
  have ey:=ry.imm hy
  subst ey
  refine⟨l,_,rfl,.inl ⟨kvs,k,hd,zs8 r3 ek,by simpa using hl,rfl⟩,?_⟩
  obtain⟨F',st,ow⟩:=m5 (upd H3 l (.dK (kE kvs k v))) [l] [] (fun a o h _ hn=>yA h hn) (fun a h=>qM h)
   (wc4 hd hs ((ry.same s2).same s3)) (by simp) (fun a ha=> .inl (by simpa using ha))
  exact q _ _ F' st
end
def Itf(a:Addr)(o:Obj)(kvs:List (Key×V)):It:=⟨fun i H=>H a=some (.frz o (.dK kvs))/\i<kvs.length,fun i H x H'=>H'=H/\(kvs.map fun kv=>kV kv.1)[i]? =some x,fun i H=>H a=some (.frz o (.dK kvs))/\kvs.length<=i⟩
theorem zj7{X:Cx}{pins:tzB}{σ:St}{H:Hp}{s:Shared}{a:Addr}{o:Obj}{kvs:List (Key×V)}(I:Inv X pins σ H s)(h:H a=some (.frz o (.dK kvs))):
  (a==sysModules)=false/\kvs.length<=sizeLine/\∃vs es ep,KV kvs vs/\o.data= .dict es ep/\s.heap.DictAt (fK X.prog X.w) a vs ep:=by
 obtain⟨g,z,sm,vs,hv,hd⟩:=(show eI X.prog X.w H s.heap a (.frz o (.dK kvs)) from I.hok a _ h)
 obtain⟨ep,hat⟩:=hd.dictAt
 obtain⟨o',es,g',h1,h2,h3⟩:=id hat
 rw [g] at g'
 cases g'
 exact⟨sm,z,vs,es,ep,hv,h2,hat⟩
theorem wc6{P:Program}{w:World}{K:tz0}{tg:Expr}{a it:Addr}{o:Obj}{es:Array DictEntry}{ep:Nat}{kvs:List (Key×V)}(hd:o.data= .dict es ep):Turn P w K tg (Itf a o kvs) [it] it (fun i h=>h.IsKeyIter it a i kvs.length ep) where
 mem:=by simp
 obj:=fun i h st b hb=>by
  have e:b=it:=by simpa using hb
  subst e
  obtain⟨o,e,c,d⟩:=st
  exact⟨o,e,fun v z=>by rw [d] at z;cases z⟩
 keep:=fun i h h' st k=>st.at fun o e=>k it (by simp) o e
 item:=by
  intro X hP hw hK hc i pins s σ H E I hf st hg
  subst hP hw hK
  obtain⟨sm,z,vs,es',ep',hv,hd',dd⟩:=zj7 I hg.1
  rw [hd] at hd'
  cases hd'
  have hi:i<vs.length:=by rw [<-ZM hv];exact hg.2
  obtain⟨⟨k,x⟩,hx'⟩:∃p,vs[i]? =some p:=⟨vs[i],by simp [hi]⟩
  obtain⟨⟨k',v'⟩,hx2,he,_⟩:=lZ hv hx'
  have he':k'=k:=he
  subst he'
  obtain⟨f0,f1,f2,f3,f4,f5⟩:=hf it (by simp)
  rw [ZM hv] at st
  refine wpAny_pyNext_dict_item st dd hx' fun key h' hkey st' sb=> ?_
  have I1:Inv X pins σ H {s with heap:=h'}:=I.turned (t':=s.toks) (fun b o hb e=>(sb.2 b hb).trans e) f0 f1 f3 f4 f5
  obtain⟨o2,e,c,d⟩:=id st'
  rw [<-ZM hv] at st'
  exact⟨key,rfl,yc7 (s:={s with heap:=h'}) e c d (by decide) ⟨kV k',H,I1,wb7 hkey,⟨rfl,by rw [Zc,hx2];rfl⟩,st',fun b hb=>(hf b hb).1⟩⟩
 done:=by
  intro X hP hw hK hc i pins s σ H E I hf st hg
  subst hP hw hK
  obtain⟨sm,z,vs,es',ep',hv,hd',dd⟩:=zj7 I hg.1
  rw [hd] at hd'
  cases hd'
  have hi:vs.length<=i:=by rw [<-ZM hv];exact hg.2
  obtain⟨f0,f1,f2,f3,f4,f5⟩:=hf it (by simp)
  rw [ZM hv] at st
  exact wpAny_pyNext_dict_end (I.ok.hd hc) st dd (Yw hi) fun h' eb=>⟨rfl,I.turned (t':=s.toks) (fun b o hb e=>eb b o hb e) f0 f1 f3 f4 f5⟩
 self:=fun _ _ _ _ _ st h=>wpAny_pyIter_keyiter st h
def fN:D->Option (List D)
 | .dic false ks _=>some (ks.map xa6)
 |_=>none
def xQ(f:tz2):tz3:=fun ps=>(f ps).bind fN
theorem wc7{K:tz0}{κ:tz9}{H:Hp}{a:Addr}{o:Obj}{kvs:List (Key×V)}(h:H a=some (.frz o (.dK kvs))):Walk K κ (Itf a o kvs) [] H ((kvs.map (·.1)).map xa6) where
 go:=fun H' k i d e=>by
  rw [Yv,Zc] at e
  obtain⟨kv,hkv,e⟩:=Zt.mp e
  refine⟨⟨k a _ h (.inl rfl),(Z8.mp hkv).1⟩,fun y H2 ⟨hy1,hy2⟩=>⟨hy1,?_⟩⟩
  rw [Zc,hkv] at hy2
  cases hy2
  rw [<-e]
  exact xr0 kv.1
 stop:=fun H' k=>⟨k a _ h (.inl rfl),by rw [Zd,Zd];exact Z7 _⟩
theorem zt6{X:Cx}{κ:tz9}{tg e:Expr}{f:tz2}(h:QP X κ e f):QIP X κ tg e (xQ f):=⟨by
 rintro pins s σ H R I ⟨ps,l,w,e,q⟩
 obtain⟨d,e1,e2⟩:=bind_some e
 unfold fN at e2
 split at e2
 ·cases e2
  refine thn (h pins s σ H (fun x H1=>SameK H H1/\∃fp,Rep X.K κ H1 x _ fp) I ⟨ps,_,w,e1,fun v H' fv s1 _ _ r=>⟨s1,fv,r⟩⟩) fun v s1 ⟨x,H1,I1,r1,sm,fp,rp⟩=> ?_
  obtain⟨a,o,kvs,rfl,ha,hk,_⟩:=rp.dicF_inv
  subst hk
  cases r1
  obtain⟨hsm,z,vs,es,ep,hv,hd,dd⟩:=zj7 I1 ha
  refine wpAny_pyIter_dict hsm dd ?_
  refine⟨s1.heap.objs.size,[s1.heap.objs.size],_,_,H1,rfl,I1.kept (t':=s1.toks) fun b o e=>Zf _ e,wc6 (kvs:=kvs) (a:=a) hd,⟨_,Zw _ rfl,rfl,by rw [ZM hv];rfl⟩,fun b hb=> ?_,q _ H1 [] sm (fun _ h=>absurd h (by simp)) (wc7 ha)⟩
  have e:b=s1.heap.objs.size:=by simpa using hb
  subst e
  exact I1.fpOk (Z7 _) (I1.hok.fresh (Z7 _))
 ·cases e2⟩
theorem xr9(I:Inv X pins σ H s)(h:H a=some (.dK kvs)):∃ob,Inv X pins σ (upd H a (.frz ob (.dK kvs))) s:=by
 have ne:∀b,H b=none->b≠a:=fun b hb z=>by rw [z,h] at hb;cases hb
 have nt:∀b o,H b=some o->(∀ys,o≠ .dK ys)->b≠a:=fun b o hb ho z=>by
  rw [z,h] at hb
  cases hb
  exact ho _ rfl
 obtain⟨z0,sm,vs,hv,hd⟩:=(show eI X.prog X.w H s.heap a (.dK kvs) from I.hok a _ h)
 obtain⟨ep,ob,es,e0,_⟩:=hd.dictAt
 refine⟨ob,I.ok,I.os,I.bare,⟨I.base.keep,I.base.slot,fun b o h1 h2 h3=> ?_,I.base.there,fun b xs h1=> ?_,fun b o u h1=> ?_,fun b ps h1=> ?_⟩,I.loc,I.cell,?_,fun x c e=> ?_,fun p hp=> ?_,fun b o e=> ?_,I.len⟩
 ·have:=I.base.free b o h1 h2 h3
  rw [bR (ne b this)];exact this
 ·have:=I.base.tups b xs h1
  rw [bR (nt b _ this fun _ z=>by cases z)];exact this
 ·have:=I.base.frzs b o u h1
  rw [bR (nt b _ this fun _ z=>by cases z)];exact this
 ·obtain⟨more,this⟩:=I.base.tbls b ps h1
  exact⟨more,by rw [bR (nt b _ this fun _ z=>by cases z)];exact this⟩
 ·rw [bR (ne _ I.free)];exact I.free
 ·have:=I.freeC x c e
  rw [bR (ne _ this)];exact this
 ·obtain⟨p1,p2,p3⟩:=I.pin p hp
  exact⟨p1,by rw [bR (ne _ p2)];exact p2,p3⟩
 ·have st:∀{b o},eI X.prog X.w H s.heap b o->eI X.prog X.w (upd H a (.frz ob (.dK kvs))) s.heap b o:=fun x=>
   x.stay (fun _ _ _ q=>q) (fun b' hb=>by rw [bR (nt b' _ hb fun _ z=>by cases z)];exact hb) fun b' xs hb=>by rw [bR (nt b' _ hb fun _ z=>by cases z)];exact hb
  by_cases z:b=a
  ·subst z
   rw [dG] at e
   cases e
   exact⟨e0,st (I.hok b _ h)⟩
  ·rw [bR z] at e
   exact st (I.hok b o e)
def xa8:D->Option D
 | .obj true C ns [x,.dic true ks ds]=>if x.imm=true/\D.imms ds=true then some (.obj false C ns [x,.dic false ks ds]) else none
 |_=>none
def kY(f:tz2):tz2:=fun ps=>(f ps).bind xa8
theorem xB{X:Cx}{κ:tz9}{e:Expr}{f:tz2}(h:QP X κ e f):QP X κ e (kY f):=⟨by
 intro pins s σ H Q I hh_
 obtain⟨ps,d,w,e,q⟩:=hh_
 obtain⟨d0,e1,e2⟩:=bind_some e
 unfold xa8 at e2
 split at e2
 ·rename_i C ns x ks ds
  obtain⟨⟨hx,hi⟩,e3⟩:=cC e2
  cases e3
  refine thn (h pins s σ H (fun y H1=>SameK H H1/\∃fv,(∀a∈fv,H a=none)/\fv.Nodup/\Rep X.K κ H1 y _ fv) I ⟨ps,_,w,e1,fun v H' fv s1 n1 nd1 r=>⟨s1,fv,n1,nd1,r⟩⟩) fun v s1 ⟨y,H1,I1,r1,sm,fv,n1,nd1,rp⟩=> ?_
  obtain⟨l,dx,fs,g,rfl,hl,hn,hs,rfl⟩:=rp.objT_inv
  obtain⟨v1,us,f1,g1,ev,k1,k2,rfl⟩:=hs.split
  obtain⟨v2,rfl,k3⟩:=k2.one_inv
  obtain⟨b,kvs,g2,rfl,hb,hk,k4,rfl⟩:=k3.dicT_inv
  have z1:=k1.imm hx
  subst z1
  have z2:=k4.imm hi
  subst z2
  rw [ZR] at nd1 n1
  have hln:=n1 l Z0
  have hbn:=n1 b (Z1 _ Z0)
  have nbl:b≠l:=fun z=>(Zu.mp nd1).1 (z▸Z0)
  obtain⟨ob,I2⟩:=xr9 I1 hb
  have hl2:upd H1 b (.frz ob (.dK kvs)) l=some (.ins (κ C) dx fs):=by rw [bR (Y8 nbl)];exact hl
  refine⟨.ref l,_,I2.freeze hl2,r1,q (.ref l) _ [] ⟨fun c o hc hk'=> ?_,fun c hc=> ?_⟩ (fun _ h=>absurd h (by simp)) Zn (.objF dG hn ?_)⟩
  ·rw [bR (fun z=>by rw [z,hln] at hc;cases hc),bR (fun z=>by rw [z,hbn] at hc;cases hc)]
   exact sm.keep c o hc hk'
  ·exact sm.grow c (qM (qM hc))
  ·have mv:∀c o,H1 c=some o->tf o=true->upd (upd H1 b (.frz ob (.dK kvs))) l (.frz (PySem.W.instObj (κ C) dx) (.ins (κ C) dx fs)) c=some o:=fun c o hc ht=>by
    rw [bR (fun z=>by rw [z,hl] at hc;cases hc;cases ht),bR (fun z=>by rw [z,hb] at hc;cases hc;cases ht)];exact hc
   rw [ev]
   exact .cons (f:=[]) (g:=[]) (k1.move mv fun _ h=>absurd h (by simp)) (.one (.dicF (o:=ob) (by rw [bR nbl];exact dG) hk (k4.move mv fun _ h=>absurd h (by simp))))
 ·cases e2⟩
def Ite(K:tz0)(a:Addr):It:=
 ⟨fun i H=>∃xs x,SqL K H a xs/\xs[i]? =some x,fun i H x H'=>∃p v,H p=none/\x= .ref p/\H'=upd H p (.tup [.int i,v])/\∀xs,SqL K H a xs->xs[i]? =some v,fun i H=>∃xs,SqL K H a xs/\xs.length<=i⟩
theorem yo4{X:Cx}{pins:tzB}{σ:St}{H:Hp}{s:Shared}{h':Heap}{t':Nat}{e it:Addr}(I:Inv X pins σ H s)(k:∀b o,b≠e->b≠it->s.heap.get? b=some o->h'.get? b=some o)(he:pN X pins H e)(hi:pN X pins H it):Inv X pins σ H {s with heap:=h',toks:=t'}:=by
 have nn:∀b,(b∉[e,it])->b≠e/\b≠it:=fun b h=>⟨fun z=>h (by simp [z]),fun z=>h (by simp [z])⟩
 have nit:∀b u,H b=some u->b≠e/\b≠it:=fun b u q=>⟨fun z=>by(rw [z,he.1] at q;cases q),fun z=>by(rw [z,hi.1] at q;cases q)⟩
 refine I.step (g':=s.gens) (d':=s.drawn) (ch:=[e,it]) (fun b hb=> ?_) (fun b o _ _ hc q _=>k b o (nn b hc).1 (nn b hc).2 q) (fun b o _ _ hc q _=>⟨o.slots,k b o (nn b hc).1 (nn b hc).2 q⟩) (fun _ _ _ _ n=>n)
  (fun b o hc q=>⟨o,k b o (nn b hc).1 (nn b hc).2 q⟩) (fun _ _ e=>e) (fun _ _ _ e=>e) (fun b ps e=>⟨#[],by rw [e];simp⟩) (fun m hm=> ?_) (fun b u q=> ?_) I.bare
 ·rcases Z5.mp hb with z|z
  ·rw [z];exact⟨he.2.2.2.1,he.2.1,he.2.2.2.2.1,he.2.2.2.2.2⟩
  ·rw [Zg.mp z];exact⟨hi.2.2.2.1,hi.2.1,hi.2.2.2.2.1,hi.2.2.2.2.2⟩
 ·obtain⟨o,es,ep,ho,r⟩:=hm
  exact⟨o,es,ep,k _ o (Y8 he.2.1) (Y8 hi.2.1) ho,r⟩
 ·refine(I.hok b u q).stay (fun c v hc q'=> ?_) (fun _ q=>q) fun _ _ q=>q
  rcases hc with z|z
  ·rw [z] at q'|-;exact k b v (nit b u q).1 (nit b u q).2 q'
  ·exact k c v (nit c _ z).1 (nit c _ z).2 q'
theorem wc8{P:Program}{w:World}{K:tz0}{elts:List Expr}{x1:Nat}{pos:Pos}(a e it:Addr)(hne:e≠it):Turn P w K (.Tuple elts x1 pos) (Ite K a) [e,it] e (fun i h=>(∃old,IsEnum h e it (i:Nat) old)/\h.IsListIter it a i) where
 mem:=by simp
 obj:=fun i h st b hb=>by
  obtain⟨⟨old,st1⟩,st2⟩:=st
  rcases Z5.mp hb with rfl|hb
  ·exact⟨_,st1,fun v z=>by
    have z':Data.fields _=Data.cell v:=z
    cases z'⟩
  ·have z:b=it:=by simpa using hb
   subst z
   obtain⟨o,q,c,d⟩:=st2
   exact⟨o,q,fun v z=>by rw [d] at z;cases z⟩
 keep:=fun i h h' st k=>⟨by obtain⟨⟨old,st1⟩,_⟩:=st;exact⟨old,k e (by simp) _ st1⟩,st.2.at fun o q=>k it (by simp) o q⟩
 item:=by
  intro X hP hw hK hc i pins s σ H E I hf st hg
  subst hP hw hK
  obtain⟨xs,x,hq,hx⟩:=hg
  obtain⟨its,rv,p,hz⟩:=I.list hq
  obtain⟨u,hu,ru⟩:=rv.get hx
  obtain⟨⟨old,st1⟩,st2⟩:=st
  refine wpAny_pyNext_enum_item st1 st2 p.isList (x:=u) (by simpa using hu) hne fun h' heo hit ht hsz hk=> ?_
  refine⟨_,rfl,wpAny_letOwnedTupleGo_enum heo fun h2 he2 hs2=> ?_⟩
  have hs2':Heap.SameBut e h' h2:=hs2
  have hes:e<s.heap.objs.size:=Zm st1
  have ni:Heap.get? h2 s.heap.objs.size=some {cls:= .type "tuple",data:= .seq #[.int i s.toks,u]}:=(hs2'.2 _ (XZ hes)).trans ht
  have hp:H s.heap.objs.size=none:=I.hok.fresh (Z7 _)
  have kk:∀b o,b≠e->b≠it->s.heap.get? b=some o->h2.get? b=some o:=fun b o h3 h4 h5=>(hs2'.2 b h3).trans (hk b o h3 h4 h5)
  have hes2:it<s.heap.objs.size:=by obtain⟨o,q,_⟩:=st2;exact Zm q
  have I0:Inv X pins σ (upd H s.heap.objs.size (.tup [.int i,x])) {s with heap:=s.heap.push {cls:= .type "tuple",data:= .seq #[.int i s.toks,u]}}:=
   I.laid (t':=s.toks) (fun b o q=>Zf _ q) (Z7 _) ⟨YZ (vI (by simp)),[.int i s.toks,u],.cons ⟨_,rfl⟩ (.cons ru .nil),⟨_,Zw _ rfl,rfl,0,rfl⟩⟩
  have fo:∀b∈[e,it],pN X pins (upd H s.heap.objs.size (.tup [.int i,x])) b:=fun b hb=>by
   refine⟨?_,(hf b hb).2⟩
   rw [bR]
   ·exact(hf b hb).1
   ·rcases Z5.mp hb with z|z
    ·rw [z];exact ZF hes
    ·rw [Zg.mp z];exact ZF hes2
  have I1:Inv X pins σ (upd H s.heap.objs.size (.tup [.int i,x])) {s with heap:=h2,toks:=s.toks+1}:=yo4 (s:={s with heap:=s.heap.push {cls:= .type "tuple",data:= .seq #[.int i s.toks,u]}}) (t':=s.toks+1) I0 (fun b o h3 h4 h5=>by
   rcases Heap.get?_push_cases h5 with ⟨rfl,rfl⟩|h5
   ·exact ni
   ·exact kk b o h3 h4 h5) (fo e (by simp)) (fo it (by simp))
  refine⟨.ref s.heap.objs.size,_,I1,rfl,⟨_,x,hp,rfl,rfl,fun ys hy=>by rw [I.list_inj hy hq];exact hx⟩,⟨⟨u,?_⟩,?_⟩,fun b hb=> ?_⟩
  ·have:((i+1:Nat):Int)=(i:Int)+1:=by push_cast;rfl
   rw [this];exact he2
  ·exact hit.at fun o q=>(hs2'.2 it (Y8 hne)).trans q
  ·exact(fo b hb).1
 done:=by
  intro X hP hw hK hc i pins s σ H E I hf st hg
  subst hP hw hK
  obtain⟨xs,hq,hx⟩:=hg
  obtain⟨its,rv,p,hz⟩:=I.list hq
  obtain⟨⟨old,st1⟩,st2⟩:=st
  obtain⟨f0,f1,f2,f3,f4,f5⟩:=hf it (by simp)
  have hl:=rv.length
  exact wpAny_pyNext_enum_end (I.ok.hd hc) st1 st2 p.isList (by simp;omega) fun h' eb=>⟨rfl,I.turned (t':=s.toks) (fun b o hb e=>eb b o hb e) f0 f1 f3 f4 f5⟩
 self:=fun _ _ _ _ _ st h=>by
  obtain⟨⟨old,st1⟩,_⟩:=st
  exact wpAny_pyIter_enum st1 h
structure WalkE(K:tz0)(κ:tz9)(J:It)(Z:List Addr)(H1:Hp)(ds:List D):Prop where
 go:∀H',sZ Z H1 H'->∀(i:Nat) d,ds[i]? =some d->J.go i H'/\∀x H2,J.yld i H' x H2->SameK H' H2/\Rep K κ H2 x d []
 stop:∀H',sZ Z H1 H'->J.stop ds.length H'
def nM:Nat->List D->List D
 |_,[]=>[]
 |n,d::ds=> .tup [.int n,d]::nM (n+1) ds
theorem zy8:∀{ds:List D} {n i:Nat} {d:D},(nM n ds)[i]? =some d->∃y,ds[i]? =some y/\d= .tup [.int ((n+i:Nat):Int),y]
 |[],_,_,_,h=>by simp [nM] at h
 |y::ds,n,0,d,h=>by
  rw [nM] at h
  exact⟨y,rfl,by simpa using h.symm⟩
 |y::ds,n,i+1,d,h=>by
  rw [nM,Ye] at h
  obtain⟨z,h1,h2⟩:=zy8 h
  exact⟨z,by simpa using h1,by rw [h2,show n+1+i=n+(i+1) by omega]⟩
theorem zy9:∀(ds:List D) (n:Nat),(nM n ds).length=ds.length
 |[],_=>rfl
 |d::ds,n=>by rw [nM,Z6,Z6,zy9 ds]
theorem wc9{K:tz0}{κ:tz9}{H1:Hp}{a:Addr}{vs:List V}{ds:List D}{Z:List Addr}(h:Rd H1 a (.lst vs))(hz:H1 a=some (.lst vs)->a∈Z)(r:Paired (fun v d=>Rep K κ H1 v d []) vs ds):WalkE K κ (Ite K a) Z H1 (nM 0 ds) where
 go:=fun H' k i d e=>by
  obtain⟨y,e0,rfl⟩:=zy8 e
  obtain⟨x,e1,r1⟩:=lZ r e0
  have sq:SqL K H' a vs:=k.sq h hz
  refine⟨⟨vs,x,sq,e1⟩,fun z H2 hy=> ?_⟩
  obtain⟨p,v,hp,rfl,rfl,hv⟩:=hy
  have e2:=hv vs sq
  rw [e1] at e2;cases e2
  have sm:SameK H' (upd H' p (.tup [.int i,x])):= .new hp _
  refine⟨sm,.tup (.inl (.inl dG)) (.cons (f:=[]) (g:=[]) ?_ (.one ((k.rep r1).same sm)))⟩
  rw [YF];exact .int _
 stop:=fun H' k=>⟨vs,k.sq h hz,by rw [zy9,ZM r];exact Z7 _⟩
def ye0(f:tz2):tz3:=fun ps=>(f ps).bind fun d=>(xa7 d).map (nM 0)
section
variable{X:Cx}{κ:tz9}{φ:F0}{pos:Pos}{body:List Stmt}{f:tz1}
theorem xh0{φ:Fx}(R:RS φ H σ ps F)(hz:∀a∈Z,H a≠none/\∀i,a∉F i)(W:WalkE φ.K φ.κ J Z H ds)(hb:∀i∈is,φ.bor i=false/\φ.M i=false)
  (e:oA is f ds ps=some (fl,ps')) (q:zE φ E σ H F fl ps'):wo2 (fun v σ H Q=>xw4 φ.K is.length (xO is) v σ H Q\/xv9 φ.K is.length (xO is) v σ H Q) (tS φ f) E σ J H:=by
 refine⟨fun k m σ1 H1=>k<=ds.length/\m=ds.length-k/\∃ps1 F1,Stp φ σ H F σ1 H1 ps1 F1/\oA is f (ds.drop k) ps1=some (fl,ps'),⟨_,ZL _,rfl,ps,F,.refl R,by rw [Xd];exact e⟩,?_⟩
 rintro k m σ1 H1 ⟨hk,rfl,ps1,F1,s1,e1⟩
 have kp:sZ Z H H1:=s1.fr.kept R fun a ha=>(hz a ha).2
 by_cases hlt:k<ds.length
 ·right
  have ed:ds[k]? =some ds[k]:=Zo hlt
  obtain⟨hgo,hy⟩:=W.go H1 kp k _ ed
  rw [ZT hlt,oA] at e1
  obtain⟨ys,e0,e1⟩:=bind_some e1
  obtain⟨hl,e1⟩:=cC e1
  obtain⟨⟨fl2,ps2⟩,e2,e3⟩:=bind_some e1
  refine⟨hgo,fun σ' H'=>∃F',Stp φ σ H F σ' H' ps2 F'/\oA is f (ds.drop (k+1)) ps2=some (fl,ps'),fun σ' H' ⟨F',s,e⟩=>⟨ds.length-(k+1),by omega,hlt,rfl,ps2,F',s,e⟩,fun x H' y=> ?_⟩
  obtain⟨sm,rx⟩:=hy x H' y
  rw [xg2 e0] at rx
  obtain⟨a,vs,rfl,h,hs⟩:=rx.tup_inv
  have ln:=hs.length
  have s0:=Stp.same s1.rs sm
  obtain⟨F2,s2⟩:=Stp.setN s1.rs s0 ⟨fun a ha=>absurd ha (by simp),Zn,fun k a ha hg=>absurd hg (by simp)⟩ hs hb
  have s12:=s1.trans s2
  refine .inr ⟨a,vs,rfl,h,by omega,vL (by omega) ⟨_,F2,fl2,ps2,s2.rs,e2,?_⟩⟩
  cases fl2 with
  |nx=>exact fun σ' H' F' s=>⟨F',s12.trans s,e3⟩
  |ct=>exact fun σ' H' F' s=>⟨F',s12.trans s,e3⟩
  |bk=>cases e3;exact fun σ' H' F' s=>q σ' H' F' (s12.trans s)
  |ret d=>cases e3;exact fun v σ' H' F' fv s o r=>q v σ' H' F' fv (s12.trans s) (o.after s12) r
 ·left
  have ek:k=ds.length:=by omega
  subst ek
  rw [Xx,oA] at e1
  cases e1
  exact⟨W.stop H1 kp,q _ _ F1 s1⟩
theorem wd0(is:List Nat){es:List Expr}{k:Nat}{l:Expr}{fl:tz2}{px p p2:Pos}(hp:PassesOwn (model X.prog X.w) X.A X.env X.xe)(hc:X.calm=true)(hg:Gl X "enumerate")(hm:X.mg "enumerate"=none)(hl:QP X κ l fl)(hgs:PGs X es (xO is))(hb:∀i∈is,φ.bor i=false/\φ.M i=false)
  (hbd:QSs X κ φ body f) (hn:(assignEach es X.env).length=is.length:=by rfl) (hst:(assignEach es X.env).findIdx? (·.1)=none:=by rfl) (hs1:starEach [l] X.env=(false,eval l X.env)::starEach [] X.env:=by rfl) (hs:∀x,foldedSetIterable (.Call (.Name "enumerate" p) [l] [] p2) X.env x=pure x:=by intro _;rfl):
  QS X κ φ (.For (.Tuple es k px) (.Call (.Name "enumerate" p) [l] [] p2) body [] pos) (yd9 is (ye0 fl) f):=by
 have hi:PI X (.Tuple es k px) (.Call (.Name "enumerate" p) [l] [] p2) (fun σ H R=>∃ps xs,WS X.K κ H σ ps/\fl ps=some (.lst true xs)/\D.imms xs=true/\∀J H1 Z,SameK H H1->(∀a∈Z,H a=none/\H1 a≠none)->WalkE X.K κ J Z H1 (nM 0 xs)->R J H1):=by
  constructor
  intro pins s σ H R I hh_
  obtain⟨ps,xs,w,e1,him,q⟩:=hh_
  refine Y6 (wV I hg hm (u:= .type "enumerate") rfl ?_)
  refine Yi ?_ hs1 rfl
  rw [hs1]
  refine YT (thn (hl pins s σ H (fun v H1=>SameK H H1/\∃fv,(∀a∈fv,H a=none)/\Rep X.K κ H1 v (.lst true xs) fv) I ⟨ps,_,w,e1,fun v H1 fv s1 n1 _ r1=>⟨s1,fv,n1,r1⟩⟩) fun u s1 hu=>X7 ?_)
  obtain⟨v,H1,I1,r1,sm,fv,n1,rp⟩:=hu
  obtain⟨a,ws,g,rfl,ha,hws,rfl⟩:=rp.lstT_inv
  have eg:=hws.imm him
  subst eg
  cases r1
  obtain⟨its,rv,pl,hz⟩:=I1.list (.inl (.inl ha))
  refine call_enumerate_list pl.isList fun h' hE hI hsz hk=>wpAny_pyIter_enum hE ?_
  have I2:Inv X pins σ H1 {s1 with heap:=h'}:=I1.kept (t':=s1.toks) hk
  refine⟨s1.heap.objs.size+1,[s1.heap.objs.size+1,s1.heap.objs.size],_,_,H1,rfl,I2,wc8 a (s1.heap.objs.size+1) s1.heap.objs.size (Nat.succ_ne_self _),⟨⟨_,hE⟩,hI⟩,fun b hb=> ?_,q _ H1 [a] sm (fun b hb=> ?_) (wc9 (.inl ha) (fun _=>by simp) hws.nilp)⟩
  ·have hb2:s1.heap.objs.size<=b:=by
    rcases Z5.mp hb with z|z
    ·rw [z];exact Nat.le_succ _
    ·rw [Zg.mp z];exact Z7 _
   exact I1.fpOk hb2 (I1.hok.fresh hb2)
  ·rw [Zg.mp hb]
   exact⟨n1 a Z0,by rw [ha];simp⟩
 exact(yf4 hp hc hi (xf8 (n:=is.length) hc hgs hn hst) hbd hs).imp fun E σ H hh_=>by
  obtain⟨ps,F,fl',ps',R,e,q⟩:=hh_
  obtain⟨ds,e1,e2⟩:=bind_some e
  obtain⟨d,e4,e3⟩:=bind_some e1
  obtain⟨xs,e5,rfl⟩:=Zt.mp e3
  obtain⟨rfl,him⟩:=yx0 e5
  refine⟨ps,_,R.ws,e4,him,fun J H1 Z s1 hz W=> ?_⟩
  have s:=Stp.same R s1
  exact xh0 s.rs (fun a ha=>⟨(hz a ha).2,fun j hj=>by obtain⟨o,h,_⟩:=R.own hj;rw [(hz a ha).1] at h;cases h⟩) W hb e2 (q.back s)
end
inductive LtS(A:Around)(s:Shared):List Value->List Value->Bool->Prop
 |nn:LtS A s [] [] false
 |nc {y:Value} {ys:List Value}:LtS A s [] (y::ys) true
 |cn {x:Value} {xs:List Value}:LtS A s (x::xs) [] false
 |eq {x y:Value} {xs ys:List Value} {c:Bool}:SeqAt.EqAt A s x y true->LtS A s xs ys c->LtS A s (x::xs) (y::ys) c
 |ne {x y:Value} {xs ys:List Value} {c:Bool}:SeqAt.EqAt A s x y false->(∀(prog:Program) (w:World) (E Q:Value->Shared->Prop),Q (.bool c) s->wpAny (model prog w) A (richCompare .Lt x y) Q E s)->LtS A s (x::xs) (y::ys) c
section
open PySem.SeqAt
open PySem.AutoSeq1 (wpAny_loadPart')
open PySem.MeetsSeq PySem.MeetsSeq2 PySem.MeetsSeq3
theorem yx4(l b:Addr)(items items2:Array Value)(n n2:Nat)(dd dd2:Option Addr)(sl sl2:Array (Option Value))(c:Bool):
  Meets (Builtin.«tuple.__lt__» ⟨[.ref l,.ref b],[]⟩)
   (fun A R s=>s.heap.get? l=some {cls:= .type "tuple",dict:=dd,data:= .seq items n,slots:=sl}/\s.heap.get? b=some {cls:= .type "tuple",dict:=dd2,data:= .seq items2 n2,slots:=sl2}/\
    LtS A.in1 s items.toList items2.toList c/\R (.ok (.ret (.bool c))) s):=
 .of_wp fun prog w A R s h=>by
  obtain⟨hp,g,d,tk,os⟩:=s;obtain⟨hl,hb,hL,h⟩:=h
  have f2:=Wp
  wp_walk using Yk hl,Yk hb,wpAny_forIn_list _ (fun rest b s'=>b.1=none/\s'=⟨hp,g,d,tk,os⟩/\∃(vs ws:List Value),rest=vs.zip ws/\
   LtS A.in1 ⟨hp,g,d,tk,os⟩ vs ws c/\vs.length+items2.size=ws.length+items.size/\R (.ok (.ret (.bool c))) ⟨hp,g,d,tk,os⟩) _
  case turn=>
   rintro⟨y,x⟩ rest b s' ⟨hb',rfl,vs,ws,hz,hS,hlen,hR⟩
   cases hS with
   |nn=>rw [Xp] at hz;cases hz
   |nc=>rw [Xp] at hz;cases hz
   |cn=>rw [Wq] at hz;cases hz
   |eq he hS'=>
    rw [Yg] at hz
    injection hz with hyx hrest
    injection hyx with hy hx
    subst hy hx
    simp only [Z6] at hlen
    refine Zj (he prog w _ _ ?_)
    wp_walk
    exact⟨rfl,rfl,_,_,hrest,hS',by omega,hR⟩
   |ne he hlt=>
    rw [Yg] at hz
    injection hz with hyx hrest
    injection hyx with hy hx
    subst hy hx
    refine Zj (he prog w _ _ ?_)
    have hri:=hlt prog w
    wp_walk using hri
    exact⟨_,rfl,by simpa using hR⟩
  case fin=>
   rintro⟨b1,b2⟩ s' ⟨hb',rfl,vs,ws,hz,hS,hlen,hR⟩
   simp only at hb'
   subst hb'
   have hv:c=decide (items.size<items2.size):=by
    cases hS with
    |nn=>simp only [ZX] at hlen;exact(Za (by omega)).symm
    |nc=>simp only [ZX,Z6] at hlen;exact(Zk (by omega)).symm
    |cn=>simp only [ZX,Z6] at hlen;exact(Za (by omega)).symm
    |eq _ _=>rw [Yg] at hz;cases hz
    |ne _ _=>rw [Yg] at hz;cases hz
   rw [hv] at hR
   wp_walk
   exact⟨_,rfl,by simpa [Builtin.Tuple.tupleCompareSizes] using hR⟩
  case h=>
   exact⟨rfl,rfl,items.toList,items2.toList,rfl,hL,by simp;omega,h⟩
end
section
variable{prog:Program}{w:World}{A:Around}{E:Value->Shared->Prop}{s:Shared}
theorem yr2{l b:Addr}{items items2:Array Value}{c:Bool}{Q:Value->Shared->Prop}(hl:IsTup s.heap l items)(hb:IsTup s.heap b items2)(hS:LtS A.in1 s items.toList items2.toList c)
  (hu:A.units<cLine) (h:Q (.bool c) s):wpAny (model prog w) A (compareOp .Lt (.ref l) (.ref b)) Q E s:=by
 obtain⟨⟨cls,dd,data,sl⟩,ho,hc,n,hd⟩:=id hl
 obtain⟨⟨cls2,dd2,data2,sl2⟩,ho2,hc2,n2,hd2⟩:=id hb
 simp only at hc hd hc2 hd2
 subst hc hd hc2 hd2
 exact richCompare_meets_room (op:= .Lt) ⟨_,ho,rfl⟩ ⟨_,ho2,rfl⟩ Wb W1 (XV _ _) (yx4 l b items items2 n n2 dd dd2 sl sl2 c)
  ⟨ho,ho2,hS,show Value.bool c≠Value.notImplemented/\Q (.bool c) s from⟨(fun x=>nomatch x),h⟩⟩ hu
end
def zd8:List (List Int)->List (List Int)->Bool
 |[],[]=>false
 |[],_::_=>true
 |_::_,[]=>false
 |x::xs,y::ys=>if x=y then zd8 xs ys else HT.lexLt x y
inductive TI2(s:Shared):List Value->List (List Int)->Prop
 |nil:TI2 s [] []
 |cons {a:Addr} {its:Array Value} {ns:List Int} {vs:List Value} {nss:List (List Int)}:IsTup s.heap a its->IntsAre its.toList ns->TI2 s vs nss->TI2 s (.ref a::vs) (ns::nss)
theorem zn1{h:Heap}:∀{vs:List Value} {ns:List Int},IntsAre vs ns->∃as,ReadsAll h vs (ns.map .int) as
 |_,_,.nil=>⟨_,.nil⟩
 |_,_,.cons i t hs=>by
  obtain⟨as,r⟩:=zn1 (h:=h) hs
  exact⟨_,.cons (.int i t) r⟩
theorem zz0{s:Shared}{a:Addr}{its:Array Value}{ns:List Int}(h:IsTup s.heap a its)(hi:IntsAre its.toList ns):∃as,Reads s.heap (.ref a) (.tuple (ns.map .int)) as:=by
 obtain⟨o,e,c,n,d⟩:=h
 obtain⟨as,r⟩:=zn1 (h:=s.heap) hi
 exact⟨_,.tuple e c d r⟩
theorem zi6:∀ns ms:List Int,PyData.eqvAll (ns.map .int) (ms.map .int)=decide (ns=ms)
 |[],[]=>by simp [PyData.eqvAll]
 |[],_::_=>by simp [PyData.eqvAll]
 |_::_,[]=>by simp [PyData.eqvAll]
 |n::ns,m::ms=>by
  rw [Zb,Zb,PyData.eqvAll,zi6 ns ms,PyData.eqv]
  by_cases h:n=m<;>by_cases h2:ns=ms<;>simp [h,h2]
theorem xs0{A:Around}{s:Shared}(hu:A.units+8<cLine):∀{vs ws:List Value} {nss mss:List (List Int)},TI2 s vs nss->TI2 s ws mss->LtS A s vs ws (zd8 nss mss)
 |_,_,_,_,.nil,.nil=> .nn
 |_,_,_,_,.nil,.cons _ _ _=> .nc
 |_,_,_,_,.cons _ _ _,.nil=> .cn
 | _,_,_,_,.cons (ns:=ns) h1 i1 t1,.cons (ns:=ms) h2 i2 t2=>by
  obtain⟨as,r1⟩:=zz0 h1 i1
  obtain⟨bs,r2⟩:=zz0 h2 i2
  have e:=SeqAt.eqAt_reads _ _ A s _ _ as bs r1 r2 (by simp only [PyData.canLay0,canLayAll_ints]) (by simp only [PyData.canLay0,canLayAll_ints]) (by simp only [PyData.depth,depthAll_ints];omega)
  rw [PyData.eqv,zi6] at e
  rw [zd8]
  by_cases z:ns=ms
  ·rw [Zk z] at e
   rw [if_pos z]
   exact .eq e (xs0 hu t1 t2)
  ·rw [Za z] at e
   rw [if_neg z]
   exact .ne e fun prog w E Q q=>HT.lt_tupInts h1 h2 i1 i2 (by omega) q
def D.intss:List D->Option (List (List Int))
 |[]=>some []
 | .tup xs::ds=>(D.ints xs).bind fun ns=>(D.intss ds).map (ns::·)
 |_=>none
theorem zn2{X:Cx}{κ:tz9}{pins:tzB}{σ:St}{H:Hp}{s:Shared}(I:Inv X pins σ H s):∀{ds:List D} {vs:List V} {us:List Value} {nss:List (List Int)},Reps X.K κ H vs ds []->bW vs us->D.intss ds=some nss->TI2 s us nss
 |[],_,_,_,r,v,e=>by
  cases r;cases v;cases e
  exact .nil
 | d::ds,_,_,nss,r,v,e=>by
  obtain⟨v1,vs1,f,g,rfl,r1,r2,ef⟩:=r.split
  obtain⟨rfl,rfl⟩:=W3.mp ef.symm
  cases v with
  | cons ru rus=>
   cases d with
   |tup xs=>
    obtain⟨ns,e1,e2⟩:=bind_some (show(D.ints xs).bind _=some nss from e)
    obtain⟨mss,e3,rfl⟩:=Zt.mp e2
    obtain⟨a,ws,rfl,h1,s1⟩:=r1.tup_inv
    rw [uA s1 e1] at h1
    cases ru
    obtain⟨its,rv,p,_⟩:=I.tuple h1
    exact .cons p (by simpa using xX rv) (zn2 I r2 rus e3)
   |_=>cases e
def ym6:D->D->Option D
 | .tup xs,.tup ys=>(D.intss xs).bind fun ns=>(D.intss ys).map fun ms=> .bl (zd8 ns ms)
 |_,_=>none
theorem wq6{X:Cx}{κ:tz9}(hu:X.A.units+64<cLine):OpR X (compareOp .Lt) (POp X.K κ ym6):=⟨by
 rintro pins s σ H x y v u Q I rx ry ⟨dx,dy,d,fx,fy,r1,r2,e,q⟩
 unfold ym6 at e
 split at e
 ·obtain⟨ns,e1,e⟩:=bind_some e
  obtain⟨ms,e2,e⟩:=Zt.mp e
  subst e
  obtain⟨a,vs,rfl,h1,s1⟩:=r1.tup_inv
  obtain⟨b,us,rfl,h2,s2⟩:=r2.tup_inv
  cases rx
  cases ry
  obtain⟨its,rv,p1,_⟩:=I.tuple h1
  obtain⟨its2,rv2,p2,_⟩:=I.tuple h2
  refine yr2 p1 p2 (xs0 (by show X.A.units+1+8<cLine;omega) (zn2 I s1 rv e1) (zn2 I s2 rv2 e2)) (by omega) ⟨.bl _,H,I,rfl,q.now (.bl _)⟩
 ·cases e⟩
def wR:List Int->Option Int
 |[]=>none
 |n::ns=>match wR ns with
  |none=>some n
  |some m=>some (if m<=n then n else m)
theorem yr3:∀{ns:List Int} {k:Int},wR ns=some k->k∈ns/\∀n∈ns,n<=k
 |[],k,h=>by cases h
 | n::ns,k,h=>by
  rw [wR] at h
  cases e:wR ns with
  | none=>
   rw [e] at h
   cases h
   cases ns with
   |nil=>simp
   |cons m ms=>
    rw [wR] at e
    cases e2:wR ms<;>rw [e2] at e<;>cases e
  | some m=>
   rw [e] at h
   obtain⟨h1,h2⟩:=yr3 e
   have h3:(if m<=n then n else m)=k:=by simpa using h
   by_cases c:m<=n
   ·rw [if_pos c] at h3
    subst h3
    exact⟨by simp,fun x hx=>(Z5.mp hx).elim (fun z=>by omega) fun z=>by have:=h2 x z;omega⟩
   ·rw [if_neg c] at h3
    subst h3
    exact⟨by simp [h1],fun x hx=>(Z5.mp hx).elim (fun z=>by omega) fun z=>h2 x z⟩
def ye1:tz6
 |[.lst _ xs]=>(D.ints xs).bind fun ns=>(wR ns).map .int
 |_=>none
theorem wj9{X:Cx}{κ:tz9}(hc:X.calm=true):CallR X (.builtin "max") (PCl X.K κ ye1):=⟨by
 rintro pins s σ H vs us Q I r ⟨ds,fp,d,rs,e,q⟩
 unfold ye1 at e
 split at e
 ·obtain⟨ns,e1,e2⟩:=bind_some e
  obtain⟨k,e3,rfl⟩:=Zt.mp e2
  obtain⟨v,rfl,r1⟩:=rs.one_inv
  obtain⟨a,ws,g,rfl,h,hs,_⟩:=r1.lst_inv
  rw [uA hs e1] at h
  obtain⟨h1,h2⟩:=yr3 e3
  refine xe5 hc pins s σ H _ us Q I r ⟨a,ns,rfl,.inl h,List.length_pos_of_mem h1,fun m hm hx=> ?_⟩
  have em:m=k:=by have:=h2 m hm;have:=hx k h1;omega
  rw [em]
  exact q.now (.int _)
 ·cases e⟩
def wo4(C:Addr)(m:Str)(sp:Sp)(dvs:List V)(E:XK)(ta:TE)(t:TA):TE:=fun σ H Q=>ta σ H fun x H1=>∃a dx fs,x= .ref a/\Rd H1 a (.ins C dx fs)/\fs.lookup m=none/\
 t σ H1 fun vs H2=>sp (x::(vs++dvs)) H2 Q E
section
variable{X:Cx}{κ:tz9}{o e:Expr}{es:List Expr}{m qual:Str}{st:Stmt}{ps:List Str}{f:Addr}{fd:FuncData}{k np:Nat}{apos pos p:Pos}{pl:Sem Bool}
theorem xs1{C:Addr}{CX:CXT}{sp:Sp}{E:XK}{ds:List Value}{dvs:List V}{ta:TE}{t:TA}(he:PE X o ta)(c:Cls X.K C)(hm:Meth X.K C m f)(F:FnOk X.prog X.w X.K X.mg X.base CX k f fd ps sp)(hr:Room k X.A)(hb:lS X.K fd ps ds)(hd:bW dvs ds)(hx:nY CX X E)(ha:PA X (e::es) t)
  (hst:StE e es X:=by rfl) (hpl:BkE pos es X:=by rfl)
  (ht:eval (.Call (.Attribute o m apos) (e::es) [] pos) X.env=(do
   let ov<-eval o X.env
   standAt apos.atName
   let (f,first)<-holding [ov] (getMethod ov m pl)
   callWith pos f first (backTo pos (starEach (e::es) X.env)) (backToKw pos (keywordEach [] X.env))):=by rfl):
  PE X (.Call (.Attribute o m apos) (e::es) [] pos) (wo4 C m sp dvs E ta t):=⟨by
 intro pins s σ H Q I h
 refine X9 (pl:=pl) (thn (he pins s σ H _ I h) fun u s1 ⟨x,H1,I1,rx,a,dx,fs,ex,ea,l,q⟩=> ?_) ht
 subst ex
 obtain rfl:u=Value.ref a:=rx
 refine yw7 I1 ea c hm l ?_
 refine Yr (first:=[.ref a]) (h₀:=X.base) I.ok.mod.kin hm.kp (thn (ha pos pins s1 σ H1 _ I1 q) fun us s2 ⟨vs,H2,I2,r,q2⟩=>⟨I2.kIn,?_⟩) hst hpl
 exact za9 (us:= .ref a::us) (vs:= .ref a::vs) F hr hb hd hx I2 (.cons rfl r) q2⟩
def zh3(C m:Str):D->Option D
 | .obj false C' ns vs=>if (C'=C/\cW ns m=none) then some (.obj false C' ns vs) else none
 |_=>none
def sI(C m:Str)(fo:tz2):tz2:=fun ps=>(fo ps).bind (zh3 C m)
theorem yx5(h:zh3 C m x=some d):∃ns vs,x=d/\d= .obj false C ns vs/\cW ns m=none:=by
 unfold zh3 at h
 split at h
 ·obtain⟨⟨hC,hn⟩,e3⟩:=cC h
  subst hC;cases e3
  exact⟨_,_,rfl,rfl,hn⟩
 ·cases h
theorem yi0{C:Str}{h:tz6}{fo:tz2}{g:tz3}(M:Mn X.K κ C m qual st ps f fd)(G:FnOk X.prog X.w X.K X.mg X.base CX0 k f fd ps (SpP np X.K κ h))(hr:Room k X.A)(ho:QV X κ o fo)(hnp:(e::es).length+1=np)(ha:QVA X κ (e::es) g)(hlen:∀ps ds,g ps=some ds->ds.length=(e::es).length)
  (hst:StE e es X:=by rfl) (hpl:BkE pos es X:=by rfl)
  (ht:eval (.Call (.Attribute o m apos) (e::es) [] pos) X.env=(do
   let ov<-eval o X.env
   standAt apos.atName
   let (f,first)<-holding [ov] (getMethod ov m pl)
   callWith pos f first (backTo pos (starEach (e::es) X.env)) (backToKw pos (keywordEach [] X.env))):=by rfl):
  QP X κ (.Call (.Attribute o m apos) (e::es) [] pos) (aG h (aA (sI C m fo) g)):=(xs1 ho M.c M.h G hr M.b .nil zf5 ha hst hpl ht).imp fun σ H Q hh_=>by
 obtain⟨ps,d,w,e,q⟩:=hh_
 obtain⟨ds,e1,e2⟩:=bind_some e
 obtain⟨x,k1,k2⟩:=bind_some e1
 obtain⟨ds',k3,k4⟩:=bind_some k2
 cases k4
 obtain⟨y,k0,k1⟩:=bind_some k1
 obtain⟨ns,vs,rfl,rfl,k6⟩:=yx5 k1
 refine⟨ps,_,w,k0,fun v H1 fp s1 r1=> ?_⟩
 have r1':=r1
 obtain⟨_,_,_,_,rfl,hl,hn,hs,_⟩:=r1.obj_inv
 subst hn
 refine⟨_,_,_,rfl,hl,rF k6,ps,ds',w.same s1,k3,fun us H2 fq s2 r2=> ?_⟩
 show SpP np X.K κ h (_::(us++[])) H2 Q E0
 rw [Zi]
 exact⟨by rw [Z6,r2.length,hlen ps ds' k3,hnp],_,_,d,.cons (r1'.same s2) r2,e2,q.after (s1.trans s2)⟩
end
def xy7:D->Option Bool
 | .dic _ ks _=>some (!ks.isEmpty)
 |_=>none
def fTK(f:tz2):tz4:=fun ps=>(f ps).bind xy7
theorem yr4{X:Cx}{κ:tz9}{a:Expr}{fa:tz2}(ha:QV X κ a fa)(he:∀whole,isTrue a X.env whole=(do let v<-whole;standAt a.pos;holding [v] (truthy v)):=by intro _;rfl):QT X κ a (fTK fa):=⟨by
 intro pins s σ H Q I hh_
 obtain⟨ps,c,w,e,q⟩:=hh_
 obtain⟨d,e1,e2⟩:=bind_some e
 unfold xy7 at e2
 split at e2
 ·rename_i o ks ds
  cases e2
  refine isTrue_plain (thn (ha pins s σ H (fun v H1=>SameK H H1/\∃fp,Rep X.K κ H1 v (.dic o ks ds) fp) I ⟨ps,_,w,e1,fun v H1 fp s1 r1=>⟨s1,fp,r1⟩⟩) fun v s1 hv=> ?_) (he _)
  obtain⟨x,H1,I1,r1,sm,fp,rp⟩:=hv
  obtain⟨l,kvs,g,rfl,hl,hk,_⟩:=rp.dic_inv
  cases r1
  refine wa5 I1 hl fun s2 I2=>⟨H1,I2,?_⟩
  rw [show kvs.isEmpty=ks.isEmpty by rw [<-hk];cases kvs<;>rfl]
  exact q H1 sm
 ·cases e2⟩
section
variable{prog:Program}{w:World}{A:Around}{E:Value->Shared->Prop}
def rL(h0 h:Heap):Prop:=∀b o,h0.get? b=some o->h.get? b=some o
theorem TI2.keep{s s':Shared}(k:rL s.heap s'.heap):∀{vs:List Value} {n:List (List Int)},TI2 s vs n->TI2 s' vs n
 |_,_,.nil=> .nil
 |_,_,.cons (a:=a) h1 h2 h3=> .cons (let ⟨o,e,r⟩:=h1;⟨o,k a o e,r⟩) h2 (TI2.keep k h3)
def zd9(s:Shared)(v:Value)(n:List (List Int)):Prop:=∃a its,v= .ref a/\IsTup s.heap a its/\TI2 s its.toList n
theorem zd9.keep{s s':Shared}{v:Value}{n:List (List Int)}(k:rL s.heap s'.heap)(h:zd9 s v n):zd9 s' v n:=by
 obtain⟨a,its,rfl,h1,h2⟩:=h
 exact⟨a,its,rfl,let ⟨o,e,r⟩:=h1;⟨o,k a o e,r⟩,h2.keep k⟩
theorem wq7{s:Shared}{v u:Value}{n m:List (List Int)}{Q:Value->Shared->Prop}(hu:A.units+9<cLine)(h1:zd9 s v n)(h2:zd9 s u m)(q:Q (.bool (zd8 n m)) s):wpAny (model prog w) A (richCompare .Lt v u) Q E s:=by
 obtain⟨a,its,rfl,a1,a2⟩:=h1
 obtain⟨b,jts,rfl,b1,b2⟩:=h2
 exact yr2 a1 b1 (xs0 (by show A.units+1+8<cLine;omega) a2 b2) (by omega) q
def ltN(N:List (List (List Int)))(i j:Nat):Bool:=zd8 (N.getD i []) (N.getD j [])
theorem wq8{R:Result->Shared->Prop}{s0:Shared}{vs:List (Key×Value)}{N:List (List (List Int))}{d it S:Addr}{ep:Nat}(hh:A.in1.handled=none)(hu:A.units+10<cLine)(hN:∀(i:Nat) (k:Key) v,vs[i]? =some (k,v)->zd9 s0 v (N.getD i []))(dd:s0.heap.DictAt (fK prog w) d vs ep)(n1:s0.heap.get? it=none)(n2:s0.heap.get? S=none)(ne:it≠S):
  ∀(m j:Nat) (s:Shared) (vb:Value) (c:Nat) (k:Key),vs.length=j+1+m->s.heap.IsValIter it d (j+1) vs.length ep->rL s0.heap s.heap->vs[argBest (ltN N) j]? =some (k,vb)->s.heap.get? S=some {cls:= .type "list",dict:=none,data:= .seq #[vb,vb] c,slots:= #[]}->
  (∀v k h' tk,vs[argBest (ltN N) (vs.length-1)]? =some (k,v)->rL s0.heap h'->R (.ok (.ret v)) {s with heap:=h',toks:=tk})->codeAny (model prog w) A (.builtin "min.loop" ⟨[.ref it,.none,.ref S],[]⟩) R s:=by
 have hname:(toString "min"++toString ".loop":String)="min.loop"/\∀b o,s0.heap.get? b=some o->b≠it/\b≠S:=⟨by decide,fun b o e=>⟨fun z=>(by rw [z,n1] at e;cases e),fun z=>(by rw [z,n2] at e;cases e)⟩⟩
 intro m
 induction m with
 |zero=>
  intro j s vb c k hj hit K hb hS hR
  refine W7 XT (?_:wpAny _ _ _ _ _ s);rw [Xs Yh _]
  show wpAny _ A.in1 (seqItems? (.ref S)>>=fun _=>_) _ _ s;refine Zj (Wh hS rfl (?_:wpAny _ _ _ _ _ s))
  show wpAny _ A.in1 (tryCatch (pyNext (.ref it)) _>>=_) _ _ s
  refine Zj (Xt (wpAny_pyNext_values_end hh hit (dd.keep K) (Yw (by omega)) fun h' eb=> ?_))
  have hS':=eb S _ (Y8 ne) hS;show wpAny _ A.in1 (updateSeq S (fun _=> #[])>>=fun _=>_) _ _ _
  refine Zj (W8 hS' rfl (Zj (XX (ZI ?_))))
  exact hR vb k _ s.toks (by rw [show vs.length-1=j by omega];exact hb) fun b o e=>(Y4 _ _ (Y8 (hname.2 b o e).2)).trans (eb b o (hname.2 b o e).1 (K b o e))
 | succ m ih=>
  intro j s vb c k hj hit K hb hS hR
  obtain⟨⟨kx,vx⟩,hx⟩:∃p,vs[j+1]? =some p:=⟨vs[j+1],by simp⟩
  refine W7 XT (?_:wpAny _ _ _ _ _ s);rw [Xs Yh _]
  show wpAny _ A.in1 (seqItems? (.ref S)>>=fun _=>_) _ _ s;refine Zj (Wh hS rfl (?_:wpAny _ _ _ _ _ s))
  show wpAny _ A.in1 (tryCatch (pyNext (.ref it)) _>>=_) _ _ s
  refine Zj (Xt (Wt hit (dd.keep K) hx fun h' hit' sb=> ?_))
  have K':rL s0.heap h':=fun b o e=>(sb.2 b (hname.2 b o e).1).trans (K b o e)
  have hS':h'.get? S=_:=(sb.2 S (Y8 ne)).trans hS;show wpAny _ A.in1 (tryCatch (holding [vx,vx] (richCompare .Lt vx vb>>=fun _=>_)) _>>=_) _ _ _
  refine Zj (Xt (YG (Zj (wq7 (s:={s with heap:=h'}) (by show A.units+1+9<cLine;omega) ((hN _ _ _ hx).keep K') ((hN _ _ _ hb).keep K') ?_))))
  refine Zj (YG (Y3 (Zj (XX (ZI ?_)))))
  have tl:∀(h2:Heap) (vb2:Value) (k2:Key) (c2:Nat),h2.IsValIter it d (j+1+1) vs.length ep->rL s0.heap h2->vs[argBest (ltN N) (j+1)]? =some (k2,vb2)->h2.get? S=some {cls:= .type "list",dict:=none,data:= .seq #[vb2,vb2] c2,slots:= #[]}->codeAny (model prog w) A (.builtin "min.loop" ⟨[.ref it,.none,.ref S],[]⟩) R {s with heap:=h2}:=fun h2 vb2 k2 c2 a1 a2 a3 a4=>ih (j+1) {s with heap:=h2} vb2 c2 k2 (by omega) a1 a2 a3 a4 fun v k h3 tk a5 a6=>hR v k h3 tk a5 a6
  have hlt:zd8 (N.getD (j+1) []) (N.getD (argBest (ltN N) j) [])=ltN N (j+1) (argBest (ltN N) j):=rfl
  rw [hlt]
  cases hbt:ltN N (j+1) (argBest (ltN N) j) with
  | true=>
   simp only [Y2]
   refine Zj (W8 hS' rfl (Zj (XX ?_)));rw [hname.1]
   refine ZI ⟨XA Yh _,tl _ vx kx _ ?_ ?_ ?_ (Xo _ hS' rfl)⟩
   ·obtain⟨oi,q1,q2⟩:=hit'
    exact⟨oi,(Y4 _ _ (Y8 ne)).trans q1,q2⟩
   ·exact fun b o e=>(Y4 _ _ (Y8 (hname.2 b o e).2)).trans (K' b o e)
   ·rw [argBest,hbt,if_pos rfl];exact hx
  |false=>
   simp only [ZQ,Ym]
   refine Zj (XX ?_);rw [hname.1]
   exact ZI ⟨XA Yh _,tl _ vb k c hit' K' (by rw [argBest,hbt,if_neg Z9];exact hb) hS'⟩
theorem yc0{Q:Value->Shared->Prop}{s0 s:Shared}{vs:List (Key×Value)}{N:List (List (List Int))}{d vw:Addr}{ep:Nat}(hh:A.handled=none)(hu:A.units+11<cLine)(hN:∀(i:Nat) (k:Key) v,vs[i]? =some (k,v)->zd9 s0 v (N.getD i []))(dd:s0.heap.DictAt (fK prog w) d vs ep)(K:rL s0.heap s.heap)(hv:s.heap.IsValuesView vw d)(h0:0<vs.length)
  (hQ:∀v k h' tk,vs[argBest (ltN N) (vs.length-1)]? =some (k,v)->rL s0.heap h'->Q v {s with heap:=h',toks:=tk}):wpAny (model prog w) A (call (.builtin "min") [.ref vw]) Q E s:=by
 have hname:(toString "min"++toString ".loop":String)="min.loop"/\True:=⟨by decide,trivial⟩
 refine call_function_tree F.kind_min F.plain_min F.entry_min (F.args_min1 (.ref vw)) (?_:wpAny _ _ _ _ _ s)
 show wpAny _ A.in1 (Builtin.Builtins.bindParams "min" ["key","default"] 0 ⟨[],[]⟩>>=fun _=>_) _ _ s
 refine Zj (wpAny_of_eq (a:=[none,none]) rfl (Zj (ZI (Zj (wpAny_pyIter_values hv (dd.keep K) (Zj (wpAny_newObj_type ?_)))))))
 rw [hname.1]
 refine ZI ⟨XA Yh _,?_⟩
 have e0:∀b o,s0.heap.get? b=some o->b<s.heap.objs.size:=fun b o e=>Zm (K b o e)
 have nn:∀b,s.heap.objs.size<=b->s0.heap.get? b=none:=fun b hb=>by
  cases z:s0.heap.get? b with
  |none=>rfl
  |some o=>exact absurd (e0 b o z) (Nat.not_lt.mpr hb)
 have szp:∀o:Obj,(s.heap.push o).objs.size=s.heap.objs.size+1:=fun o=>Wg ..
 obtain⟨⟨k0,v0⟩,hx⟩:∃p,vs[0]? =some p:=⟨vs[0],by simp⟩
 generalize hio:({cls:= .type "dict_valueiterator",data:= .fields #[.ref d,.int 0 0,.int vs.length 0,.int ep 0]}:Obj)=io
 have K1:rL s0.heap ((s.heap.push io).push {cls:= .type "list",data:= .seq #[]}):=fun b o e=>Zf _ (Zf _ (K b o e))
 have hS:((s.heap.push io).push {cls:= .type "list",data:= .seq #[]}).get? (s.heap.push io).objs.size=some {cls:= .type "list",data:= .seq #[]}:=Zw _ rfl
 have hI:((s.heap.push io).push {cls:= .type "list",data:= .seq #[]}).IsValIter s.heap.objs.size d 0 vs.length ep:=⟨io,Zf _ (Zw _ (by rw [<-hio];rfl)),by rw [<-hio],by rw [<-hio];rfl⟩
 have ne:s.heap.objs.size≠(s.heap.push io).objs.size:=by rw [szp];omega
 have n2:s0.heap.get? (s.heap.push io).objs.size=none:=nn _ (by rw [szp];omega)
 generalize (s.heap.push io).objs.size=S at hS ne n2|-
 generalize (s.heap.push io).push {cls:= .type "list",data:= .seq #[]}=hp at K1 hS hI|-
 refine W7 XT (?_:wpAny _ _ _ _ _ {s with heap:=hp});rw [Xs Yh _]
 show wpAny _ A.in1 (seqItems? (.ref S)>>=fun _=>_) _ _ _;refine Zj (Wh hS rfl (?_:wpAny _ _ _ _ _ {s with heap:=hp}))
 show wpAny _ A.in1 (tryCatch (pyNext (.ref s.heap.objs.size)) _>>=fun _=>_) _ _ _
 refine Zj (Xt (Wt (s:={s with heap:=hp}) hI (dd.keep K1) hx fun h' hit' sb=> ?_))
 have K':rL s0.heap h':=fun b o e=>(sb.2 b (fun z=>by rw [z,nn _ (Z7 _)] at e;cases e)).trans (K1 b o e)
 have hS':h'.get? S=_:=(sb.2 S (Y8 ne)).trans hS;show wpAny _ A.in1 (updateSeq S (fun _=> #[v0,v0])>>=fun _=>_) _ _ _
 refine Zj (W8 hS' rfl ?_);rw [hname.1]
 refine ZI ⟨XA Yh _,wq8 (s0:=s0) (A:=A) (N:=N) (vs:=vs) hh (by omega) hN dd (nn _ (Z7 _)) n2 ne (vs.length-1) 0 _ v0 _ k0 (by omega) ?_ ?_ hx (Xo _ hS' rfl) fun v k h2 tk a1 a2=> ?_⟩
 ·obtain⟨oi,q1,q2⟩:=hit'
  exact⟨oi,(Y4 _ _ (Y8 ne)).trans q1,q2⟩
 ·exact fun b o e=>(Y4 _ _ (fun z=>by rw [<-z,n2] at e;cases e)).trans (K' b o e)
 ·exact hQ v k h2 tk a1 a2
end
def D.intsss:List D->Option (List (List (List Int)))
 |[]=>some []
 | .tup xs::ds=>(D.intss xs).bind fun n=>(D.intsss ds).map (n::·)
 |_=>none
theorem zz1:∀{ds:List D} {N:List (List (List Int))},D.intsss ds=some N->ds.length=N.length/\∀(i:Nat) d,ds[i]? =some d->∃xs,d= .tup xs/\D.intss xs=some (N.getD i [])
 |[],_,e=>by cases e;exact⟨rfl,fun i d h=>by simp at h⟩
 | .tup xs::ds,N,e=>by
  obtain⟨n,e1,e2⟩:=bind_some (show(D.intss xs).bind _=some N from e)
  obtain⟨M,e3,rfl⟩:=Zt.mp e2
  obtain⟨h1,h2⟩:=zz1 e3
  refine⟨by simp [h1],fun i d h=> ?_⟩
  cases i with
  |zero=>simp at h;exact⟨xs,h.symm,e1⟩
  |succ i=>simpa using h2 i d (by simpa using h)
 | .non::_,_,e=>by cases e
 | .bl _::_,_,e=>by cases e
 | .int _::_,_,e=>by cases e
 | .str _::_,_,e=>by cases e
 | .lst _ _::_,_,e=>by cases e
 | .con _::_,_,e=>by cases e
 | .ty _::_,_,e=>by cases e
 | .dic _ _ _::_,_,e=>by cases e
 | .obj _ _ _ _::_,_,e=>by cases e
def xy8:D->Option D
 | .dic _ _ ds=>(D.intsss ds).bind fun N=>ds[argBest (ltN N) (N.length-1)]?
 |_=>none
def ye2(f:tz2):tz2:=fun ps=>(f ps).bind xy8
section
variable{X:Cx}{κ:tz9}{a:Expr}{fa:tz2}{p1 p2 ap pos:Pos}
theorem wd1(hc:X.calm=true)(hu:X.A.units+64<cLine)(ha:QV X κ a fa)(hg:Gl X "min")(hm:X.mg "min"=none)(hb:attributeBase a "values" X.env (eval a X.env)=eval a X.env:=by rfl)(hln:(ap.endLine==p2.line)=true:=by rfl)
  (hs1:starEach [.Call (.Attribute a "values" ap) [] [] p2] X.env=(false,eval (.Call (.Attribute a "values" ap) [] [] p2) X.env)::starEach [] X.env:=by rfl):
  QV X κ (.Call (.Name "min" p1) [.Call (.Attribute a "values" ap) [] [] p2] [] pos) (ye2 fa):=⟨by
 intro pins s σ H Q I hh_
 obtain⟨ps,d,w,e,q⟩:=hh_
 obtain⟨d1,e1,e2⟩:=bind_some e
 unfold xy8 at e2
 split at e2
 ·rename_i b ks ds
  obtain⟨N,eN,e3⟩:=bind_some e2
  obtain⟨hNl,hNa⟩:=zz1 eN
  refine Y6 (wV I hg hm (u:= .builtin "min") boot_min ?_)
  refine Xu ?_ hs1 rfl
  rw [hs1]
  refine YT ?_
  refine wpAny_Call_method hb rfl hln PySem.F.plainAttrs_dict XU PySem.F.type_dict_values (thn (ha pins s σ H (fun v H1=>SameK H H1/\∃fp,Rep X.K κ H1 v (.dic b ks ds) fp) I ⟨ps,_,w,e1,fun v H1 fp s1 r1=>⟨s1,fp,r1⟩⟩) fun u s1 hx=> ?_)
  obtain⟨v,H1,I1,r1,sm,fp,rp⟩:=hx
  obtain⟨l,kvs,g,rfl,hl,hk,hrs,_⟩:=rp.dic_inv
  cases r1
  obtain⟨t1,t2,t3⟩:=wi4 I1 (.inl ⟨kvs,hl⟩)
  refine⟨t1,t2,?_⟩
  obtain⟨z,sm',vs,hv,hd⟩:=xW I1.hok hl
  obtain⟨ep,dd⟩:=hd.dictAt
  refine Xh rfl (PyProof.Rows.evalArgs_nil3 (?_:wpAny _ _ _ _ _ s1))
  refine call_meetsIn XU t1 PySem.F.entry_dict_values (PySem.F.args_dict_values_1 (.ref l)) (meets_dict_values (fK X.prog X.w) l t3) ⟨⟨vs,hd⟩,X7 ?_⟩
  have lv:=ZM hv
  have ld:kvs.length=ds.length:=by have:=hrs.length;simpa using this
  have h0:argBest (ltN N) (N.length-1)<ds.length:=(Z8.mp e3).1
  have hN:∀(i:Nat) (k:Key) v,vs[i]? =some (k,v)->zd9 s1 v (N.getD i []):=fun i k v hi=>by
   obtain⟨⟨k',vv⟩,hx2,hk',rv⟩:=lZ hv hi
   have hlt:i<ds.length:=by have:=(Z8.mp hx2).1;omega
   obtain⟨xs,hxs,en⟩:=hNa i ds[i] (by simp [hlt])
   obtain⟨v2,f2,g1,g2,_⟩:=hrs.get (i:=i) (d:=ds[i]) (by simp [hlt])
   rw [Zc,hx2] at g1
   cases g1
   rw [hxs] at g2
   obtain⟨a2,ws,rfl,hw,sw⟩:=g2.tup_inv
   cases rv
   obtain⟨its,rvs,p,_⟩:=I1.tuple hw
   exact⟨a2,_,rfl,p,by simpa using zn2 I1 sw rvs en⟩
  refine yc0 (s0:=s1) (N:=N) (vs:=vs) (d:=l) (I.ok.hd hc) (by show X.A.units+11<cLine;omega) hN dd (fun b o e=>Zf _ e) ⟨_,Zw _ rfl,rfl,rfl⟩ (by omega) fun v k h' tk hv' K=> ?_
  rw [<-lv,ld,hNl] at hv'
  obtain⟨⟨k',vv⟩,hx2,hk',rv⟩:=lZ hv hv'
  obtain⟨v2,f2,g1,g2,_⟩:=hrs.get e3
  rw [Zc,hx2] at g1
  cases g1
  exact⟨vv,H1,I1.kept (t':=tk) (h':=h') K,rv,q vv H1 f2 sm g2⟩
 ·cases e2⟩
end
def zl2(g:List D->Bool)(ga:tz3):tz5:=fun ps=>match ga ps with
 |some ds=>g ds
 |none=>false
section
variable{P:Program}{w:World}{K:tz0}{mg:tzA}{base:Heap}{N:List Str}{qual:Str}{scope:Scope}{f C:Addr}{cd:Value}{A:Around}{outer:List Env}{s:Shared}{H:Hp}{E:XK}{κ:tz9}{φ:F0}
theorem wk0{x:Str}{st:Stmt}{ps:List Str}{fa:Addr}{fd:FuncData}{k np:Nat}{g:List D->Bool}{e:Expr}{es:List Expr}{ga:tz3}{p pos:Pos}(Dd:Dn K mg x st ps fa fd)(G:FnOk P w K mg base (CXn P w base C) k fa fd ps (zd7 np K κ C g))(hr:Room k (A.deeper (envOfC qual scope s.heap.objs.size f cd)))(hg:Gl (iW (CXn P w base C) P w K mg base N qual scope f cd A outer s H E) x)
  (hnp:(e::es).length=np) (ha:QVA (iW (CXn P w base C) P w K mg base N qual scope f cd A outer s H E).nox κ (e::es) ga) (hlen:∀ps ds,ga ps=some ds->ds.length=(e::es).length)
  (hdb:NDb x:=by decide) (he:starEach (e::es) (envOfC qual scope s.heap.objs.size f cd)=(false,eval e (envOfC qual scope s.heap.objs.size f cd))::starEach es (envOfC qual scope s.heap.objs.size f cd):=by rfl) (hpl:(backTo pos (starEach es (envOfC qual scope s.heap.objs.size f cd))).any (·.1)=false:=by rfl):
  QXe (iW (CXn P w base C) P w K mg base N qual scope f cd A outer s H E) κ φ (E (.ref C) none) (.Call (.Name x p) (e::es) [] pos) (zl2 g ga):=
 (yq0 (X:=iW (CXn P w base C) P w K mg base N qual scope f cd A outer s H E) G hr hg Dd.m Dd.F.kp Dd.b .nil wq4 (PA.nox ha) hdb he hpl).imp fun σ H0 Q hh_=>by
  obtain⟨ps,F,R,e,q⟩:=hh_
  unfold zl2 at e
  split at e
  ·rename_i ds e1
   refine⟨ps,ds,R.ws,e1,fun vs H1 fp s1 r1=> ?_⟩
   show zd7 np K κ C g (vs++[]) H1 Q E
   rw [Zi]
   exact⟨by rw [r1.length,hlen ps ds e1,hnp],ds,fp,r1,e,fun H' s2=>q H' ⟨fun a o h kk _=>(s1.trans s2).keep a o h kk,(s1.trans s2).grow⟩⟩
  ·cases e
end
theorem yx6:fillsNumberSlot (.type "tuple") "mul"=pure false:=PySem.fillsNumberSlot_seq (id:="tuple.__mul__") (r:=some (.builtin "tuple.__rmul__")) X3.lookup (by decide+kernel) XY.lookup (by decide+kernel)
theorem yx7:seqRepeat? (.type "tuple")=pure (some (.builtin "tuple.__mul__")):=by
 unfold seqRepeat?;rw [PySem.seqSlot_of (T:="tuple") (name:="__mul__") (id:="tuple.__mul__") X3.lookup (by decide+kernel),PySem.seqSlot_of (T:="tuple") (name:="__rmul__") (id:="tuple.__rmul__") XY.lookup (by decide+kernel)];rfl
theorem xs2(a:Int)(t:Tok)(l:Addr)(items:Array Value)(n:Nat)(dd:Option Addr)(sl:Array (Option Value)):
  Meets (Builtin.«int.__rmul__» ⟨[.int a t,.ref l],[]⟩) (fun _ R s=>s.heap.get? l=some {cls:= .type "tuple",dict:=dd,data:= .seq items n,slots:=sl}/\R (.ok (.ret Value.notImplemented)) s):=
 .of_wp fun prog w A R s h=>by
  obtain⟨hp,g,d,tk,os⟩:=s
  obtain⟨hl,h⟩:=h
  wp_walk
  exact⟨_,rfl,h⟩
theorem xs3(its:List Value)(m:Nat):List.foldl (fun x1 x2=>x1++x2) #[] (List.replicate m its.toArray)=(List.replicate m its).flatten.toArray:=by
 have:=zw9 its m []
 rwa [ZR] at this
theorem wd2(l:Addr)(its:List Value)(n:Nat)(x:Int)(u:Tok)(dd:Option Addr)(sl:Array (Option Value))(h0:2<=x)(h1:x<=1000)(h2:its≠[])(h3:its.length<=1000):
  Meets (Builtin.«tuple.__mul__» ⟨[.ref l,.int x u],[]⟩) (fun _ R s=>s.heap.get? l=some {cls:= .type "tuple",dict:=dd,data:= .seq its.toArray n,slots:=sl}/\R (.ok (.ret (.ref s.heap.objs.size))) {s with heap:=s.heap.push {cls:= .type "tuple",data:= .seq (List.replicate x.toNat its).flatten.toArray}}):=
 .of_wp fun prog w A R s h=>by
  obtain⟨hp,g,d,tk,os⟩:=s
  obtain⟨hl,h⟩:=h
  have hz:its.toArray.size<=1000:=h3
  have hem:its.toArray.isEmpty=false:=by cases its with|nil=>exact absurd rfl h2|cons a b=>rfl
  wp_walk
  rw [if_neg (by simp only [Bool.or_eq_true,ZK];omega)]
  wp_walk
  have hb:(its.toArray.size:Int)*x<=1000*1000:=Int.mul_le_mul (by omega) h1 (by omega) (by omega)
  have x1:(x==1)=false:=by simp;omega
  have x2:(decide (x<=0))=false:=by simp;omega
  rw [hem,x1,x2]
  simp only [Bool.or_self,ZQ,Ym]
  rw [if_neg (by omega),if_neg (by unfold Builtin.Tuple.tupleTooMany;rw [ZK,ZP];omega)]
  wp_walk
  rw [xs3]
  have hs:((List.replicate x.toNat its).flatten.toArray).size<=sizeLine:=by
   rw [Zl,yq1,ZP]
   have:x.toNat*its.length<=1000*1000:=Nat.mul_le_mul (by omega) h3
   omega
  rw [if_neg (by omega)]
  wp_walk
  exact⟨_,rfl,h⟩
def zh4:D->D->Option D
 | .tup (d::ds),.int k=>if 2<=k/\k<=1000/\ds.length<1000 then some (.tup (List.replicate k.toNat (d::ds)).flatten) else none
 |_,_=>none
theorem xh1{X:Cx}{κ:tz9}:OpR X (binaryOp .Mult) (POp X.K κ zh4):=⟨by
 rintro pins s σ H x y v u Q I rx ry ⟨dx,dy,d,fx,fy,r1,r2,e,q⟩
 unfold zh4 at e
 split at e
 ·rename_i d0 ds k
  obtain⟨⟨k0,k1,k2⟩,e⟩:=cC e
  cases e
  obtain⟨a,vs,rfl,h1,s1⟩:=r1.tup_inv
  obtain rfl:=r2.is_int
  cases rx
  obtain⟨t,rfl⟩:=ry
  obtain⟨its,rv,p,_⟩:=I.tuple h1
  obtain⟨⟨cls,dd,data,sl⟩,ho,hc,n,hd⟩:=id p
  simp only at hc hd
  subst hc hd
  have ln:its.length=ds.length+1:=by rw [<-rv.length,s1.length];rfl
  refine wpAny_binaryOp_repeat_ref (T:="tuple") (U:="int") (by decide) ⟨_,ho,rfl⟩ (fun s'=>typeIs_int s' k t) yx6 PySem.F.fills_int_mul Wd yx7 PySem.F.slot_int_index.lookup
   (YV Wd (typeIs_int s k t) PySem.F.entry_int_rmul (PySem.F.args_int_rmul_2 _ _) (xs2 k t a its.toArray n dd sl)
    ⟨ho,rfl,⟨_,ho,rfl⟩,YV X3 ⟨_,ho,rfl⟩ PySem.F.entry_tuple_mul (PySem.F.args_tuple_mul_2 _ _) (wd2 a its n k t dd sl k0 k1 (fun z=>by rw [z] at ln;simp at ln) (by omega)) ⟨ho,?_⟩⟩)
  have hz:(List.replicate k.toNat vs).flatten.length<=sizeLine:=by
   rw [yq1,ZP]
   have:k.toNat*vs.length<=1000*1000:=Nat.mul_le_mul (by omega) (by rw [s1.length];simp;omega)
   omega
  exact⟨.ref _,_,I.laid (t':=s.toks) (o:= .tup (List.replicate k.toNat vs).flatten) (fun b ob z=>Zf _ z) (Z7 _) ⟨hz,(List.replicate k.toNat its).flatten,rv.rep k.toNat,⟨_,Zw _ rfl,rfl,0,rfl⟩⟩,rfl,zf7 I.fresh (Paired.repl s1.nilp _) q⟩
 ·cases e⟩
def zq3(g:List D->Bool)(fa:tz3)(f:tz1):tz1:=fun ps=>(fa ps).bind fun ds=>if g ds=true then some (.ret .non,ps) else f ps
section
variable{X:Cx}{C:Addr}{pins:tzB}{σ:St}{H1:Hp}{s1 s2:Shared}{D:Ends}{E1:XK}{e:Value}
theorem wd3(I:Inv X pins σ H1 s1)(hstk:X.stack=X.env::X.outer)(hf:X.env.frame=some X.env.locals)(O:OwnCls x C bmB newId X.mg X.base)(hbase:bmB.contains (.type "BaseException")=true)(hg:Gl X x)
  (h:CXn X.prog X.w X.base C X.stack H1 s1 E1 e s2) (q:∀dd H',E1 (.ref C) dd H'->D.rt .non H') (hd:NDb x:=by decide):
  wpAny (model X.prog X.w) X.A (noteFrame e X.env) (fun _ s3=>wpAny (model X.prog X.w) X.A (setFlight e none) (fun _ s4=>wpAny (model X.prog X.w) X.A (handleBy e X.env [.ExceptHandler (some (.Name x np)) none [.Return (some (.Constant .none j p3)) p4] p5]) (SP X pins D) E s4) E s3) E s2:=by
 obtain⟨ea,T,a0,dx,H2,rfl,os,bare,un,hok,fly,kd,q0⟩:=h
 rw [hstk] at un fly
 have hfr:X.A.frames=some (X.env::X.outer):=by rw [<-hstk];exact I.ok.frames
 refine wpAny_looks_onW (L:=X.env.locals) hfr hf fly.flying fun h4 held4 ups4=> ?_
 refine wpAny_landsW held4 fun h5 held ups5=> ?_
 have kp5:∀b o,X.base.get? b=some o->h5.get? b=some o:=fun b o z=>held.1 b o (fly.base_in b o z)
 obtain⟨ob,hob,hobc⟩:=held.there
 obtain⟨bm,N,nm,qn,bs,hdct,sn,sub,ab,col,dd,k0,k1,k2,k3,k5,mN,hC,hN,hni,TL⟩:=(O.keeps kp5).obj
 refine wpAny_handleBy_cons (codeAny_handlers_test (YR I.ok.kind hg (Wu (by rw [I.ok.glob];exact I.ok.mod.glob.keeps kp5) O.bound ?_) hd)) (by intro q;cases q)
 refine wpAny_excMatches_sub_self hC hob hobc (TL.hasType hbase) (codeAny_handlers_suite ?_)
 refine lands_againW held fun h6 fl6 ups6=> ?_
 refine Xc (wpAny_Return_some (Constant_none ?_))
 have ups:s2.heap.UpToSlots h6:=(ups4.trans ups5).trans ups6
 have st:(PySem.W.hideAll s2.heap ([ea,T]++frs (X.env::X.outer))).StaysIn h6:=fl6.1
 have stk:∀b∈frs (X.env::X.outer),H2 b=none:=fun b m=>by
  have m':b∈frs X.stack:=by rw [hstk];exact m
  obtain⟨_,o,q1,_⟩:=I.stack.mem m'
  exact un.free b o q1 (I.stkFree b m') (by simp)
 have u2:=un.mono (fs':=frs (X.env::X.outer)) (ex':=[ea,T]) (fun b m=>m) (fun b m=>absurd m (by simp))
 have u3:Un (frs (X.env::X.outer)) [ea,T] H2 H2 s2.heap h6:=zt3 fly.fr ups st
 have ce:CE X.stack X.prog X.w H1 s1 D.rt .none {s2 with heap:=h6}:=by
  rw [hstk]
  refine⟨.non,H2,os,bare,zt4 (u2.trans u3) (fun b o z m=> ?_) (fun _ _ _ m=>m),zj6 hok (fun b m=> ?_) stk st,rfl,q dx H2 q0⟩
  ·rcases Z5.mp m with y|m
   ·rw [y,fly.ne] at z;cases z
   ·rw [Zg.mp m,fly.nT] at z;cases z
  ·rcases Z5.mp m with z|m
   ·rw [z];exact fly.He
   ·rw [Zg.mp m];exact fly.HT
 obtain⟨v,H',I',r,qv⟩:=I.after ce
 exact⟨v,σ,H',I',r,qv⟩
end
section
variable{X:Cx}{C:Addr}{κ:tz9}{φ:F0}
theorem wd4{x cx y:Str}{st:Stmt}{ps:List Str}{fa:Addr}{fd:FuncData}{k np:Nat}{g:List D->Bool}{e:Expr}{es:List Expr}{ga:tz3}{f:tz1}{p pos pos2 py np' p3 p4 p5 pos6:Pos}{j:Nat}{bmB:List Value}{newId:String}
  (Dd:Dn X.K X.mg x st ps fa fd) (G:FnOk X.prog X.w X.K X.mg X.base (CXn X.prog X.w X.base C) k fa fd ps (zd7 np X.K κ C g)) (O:OwnCls cx C bmB newId X.mg X.base) (hbase:bmB.contains (.type "BaseException")=true) (hr:Room k X.A) (hg:Gl X x) (hgc:Gl X cx) (hnp:(e::es).length=np) (ha:QVA X.nox κ (e::es) ga) (hlen:∀ps ds,ga ps=some ds->ds.length=(e::es).length)
  (hA:QSs X.nox κ φ [.Assign [.Name y py] (.Call (.Name x p) (e::es) [] pos) pos2] f) (hstk:X.stack=X.env::X.outer) (hf:X.env.frame=some X.env.locals)
  (hdb:NDb x:=by decide) (hdc:NDb cx:=by decide) (he:StE e es X:=by rfl) (hpl:BkE pos es X:=by rfl)
  (hs:swapsWith (.Call (.Name x p) (e::es) [] pos) (some (.Name y py)) pos2.line X.env=pure false:=by rfl):
  QS X.nox κ φ (.Try [.Assign [.Name y py] (.Call (.Name x p) (e::es) [] pos) pos2] [.ExceptHandler (some (.Name cx np')) none [.Return (some (.Constant .none j p3)) p4] p5] [] [] pos6) (zq3 g ga f):=⟨by
 intro pins s σ H D I hh_
 obtain⟨pp,F,fl,ps',R,e1,q⟩:=hh_
 obtain⟨ds,e2,e3⟩:=bind_some e1
 have J:Inv X pins σ H s:=I.unwish
 refine wpAny_Try_except ?_
 by_cases hgd:g ds=true
 ·rw [if_pos hgd] at e3
  cases e3
  show wpAny (model X.prog X.w) X.A (execs [.Assign [.Name y py] (.Call (.Name x p) (e::es) [] pos) pos2] X.env) _ _ s
  refine Xc (wpAny_Assign_Name ?_ hs)
  refine Y6 (tZ J hg Dd.m ?_ hdb)
  refine Yr (h₀:=X.base) J.ok.mod.kin Dd.F.kp (ZW (ha pos pins s σ H (fun vs H1=>SameK H H1/\∃fp,Reps X.K κ H1 vs ds fp) I ⟨pp,ds,R.ws,e2,fun vs H1 fp s1 r1=>⟨s1,fp,r1⟩⟩) (fun us s1 hu=> ?_) fun _ _ z=>z.elim) he hpl
  obtain⟨vs,H1,I1,r,sm,fp,rs⟩:=hu
  have J1:Inv X pins σ H1 s1:=I1.unwish
  refine⟨J1.kIn,?_⟩
  have hl:vs.length=np:=by rw [rs.length,hlen pp ds e2,hnp]
  have hps:ps.length=np:=(G.len vs H1 (fun _ _=>False) (fun _ _ _=>True) ⟨hl,ds,fp,rs,hgd,fun _ _=>trivial⟩).symm.trans hl
  have hlu:(us++([]:List Value)).length=ps.length:=by rw [Zi,hps,<-hl,r.length]
  refine wpAny_call (Xg (G.run X.A X.stack s1 H1 ⟨us,[]⟩ us vs (fun _ _=>False) (fun _ _ H'=>D.rt .non H') hr J1.env0 (by have:=Dd.b s1 us J1.kIn hlu;rwa [Zi] at this) r ⟨hl,ds,fp,rs,hgd,fun H' s2=> ?_⟩) fun rr s' hq=> ?_)
  ·exact q .non σ H' F [] (Stp.same R (sm.trans s2)) (OwnV.new R (fun _ h=>absurd h (by simp)) Zn) .non
  ·cases rr with
   |error ee=>exact wd3 (X:=X.nox) (D:=D) (E1:=fun _ _ H'=>D.rt .non H') I1 hstk hf O hbase hgc hq (fun dd H' z=>z) hdc
   |ok f2=>
    cases f2 with
    |ret u=>obtain⟨_,_,_,_,_,_,_,z⟩:=hq;exact z.elim
    |next=>exact hq.elim
    |brk=>exact hq.elim
    |cont=>exact hq.elim
 ·rw [if_neg hgd] at e3
  refine ZW (hA pins s σ H D I ⟨pp,F,fl,ps',R,e3,q⟩) (fun fw s' hq=> ?_) fun _ _ z=>z.elim
  cases fw with
  |next=>exact YL hq
  |brk=>exact hq
  |cont=>exact hq
  |ret u=>exact hq⟩
end
section
open PySem.SeqAt
open PySem.AutoSeq1 (wpAny_loadPart')
open PySem.MeetsSeq PySem.MeetsSeq2 PySem.MeetsSeq3
end
theorem aZ{X:Cx}{κ:tz9}{φ:F0}(i:Nat){x:Str}{e:Expr}{pos pos':Pos}{f:tz2}(hN:X.N.Nodup)(he:QP X κ e f)(hi:X.N[i]? =some x:=by exact rfl)(hx:Loc X.env.scope x:=by first|exact Or.inl rfl|exact Or.inr rfl)(hb:φ.bor i=false:=by exact rfl)(hm:φ.M i=false:=by exact rfl)
  (hs:swapsWith e (some (.Name x pos')) pos.line X.env=pure false:=by exact rfl) (hf:X.fn x=true\/X.env.scope.names.lookup x=some .local:=by first|exact .inl rfl|exact .inr rfl):QS X κ φ (.Assign [.Name x pos'] e pos) (aU i (aI f)):=rT i hN hi hx hb hm (QP.e he) hs hf
theorem qO{φ:F0}(k:Nat)(h:φ.bor k=false:=by exact rfl):∀j∈([k]:List Nat),φ.bor j=false:=fun j hj=>by rw [Zg.mp hj];exact h
theorem nd1(k:Nat):([k]:List Nat).Nodup:=by simp
end L2
namespace L3
open PySem PySem.Spec PyProof.Rows L2
def top(i:Nat):Stmt:=PySem.Challenge.pw_linepress_k22_whole_best.main.body.getD i (.Pass ⟨0,0,0,0⟩)
end L3
namespace My
open PySem PySem.Spec PyProof.Rows L2 L3
variable{P:Program}{w:World}{K:tz0}{mg:tzA}{base:Heap}{κ:tz9}
theorem cK{N ps:List Str}{sc:Scope}(a:sc.kind= .function:=by rfl)(b:sc.isCoroutine=false:=by rfl)(c:sc.isGenerator=false:=by rfl)(d:N.Nodup:=by decide+kernel)(e:N.take ps.length=ps:=by rfl)(f:∀x∈ps,sc.names.lookup x=some .local\/sc.names.lookup x=some .cell:=by decide+kernel)(g:∀y∈sc.names,y.2≠ .free:=by decide+kernel):FnScope N ps sc:=⟨a,b,c,d,e,f,g⟩
inductive Leaf where
 |word (x:Str)|gap (x:Str)|stop (c:Int)|fin
inductive Tk where
 |leaf (l:Leaf)|opn|cls|hng (n:Int)|bck|eit|orr|don
inductive Pc where
 |leaf (l:Leaf)|group (r:List Pc)|hang (n:Int) (r:List Pc)|either (rs:List (List Pc))
mutual
def cU:Pc->List Tk
 | .leaf l=>[.leaf l]
 | .group r=> .opn::(toksR r++[.cls])
 | .hang n r=> .hng n::(toksR r++[.bck])
 | .either rs=> .eit::(toksRows rs++[.don])
def toksR:List Pc->List Tk
 |[]=>[]
 |p::r=>cU p++toksR r
def toksRows:List (List Pc)->List Tk
 |[]=>[]
 |r::rs=>toksR r++toksMore rs
def toksMore:List (List Pc)->List Tk
 |[]=>[]
 |r::rs=> .orr::(toksR r++toksMore rs)
end
theorem mD:∀r s:List Pc,toksR (r++s)=toksR r++toksR s
 |[],s=>rfl
 |p::r,s=>by
  show cU p++toksR (r++s)=(cU p++toksR r)++toksR s
  rw [mD r s,Zh]
theorem zb5(p:Pc):toksR [p]=cU p:=by
 show cU p++[]=cU p
 rw [Zi]
mutual
def dJ:Pc->Nat
 | .leaf _=>0
 | .group r=>depR r+1
 | .hang _ r=>depR r+1
 | .either rs=>depRs rs+1
def depR:List Pc->Nat
 |[]=>0
 |p::r=>max (dJ p) (depR r)
def depRs:List (List Pc)->Nat
 |[]=>0
 |r::rs=>max (depR r) (depRs rs)
end
theorem rV:∀(r:List Pc) (p:Pc),depR (r++[p])=max (depR r) (dJ p)
 |[],p=>by
  exact Nat.max_comm (dJ p) 0
 |q::r,p=>by
  show max (dJ q) (depR (r++[p]))=max (max (dJ q) (depR r)) (dJ p)
  rw [rV r p,Nat.max_assoc]
theorem yD:∀(rs:List (List Pc)) (r:List Pc),depRs (rs++[r])=max (depRs rs) (depR r)
 |[],r=>by
  exact Nat.max_comm (depR r) 0
 |q::rs,r=>by
  show max (depR q) (depRs (rs++[r]))=max (max (depR q) (depRs rs)) (depR r)
  rw [yD rs r,Nat.max_assoc]
def zh5(c:Nat):Bool:=decide (33<=c)&&decide (c<=126)
def ym7(z:Str):Prop:=1<=z.length/\z.length<=12/\z.cps.toList.all zh5=true
def eV:Leaf->Prop
 | .word x=>ym7 x
 | .gap x=>x=""\/x=" "
 | .stop c=>0<=c/\c<=40
 | .fin=>True
end My
namespace My
open PySem PySem.Spec PyProof.Rows L2 L3
variable{P:Program}{w:World}{K:tz0}{mg:tzA}{base:Heap}{κ:tz9}
def sJ(ns:List Int)(k:Int):Int:=ns.getD (k % (ns.length:Int)).toNat 0
def zq4(ns:List Int)(k:Int):Int:=k/(if (ns.length:Int)>1 then(ns.length:Int) else 1)
def wo5(ns:List Int)(k salt:Int):Int:=PySem.Builtin.bitAnd (sJ ns k) 2147483647+1009*k*k+7919*salt*salt+12
def zh6(ns:List Int)(k salt:Int):Int:=wo5 ns k salt*48271 % 2147483647
def xy9(ns:List Int)(k salt:Int):Int:=zh6 ns k salt*zh6 ns k salt % 2147483629
def zH(ns:List Int)(k salt:Int):Int:=PySem.Builtin.bitAnd (sJ ns k/2^(31*(salt+128*zq4 ns k)).toNat+xy9 ns k salt) 2147483647
theorem yo5(ns:List Int)(k salt:Int):0<=zH ns k salt/\zH ns k salt<2147483648:=by
 have e:zH ns k salt=(sJ ns k/2^(31*(salt+128*zq4 ns k)).toNat+xy9 ns k salt) % 2147483648:=PySem.W.kbt_mask _ 31
 rw [e]
 exact⟨Zv _ (by decide),Zs _ (by decide)⟩
def ym8(K:tz0):Sp:=fun vs H Q _=>∃(a:Addr) (ns:List Int) (k:Int),vs=[.ref a,.int k]/\SqL K H a (ns.map V.int)/\Q (.int (sJ ns k)) H
def yu2(K:tz0):Sp:=fun vs H Q _=>∃(a:Addr) (ns:List Int) (k salt:Int),vs=[.ref a,.int k,.int salt]/\SqL K H a (ns.map V.int)/\ns.length<=63/\(0<=k/\k<1000000)/\(0<=salt/\salt<1000000)/\Q (.int (zH ns k salt)) H
abbrev mL:Stmt:=top 36
abbrev vB:List Str:=["_law_script","_law_k"]
theorem zb6:FnScope ["_law_script","_law_k"] vB (aW mL):=cK
theorem yi1{n:Nat}{f:Addr}{fd:FuncData}(D:Dn K mg "_law_cell_at" mL ["_law_script","_law_k"] f fd)(ac:mg "len"=none):
  FnOk P w K mg base CX0 (n+1) f fd ["_law_script","_law_k"] (ym8 K):=by
 refine D.F.ok zb6 (fun vs H Q E h=> ?_) (fun cdv A outer s H vs Q E hr h=> ?_)
 ·obtain⟨a,ns,k,rfl,_⟩:=h
  rfl
 obtain⟨a,ns,k,rfl,hS,q⟩:=h
 refine⟨_,(lX (yu3 (yp7 yu8 (uL jZ rfl ac ZO (gL (pv 0) pE)) iS (bN _)) (zf3 (za7 iS)) yp1)
  (zf3 (za7 (yc8 zs0 (pv 0) (gO zl6 (pv 1) (uL jZ rfl ac ZO (gL (pv 0) pE))) (fun _ _=>rfl))))),?_⟩
 have hl:(ns.map V.int).length=ns.length:=Zd _
 refine⟨_,rfl,a,_,rfl,.inl hS,rfl,_,rfl,?_⟩
 refine wt3 (fun c=> ?_) (fun c=> ?_)
 ·have e:(((ns.map V.int).length:Nat):Int)=0:=by simpa using c
  have e':ns=[]:=by
   rw [hl] at e
   exact XB (by omega)
  subst e'
  exact q
 ·have e:¬(((ns.map V.int).length:Nat):Int)=0:=by simpa using c
  rw [hl] at e
  have hp:(0:Int)<((ns.map V.int).length:Nat):=by rw [hl];omega
  refine⟨_,rfl,_,rfl,_,rfl,a,_,rfl,.inl hS,_,_,rfl,rfl,hp,a,_,_,_,rfl,rfl,hS,?_,q⟩
  rw [hl]
  have h0:=Zv k e
  have h1:=Zs k (show(0:Int)<ns.length by omega)
  have ek:k % (ns.length:Int)=(((k % (ns.length:Int)).toNat:Nat):Int):=by omega
  rw [ek]
  refine zr9 ?_
  rw [Zc,Zo (by omega)]
  unfold sJ
  rw [YK,Zo (by omega)]
  rfl
abbrev gQ:Stmt:=top 37
abbrev eJ:List Str:=["_law_script","_law_k","_law_salt"]
theorem kS:FnScope ["_law_script","_law_k","_law_salt","_law_cell","_law_lap","_law_near"] eJ (aW gQ):=cK
theorem yx8{n:Nat}{f f1:Addr}{fd fd1:FuncData}(D:Dn K mg "_law_mixed" gQ ["_law_script","_law_k","_law_salt"] f fd)(ez:Dn K mg "_law_cell_at" mL ["_law_script","_law_k"] f1 fd1)
  (jo:FnOk P w K mg base CX0 n f1 fd1 ["_law_script","_law_k"] (ym8 K)) (ac:mg "len"=none) (oo:mg "max"=none):
  FnOk P w K mg base CX0 (n+1) f fd ["_law_script","_law_k","_law_salt"] (yu2 K):=by
 refine D.F.ok kS (fun vs H Q E h=> ?_) (fun cdv A outer s H vs Q E hr h=> ?_)
 ·obtain⟨a,ns,k,salt,rfl,_⟩:=h
  rfl
 obtain⟨a,ns,k,salt,rfl,hS,h63,⟨hk0,hk1⟩,⟨hs0,hs1⟩,q⟩:=h
 refine⟨_,(lX (rQ (i:=3) kS.nd rfl (.inl rfl) (yv8 ez jo hr rfl (gL (pv 0) (gL (pv 1) pE))))
  (lX (rQ (i:=4) kS.nd rfl (.inl rfl) (gO yp2 (pv 1) (uL (zw2 rfl) rfl oo boot_max (gL iS (gL (uL jZ rfl ac ZO (gL (pv 0) pE)) pE)))))
  (lX (rQ (i:=5) kS.nd rfl (.inl rfl) (gO wW (gO wW (gO wW (gO xc7 (pv 3) iS) (gO pD (gO pD iS (pv 1)) (pv 1))) (gO pD (gO pD iS (pv 2)) (pv 2))) iS))
  (lX (rQ (i:=5) kS.nd rfl (.inl rfl) (gO zl6 (gO pD (pv 5) iS) iS))
  (lX (rQ (i:=5) kS.nd rfl (.inl rfl) (gO zl6 (gO pD (pv 5) (pv 5)) iS))
  (zf3 (za7 (gO xc7 (gO wW (gO wh0 (pv 3) (gO pD iS (gO wW (pv 2) (gO pD iS (pv 4))))) (pv 5)) iS)))))))),?_⟩
 have hl:(ns.map V.int).length=ns.length:=Zd _
 have hlap:0<=zq4 ns k:=by unfold zq4;exact XG hk0 (by split<;>omega)
 have hn1:0<=zh6 ns k salt/\zh6 ns k salt<2147483647:=⟨Zv _ (by decide),Zs _ (by decide)⟩
 refine⟨_,rfl,_,rfl,a,ns,k,rfl,hS,?_⟩
 refine⟨_,rfl,_,rfl,a,_,rfl,.inl hS,_,_,rfl,_,_,rfl,rfl,?_,?_⟩
 ·rw [hl];constructor
  ·split<;>omega
  ·split<;>omega
 rw [hl]
 refine⟨_,rfl,_,_,rfl,rfl,_,rfl,_,_,rfl,rfl,.inl ⟨by decide,by decide⟩,_,rfl,_,_,rfl,rfl,.inr ⟨by omega,by omega⟩,_,_,rfl,rfl,_,rfl,_,_,rfl,rfl,.inl ⟨by decide,by decide⟩,_,rfl,_,_,rfl,rfl,.inr ⟨by omega,by omega⟩,_,_,rfl,rfl,_,_,rfl,rfl,?_⟩
 refine⟨_,rfl,_,_,rfl,rfl,.inr ⟨by decide,by decide⟩,_,_,rfl,rfl,(by show(0:Int)<2147483647;decide),?_⟩
 refine⟨_,rfl,_,rfl,_,_,rfl,rfl,.inl ⟨by show-(2^64)<zh6 ns k salt;omega,by show zh6 ns k salt<2^64;omega⟩,_,_,rfl,rfl,(by show(0:Int)<2147483629;decide),?_⟩
 refine⟨_,rfl,_,rfl,_,rfl,_,_,rfl,rfl,.inl ⟨by decide,by decide⟩,_,_,rfl,rfl,_,_,rfl,rfl,.inl ⟨by decide,by decide⟩,_,_,rfl,rfl,?_,_,rfl,_,_,rfl,rfl,_,_,rfl,rfl,q⟩
 show 0<=31*(salt+128*zq4 ns k)
 omega
end My
namespace L3
open PySem PySem.Spec PyProof.Rows L2 My
variable{P:Program}{w:World}{K:tz0}{mg:tzA}{base:Heap}{κ:tz9}
def vC(c5:(tz7)):tz1:=
 (bX (aI (nV (fA "Place" (cJ [.im (fC (.bl true)),.im (fC (.int 0))]) c5))))
abbrev iY:Stmt:=top 7
abbrev fQ:List Str:=[]
theorem uS:FnScope [] fQ (aW iY):=cK
theorem zj8(a7:Dn K mg "first_place" iY fQ f fd)
  (ic:Kn K mg κ "Place" "Place.__init__" st_Place_init ps_Place_init kc jq) (dt:FnOk P w K mg base CX0 n kc jq ps_Place_init (SpE 3 K κ (bI [true,false,false]) c5)):
  FnOk P w K mg base CX0 ((n+1)+1) f fd fQ (SpP 0 K κ (gP 0 0 (vC c5))):=
 cP a7.F uS fun cdv A outer s H E B hr=>
 (aM (bQ (QP.e (zn0 (nG ic dt hr rfl (bJ (QP.v jI) (bJ (QP.v aH) dD)) rfl rfl (dN 2))))))
def vX:tz1:=
 (bX (aI (f2 dIn (f2 dIx (aB 0) (fC (.int 0))) (fC (.tup [(.str "group"),(.str "hang"),(.str "either")])))))
abbrev jN:Stmt:=top 8
abbrev fZ:List Str:=["piece"]
theorem vM:FnScope ["piece"] fZ (aW jN):=cK
theorem zn3(bd:Dn K mg "holds_rows" jN fZ f fd)
  (pq:mg "HOLDERS"=some (.ref lr)) (pr:∀H,Rep K κ H (.ref lr) (.tup [(.str "group"),(.str "hang"),(.str "either")]) []):
  FnOk P w K mg base CX0 (n+1) f fd fZ (SpP 1 K κ (gP 1 0 (vX))):=
 cP bd.F vM fun cdv A outer s H E B hr=>
 (aM (bQ (QP.e (wY wt4 (bL (aC 0) (QP.v aH)) (QP.v (wb1 (v:= .ref lr) (d:=(.tup [(.str "group"),(.str "hang"),(.str "either")])) rfl pq rfl pr)) (by with_unfolding_all rfl)))))
def tG:tz1:=
 (bX (aI (fOr (f2 dEq (f2 dIx (aB 0) (fC (.int 0))) (fC (.str "either"))) (zd5 (f2 dEq (f2 dIx (aB 0) (fC (.int 0))) (fC (.str "group"))) (bB (cQ "Place" "broken" (aB 1)))))))
abbrev iI:Stmt:=top 9
abbrev fF:List Str:=["piece","place"]
theorem tF:FnScope ["piece","place"] fF (aW iI):=cK
theorem zh9(av:Dn K mg "takes_choice" iI fF f fd)
  (az:Cls K (κ "Place"))
  (bq:cN K (κ "Place") "broken"):
  FnOk P w K mg base CX0 (n+1) f fd fF (SpP 2 K κ (gP 2 0 (tG))):=
 cP av.F tF fun cdv A outer s H E B hr=>
 (aM (bQ (QP.e (wp8 (wY (gG (Room.units hr)) (bL (aC 0) (QP.v aH)) (QP.v bP) (bN _)) (xe9 (wj0 (wY (gG (Room.units hr)) (bL (aC 0) (QP.v aH)) (QP.v bP) (bN _)) (xe9 (QV.p (dH (C:="Place") az bq (aC 1))))))))))
def mM(c5:(tz7)):tz1:=
 (aT (aU 2 (aI (bB (f2 dIx (aB 0) (fC (.int 0))))))
 (aT (fIf (aV (fB (f2 dEq (aB 2) (fC (.str "hang")))))
  (bX (aI (cZ (aA (bG (aA (bB (f2 dIx (aB 0) (fC (.int 2)))) (aA (nV (fA "Place" (cJ [.im (cQ "Place" "broken" (aB 1)),.im (f2 cD (cQ "Place" "margin" (aB 1)) (f2 dIx (aB 0) (fC (.int 1))))]) c5)) aE))) aE))))
  bH)
 (aT (fIf (aV (fB (f2 dEq (aB 2) (fC (.str "either")))))
  (bX (aI (iL [none,some 1] (eC (f2 dIx (aB 0) (fC (.int 1)))) gW (bG (aA (bB (aB 0)) (aA (bB (aB 1)) aE))))))
  bH)
 (aT (aU 3 (aI (bG (aA (bB (f2 dIx (aB 0) (fC (.int 1)))) (aA (nV (fA "Place" (cJ [.im (fC (.bl false)),.im (cQ "Place" "margin" (aB 1))]) c5)) aE)))))
 (aT (fIf (aV (fT (cQ "Place" "broken" (aB 1))))
  (bX (aI (cZ (aA (bB (aB 3)) (aA (bG (aA (bB (f2 dIx (aB 0) (fC (.int 1)))) (aA (bB (aB 1)) aE))) aE)))))
  bH)
 (bX (aI (cZ (aA (bB (aB 3)) aE)))))))))
abbrev pB:Stmt:=top 10
abbrev mO:List Str:=["piece","place"]
theorem vN:FnScope ["piece","place","kind","on_one_line"] mO (aW pB):=cK
theorem xh2(gn:Dn K mg "ways" pB mO f fd)
  (ic:Kn K mg κ "Place" "Place.__init__" st_Place_init ps_Place_init kc jq) (dt:FnOk P w K mg base CX0 n kc jq ps_Place_init (SpE 3 K κ (bI [true,false,false]) c5))
  (az:Cls K (κ "Place"))
  (bq:cN K (κ "Place") "broken")
  (dj:cN K (κ "Place") "margin"):
  FnOk P w K mg base CX0 ((n+1)+1) f fd mO (SpP 2 K κ (gP 2 2 (mM c5))):=
 cP gn.F vN fun cdv A outer s H E B hr=>
 (aL (aZ 2 vN.nd (QV.p (bL (aC 0) (QP.v aH))))
 (aL (cA (QT.e (bV (gG (Room.units hr)) (aC 2) (QP.v bP) (bN _)))
  (aM (bQ (QP.e (dW (aK (bY (aK (QV.p (bL (aC 0) (QP.v aH))) (aK (zn0 (nG ic dt hr rfl (bJ (dH (C:="Place") az bq (aC 1)) (bJ (QP.v (bC eK (dH (C:="Place") az dj (aC 1)) (bL (aC 0) (QP.v aH)))) dD)) rfl rfl (dN 2))) aX))) aX)))))
  bS)
 (aL (cA (QT.e (bV (gG (Room.units hr)) (aC 2) (QP.v bP) (bN _)))
  (aM (bQ (QP.e (uC (sc:=aW pB) (NX:=["piece","place","kind","on_one_line"]) (N:=["row","place"]) (pick:=[none,some 1]) ⟨rfl,by decide+kernel,by decide+kernel,by decide+kernel,by decide+kernel,by decide,rfl⟩ rfl rfl rfl (zm4 (bL (aC 0) (QP.v aH))) (fun _ _ _ _=>(gB (i:=0) (show(["row","place"]:List Str).Nodup by decide) rfl (by first|exact Or.inl rfl|exact Or.inr rfl))) (fun _ _ _ _=>uB) (fun _ _ _ _=>(bY (aK (QV.p (aC 0)) (aK (QV.p (aC 1)) aX))))))))
  bS)
 (aL (aZ 3 vN.nd (bY (aK (QV.p (bL (aC 0) (QP.v aH))) (aK (zn0 (nG ic dt hr rfl (bJ (QP.v jI) (bJ (dH (C:="Place") az dj (aC 1)) dD)) rfl rfl (dN 2))) aX))))
 (aL (cA (QT.e (gJ (dH (C:="Place") az bq (aC 1))))
  (aM (bQ (QP.e (dW (aK (QV.p (aC 3)) (aK (bY (aK (QV.p (bL (aC 0) (QP.v aH))) (aK (QV.p (aC 1)) aX))) aX))))))
  bS)
 (aM (bQ (QP.e (dW (aK (QV.p (aC 3)) aX))))))))))
def za1:tz1:=
 (bX (aI (f2 cD (fC (.str "\n")) (f2 iK (fC (.str " ")) (aB 0)))))
abbrev oK:Stmt:=top 11
abbrev lF:List Str:=["blanks"]
theorem zW:FnScope ["blanks"] lF (aW oK):=cK
theorem yc1(du:Dn K mg "new_line" oK lF f fd)
     :
  FnOk P w K mg base CX0 (n+1) f fd lF (SpP 1 K κ (gP 1 0 (za1))):=
 cP du.F zW fun cdv A outer s H E B hr=>
 (aM (bQ (QP.e (bC eK (QP.v bP) (QP.v (bC vK (QP.v bP) (aC 0)))))))
def pV(ke:(tz6)):tz1:=
 (aT (aU 3 (aI (bB (f2 dIx (aB 0) (fC (.int 0))))))
 (aT (fIf (aV (fB (f2 dEq (aB 3) (fC (.str "word")))))
  (bX (aI (bB (f2 dIx (aB 0) (fC (.int 1))))))
  bH)
 (aT (fIf (aV (dS (fB (f2 dEq (aB 3) (fC (.str "gap")))) (jE (fT (cQ "Place" "broken" (aB 1))))))
  (bX (aI (bB (f2 dIx (aB 0) (fC (.int 1))))))
  bH)
 (aT (fIf (aV (dS (fB (f2 dEq (aB 3) (fC (.str "stop")))) (fB (f2 dLe (aB 2) (f2 dIx (aB 0) (fC (.int 1)))))))
  (bX (aI (f2 iK (fC (.str " ")) (f2 jH (f2 dIx (aB 0) (fC (.int 1))) (aB 2)))))
  bH)
 (aT (fIf (aV (jE (fT (cQ "Place" "broken" (aB 1)))))
  (bX (aI (fC .non)))
  bH)
 (aT (fIf (aV (fB (f2 dEq (aB 3) (fC (.str "stop")))))
  (bX (aI (aG ke (aA (f2 dIx (aB 0) (fC (.int 1))) aE))))
  bH)
 (bX (aI (aG ke (aA (cQ "Place" "margin" (aB 1)) aE))))))))))
abbrev mP:Stmt:=top 12
abbrev iZ:List Str:=["piece","place","column"]
theorem uT:FnScope ["piece","place","column","kind"] iZ (aW mP):=cK
theorem yi2(cw:Dn K mg "writing" mP iZ f fd)
  (du:Dn K mg "new_line" oK lF pz o8) (kf:FnOk P w K mg base CX0 n pz o8 lF (SpP 1 K κ ke))
  (az:Cls K (κ "Place"))
  (bq:cN K (κ "Place") "broken")
  (dj:cN K (κ "Place") "margin"):
  FnOk P w K mg base CX0 (n+1) f fd iZ (SpP 3 K κ (gP 3 1 (pV ke))):=
 cP cw.F uT fun cdv A outer s H E B hr=>
 (aL (aZ 3 uT.nd (QV.p (bL (aC 0) (QP.v aH))))
 (aL (cA (QT.e (bV (gG (Room.units hr)) (aC 3) (QP.v bP) (bN _)))
  (aM (bQ (QP.e (QV.p (bL (aC 0) (QP.v aH))))))
  bS)
 (aL (cA (QT.e (oS (lE (bV (gG (Room.units hr)) (aC 3) (QP.v bP) (bN _)) (kB (rR (gJ (dH (C:="Place") az bq (aC 1))))))))
  (aM (bQ (QP.e (QV.p (bL (aC 0) (QP.v aH))))))
  bS)
 (aL (cA (QT.e (oS (lE (bV (gG (Room.units hr)) (aC 3) (QP.v bP) (bN _)) (kB (bV xq1 (aC 2) (bL (aC 0) (QP.v aH)) (bN _))))))
  (aM (bQ (QP.e (bC vK (QP.v bP) (QP.v (bC oH (bL (aC 0) (QP.v aH)) (aC 2)))))))
  bS)
 (aL (cA (QT.e (rR (gJ (dH (C:="Place") az bq (aC 1)))))
  (aM (bQ (QP.e kA)))
  bS)
 (aL (cA (QT.e (bV (gG (Room.units hr)) (aC 3) (QP.v bP) (bN _)))
  (aM (bQ (QP.e (bU du kf hr rfl rfl (aF (bL (aC 0) (QP.v aH)) aQ) (aJ bA)))))
  bS)
 (aM (bQ (QP.e (bU du kf hr rfl rfl (aF (dH (C:="Place") az dj (aC 1)) aQ) (aJ bA)))))))))))
def qW:tz1:=
 (bX (aI (fMt rJ (aB 0) (aA (fC (.str "\n")) aE))))
abbrev kG:Stmt:=top 13
abbrev gN:List Str:=["wrote"]
theorem xC:FnScope ["wrote"] gN (aW kG):=cK
theorem zt7(bx:Dn K mg "ends_line" kG gN f fd)
     :
  FnOk P w K mg base CX0 (n+1) f fd gN (SpP 1 K κ (gP 1 0 (qW))):=
 cP bx.F xC fun cdv A outer s H E B hr=>
 (aM (bQ (QP.e (zf9 PySem.F.slot_str_startswith PySem.F.type_str_startswith yh4 (aC 0) (aF (QP.v bP) aQ)))))
def eG(de:(tz6)):tz1:=
 (aT (fIf (aV (fT (aG de (aA (aB 1) aE))))
  (bX (aI (f2 jH (aG cM (aA (aB 1) aE)) (fC (.int 1)))))
  bH)
 (bX (aI (f2 cD (aB 0) (aG cM (aA (aB 1) aE))))))
abbrev gY:Stmt:=top 14
abbrev eW:List Str:=["column","wrote"]
theorem rW:FnScope ["column","wrote"] eW (aW gY):=cK
theorem zb7(aq:Dn K mg "column_behind" gY eW f fd)
  (bx:Dn K mg "ends_line" kG gN jr jg) (d8:FnOk P w K mg base CX0 n jr jg gN (SpP 1 K κ de))
  (ac:mg "len"=none):
  FnOk P w K mg base CX0 (n+1) f fd eW (SpP 2 K κ (gP 2 0 (eG de))):=
 cP aq.F rW fun cdv A outer s H E B hr=>
 (aL (cA (QT.e (gJ (QP.v (bU bx d8 hr rfl rfl (aF (aC 1) aQ) (aJ bA)))))
  (aM (bQ (QP.e (bC oH (QP.v (cY fV rfl ac ZO (aF (aC 1) aQ))) (QP.v aH)))))
  bS)
 (aM (bQ (QP.e (bC eK (aC 0) (QP.v (cY fV rfl ac ZO (aF (aC 1) aQ))))))))
def vD(ak:(tz7))(am:(tz7)):tz1:=
 (aT (aU 2 (aI (fA "Front" (cJ [.im (cQ "Front" "steps" (aB 0))]) ak)))
 (aT (eP 3 (xQ (bB (cQ "Front" "best" (aB 0))))
  (aT (aU 4 (aI (bB (f2 lO (cQ "Front" "best" (aB 0)) (aB 3)))))
 (cE (dA 2 bK (cJ [.im (aB 3),.im (bG (aA (bB (f2 dIx (aB 4) (fC (.int 0)))) (aA (f2 cD (f2 dIx (aB 4) (fC (.int 1))) (bG (aA (bB (aB 1)) aE))) aE)))]) (eD "Front" "add" am)))))
 (rH 2)))
abbrev kZ:Stmt:=top 17
abbrev jA:List Str:=["front","number"]
theorem iT:FnScope ["front","number","chosen","state","way"] jA (aW kZ):=cK
theorem zj9(c9:Dn K mg "with_choice" kZ jA f fd)
  (ci:Kn K mg κ "Front" "Front.__init__" st_Front_init ps_Front_init c6 cg) (ax:FnOk P w K mg base CX0 n c6 cg ps_Front_init (SpE 2 K κ (bI [true,false]) ak))
  (ao:Mn K κ "Front" "add" "Front.add" st_Front_add ps_Front_add dk c7) (bc:FnOk P w K mg base CX0 (n+1) dk c7 ps_Front_add (SpE 3 K κ (bI [true,false,false]) am))
  (ae:Cls K (κ "Front"))
  (aj:cN K (κ "Front") "best")
  (cj:cN K (κ "Front") "steps"):
  FnOk P w K mg base CX0 ((n+1)+1) f fd jA (SpP 2 K κ (gP 2 3 (vD ak am))):=
 cP c9.F iT fun cdv A outer s H E B hr=>
 (aL (aZ 2 iT.nd (nG ci ax hr rfl (bJ (dH (C:="Front") ae cj (aC 0)) dD) rfl rfl (dN 1)))
 (aL (nX 3 ZH rfl iT.nd rfl (.inl rfl) rfl rfl (zt6 (QV.p (dH (C:="Front") ae aj (aC 0))))
  (aL (aZ 4 iT.nd (QV.p (zg0 (zf6 hr) (dH (C:="Front") ae aj (aC 0)) (aC 3))))
 (aM (eA (lK ao bc hr rfl (bO 2) (bJ (aC 3) (bJ (QP.v (bY (aK (QV.p (bL (aC 4) (QP.v aH))) (aK (bC eK (bL (aC 4) (QP.v aH)) (QP.v (bY (aK (QV.p (aC 1)) aX)))) aX)))) dD)) rfl rfl (dN 2))))))
 (aM (oW 2 rfl))))
def tH(ak:(tz7))(df:(tz6))(am:(tz7)):tz1:=
 (aT (aU 3 (aI (fA "Front" (cJ [.im (cQ "Front" "steps" (aB 0))]) ak)))
 (aT (eP 4 (xQ (bB (cQ "Front" "best" (aB 0))))
  (aT (aU 5 (aI (bB (f2 lO (cQ "Front" "best" (aB 0)) (aB 4)))))
 (aT (aU 6 (aI (aG df (aA (sI "WithinWidth" "state_behind" (cQ "Front" "steps" (aB 0))) (aA (aB 4) (aA (f2 dIx (aB 5) (fC (.int 0))) (aA (aB 1) (aA (aB 2) aE))))))))
 (fIf (aV (fB (f2 nZ (aB 6) (fC .non))))
  (cE (dA 3 bK (cJ [.im (f2 dIx (aB 6) (fC (.int 0))),.im (bG (aA (bB (f2 dIx (aB 6) (fC (.int 1)))) (aA (bB (f2 dIx (aB 5) (fC (.int 1)))) aE)))]) (eD "Front" "add" am)))
  bH))))
 (rH 3)))
abbrev jV:Stmt:=top 18
abbrev iJ:List Str:=["front","piece","place"]
theorem gC:FnScope ["front","piece","place","behind","state","way","reached"] iJ (aW jV):=cK
theorem zi0(cm:Dn K mg "behind_plain" jV iJ f fd)
  (ci:Kn K mg κ "Front" "Front.__init__" st_Front_init ps_Front_init c6 cg) (ax:FnOk P w K mg base CX0 n c6 cg ps_Front_init (SpE 2 K κ (bI [true,false]) ak))
  (al:Mn K κ "WithinWidth" "state_behind" "WithinWidth.state_behind" st_WithinWidth_state_behind ps_WithinWidth_state_behind g9 gk) (dg:FnOk P w K mg base CX0 (n+1) g9 gk ps_WithinWidth_state_behind (SpP 5 K κ df))
  (ao:Mn K κ "Front" "add" "Front.add" st_Front_add ps_Front_add dk c7) (bc:FnOk P w K mg base CX0 (n+1) dk c7 ps_Front_add (SpE 3 K κ (bI [true,false,false]) am))
  (ae:Cls K (κ "Front"))
  (aj:cN K (κ "Front") "best")
  (cj:cN K (κ "Front") "steps"):
  FnOk P w K mg base CX0 ((n+1)+1) f fd iJ (SpP 3 K κ (gP 3 4 (tH ak df am))):=
 cP cm.F gC fun cdv A outer s H E B hr=>
 (aL (aZ 3 gC.nd (nG ci ax hr rfl (bJ (dH (C:="Front") ae cj (aC 0)) dD) rfl rfl (dN 1)))
 (aL (nX 4 ZH rfl gC.nd rfl (.inl rfl) rfl rfl (zt6 (QV.p (dH (C:="Front") ae aj (aC 0))))
  (aL (aZ 5 gC.nd (QV.p (zg0 (zf6 hr) (dH (C:="Front") ae aj (aC 0)) (aC 4))))
 (aL (aZ 6 gC.nd (yi0 al dg hr (dH (C:="Front") ae cj (aC 0)) rfl (aF (aC 4) (aF (bL (aC 5) (QP.v aH)) (aF (aC 1) (aF (aC 2) aQ)))) (aJ (aJ (aJ (aJ bA))))))
 (aM (cA (QT.e (bV zf8 (aC 6) (QP.v kA) (bN _)))
  (aM (eA (lK ao bc hr rfl (bO 3) (bJ (bL (aC 6) (QP.v aH)) (bJ (QP.v (bY (aK (QV.p (bL (aC 6) (QP.v aH))) (aK (QV.p (bL (aC 5) (QP.v aH))) aX)))) dD)) rfl rfl (dN 2))))
  bS)))))
 (aM (oW 3 rfl))))
def sK(ak:(tz7))(ju:(tz6))(bz:(tz6))(kg:(tz6))(kh:(tz7))(cp:(tz6)):tz1:=
 (aT (aU 3 (aI (fA "Front" (cJ [.im (cQ "Front" "steps" (aB 0))]) ak)))
 (aT (yd9 [4,5] (ye0 (aG ju (aA (aB 1) (aA (aB 2) aE))))
  (aT (aU 6 (aI (bB (aB 0))))
 (aT (fIf (aV (fT (aG bz (aA (aB 1) (aA (aB 2) aE)))))
  (aU 6 (aI (kY (aG kg (aA (aB 0) (aA (aB 4) aE))))))
  bH)
 (cE (dA 3 bK (cJ [.im (aG cp (aA (aB 6) (aA (f2 dIx (aB 5) (fC (.int 0))) (aA (f2 dIx (aB 5) (fC (.int 1))) aE))))]) (eD "Front" "add_all" kh))))))
 (rH 3)))
abbrev jO:Stmt:=top 19
abbrev gZ:List Str:=["front","piece","place"]
theorem eQ:FnScope ["front","piece","place","behind","number","way","chosen"] gZ (aW jO):=cK
theorem zb8(cb:Dn K mg "behind_holder" jO gZ f fd)
  (ci:Kn K mg κ "Front" "Front.__init__" st_Front_init ps_Front_init c6 cg) (ax:FnOk P w K mg base CX0 n c6 cg ps_Front_init (SpE 2 K κ (bI [true,false]) ak))
  (gn:Dn K mg "ways" pB mO oq m6) (k7:FnOk P w K mg base CX0 (n+1) oq m6 mO (SpP 2 K κ ju))
  (av:Dn K mg "takes_choice" iI fF gq fk) (cq:FnOk P w K mg base CX0 (n+1) gq fk fF (SpP 2 K κ bz))
  (c9:Dn K mg "with_choice" kZ jA m7 mj) (ki:FnOk P w K mg base CX0 (n+1) m7 mj jA (SpP 2 K κ kg))
  (da:Mn K κ "Front" "add_all" "Front.add_all" st_Front_add_all ps_Front_add_all m8 ml) (kj:FnOk P w K mg base CX0 (n+1) m8 ml ps_Front_add_all (SpE 2 K κ (bI [true,false]) kh))
  (bf:Dn K mg "behind_row" st_p_behind_row ps_p_behind_row jh iz) (gc:FnOk P w K mg base CX0 (n+1) jh iz ps_p_behind_row (SpP 3 K κ cp))
  (ae:Cls K (κ "Front"))
  (cj:cN K (κ "Front") "steps")
  (nk:mg "enumerate"=none):
  FnOk P w K mg base CX0 ((n+1)+1) f fd gZ (SpP 3 K κ (gP 3 4 (sK ak ju bz kg kh cp))):=
 cP cb.F eQ fun cdv A outer s H E B hr=>
 (aL (aZ 3 eQ.nd (nG ci ax hr rfl (bJ (dH (C:="Front") ae cj (aC 0)) dD) rfl rfl (dN 1)))
 (aL (wd0 [4,5] ZH rfl rfl nk (bU gn k7 hr rfl rfl (aF (aC 1) (aF (aC 2) aQ)) (aJ (aJ bA))) (lY (gB (i:=4) eQ.nd rfl (.inl rfl)) (lY (gB (i:=5) eQ.nd rfl (.inl rfl)) zr5)) (fun j hj=>by simp only [Z5,ZJ,YW] at hj;rcases hj with rfl|rfl<;>exact⟨rfl,rfl⟩)
  (aL (aZ 6 eQ.nd (QV.p (aC 0)))
 (aL (cA (QT.e (gJ (QP.v (bU av cq hr rfl rfl (aF (aC 1) (aF (aC 2) aQ)) (aJ (aJ bA))))))
  (aM (aZ 6 eQ.nd (xB (bU c9 ki hr rfl rfl (aF (aC 0) (aF (aC 4) aQ)) (aJ (aJ bA))))))
  bS)
 (aM (eA (lK da kj hr rfl (bO 3) (bJ (QP.v (bU bf gc hr rfl rfl (aF (aC 6) (aF (bL (aC 5) (QP.v aH)) (aF (bL (aC 5) (QP.v aH)) aQ))) (aJ (aJ (aJ bA))))) dD) rfl rfl (dN 1)))))))
 (aM (oW 3 rfl))))
def pW(cr:(tz6))(jl:(tz6))(jv:(tz6)):tz1:=
 (aT (aU 3 (aI (bB (aB 0))))
 (aT (eP 4 (eC (aB 1))
  (fIf (aV (fT (aG cr (aA (aB 4) aE))))
  (aU 3 (aI (kY (aG jl (aA (aB 3) (aA (aB 4) (aA (aB 2) aE)))))))
  (aU 3 (aI (kY (aG jv (aA (aB 3) (aA (aB 4) (aA (aB 2) aE)))))))))
 (rH 3)))
abbrev st_p_behind_row:Stmt:=top 20
abbrev ps_p_behind_row:List Str:=["front","row","place"]
theorem hX:FnScope ["front","row","place","behind","piece"] ps_p_behind_row (aW st_p_behind_row):=cK
theorem zn4(bf:Dn K mg "behind_row" st_p_behind_row ps_p_behind_row f fd)
  (bd:Dn K mg "holds_rows" jN fZ ji i4) (dm:FnOk P w K mg base CX0 n ji i4 fZ (SpP 1 K κ cr))
  (cb:Dn K mg "behind_holder" jO gZ l6 lu) (qr:FnOk P w K mg base CX0 n l6 lu gZ (SpP 3 K κ jl))
  (cm:Dn K mg "behind_plain" jV iJ mm l7) (jw:FnOk P w K mg base CX0 n mm l7 iJ (SpP 3 K κ jv)):
  FnOk P w K mg base CX0 (n+1) f fd ps_p_behind_row (SpP 3 K κ (gP 3 2 (pW cr jl jv))):=
 cP bf.F hX fun cdv A outer s H E B hr=>
 (aL (aZ 3 hX.nd (QV.p (aC 0)))
 (aL (zs5 4 1 ZH rfl hX.nd rfl (.inl rfl) rfl rfl rfl
  (aM (cA (QT.e (gJ (QP.v (bU bd dm hr rfl rfl (aF (aC 4) aQ) (aJ bA)))))
  (aM (aZ 3 hX.nd (xB (bU cb qr hr rfl rfl (aF (aC 3) (aF (aC 4) (aF (aC 2) aQ))) (aJ (aJ (aJ bA)))))))
  (aM (aZ 3 hX.nd (xB (bU cm jw hr rfl rfl (aF (aC 3) (aF (aC 4) (aF (aC 2) aQ))) (aJ (aJ (aJ bA))))))))))
 (aM (oW 3 rfl))))
def sL(cp:(tz6))(b8:(tz6)):tz1:=
 (bX (aI (aG cp (aA (aB 0) (aA (aB 1) (aA (aG b8 aE) aE))))))
abbrev hJ:Stmt:=top 21
abbrev eX:List Str:=["front","pieces"]
theorem rX:FnScope ["front","pieces"] eX (aW hJ):=cK
theorem zb9(ar:Dn K mg "behind_pieces" hJ eX f fd)
  (bf:Dn K mg "behind_row" st_p_behind_row ps_p_behind_row jh iz) (gc:FnOk P w K mg base CX0 n jh iz ps_p_behind_row (SpP 3 K κ cp))
  (a7:Dn K mg "first_place" iY fQ i5 gs) (db:FnOk P w K mg base CX0 n i5 gs fQ (SpP 0 K κ b8)):
  FnOk P w K mg base CX0 (n+1) f fd eX (SpP 2 K κ (gP 2 0 (sL cp b8))):=
 cP ar.F rX fun cdv A outer s H E B hr=>
 (aM (bQ (QP.e (bU bf gc hr rfl rfl (aF (aC 0) (aF (aC 1) (aF (QP.v (xf6 a7 db hr rfl)) aQ))) (aJ (aJ (aJ bA)))))))
def za2:tz1:=
 (bX (aI (fMt sH (aB 0) (aA (fC (.str "\n")) aE))))
abbrev lG:Stmt:=top 23
abbrev iE:List Str:=["text"]
theorem zX:FnScope ["text"] iE (aW lG):=cK
theorem yc2(b9:Dn K mg "lines_of" lG iE f fd)
     :
  FnOk P w K mg base CX0 (n+1) f fd iE (SpP 1 K κ (gP 1 0 (za2))):=
 cP b9.F zX fun cdv A outer s H E B hr=>
 (aM (bQ (QP.e (zf9 X4 X5 zs4 (aC 0) (aF (QP.v bP) aQ)))))
def vY(dw:(tz6)):tz1:=
 (bX (aI (aG xa4 (aA (iL [none,some 1] (eC (aG dw (aA (aB 0) aE))) gW (f2 dLe (aG cM (aA (aB 0) aE)) (aB 1))) aE))))
abbrev sM:Stmt:=top 24
abbrev sN:List Str:=["text","width"]
theorem zz2:FnScope ["text","width"] sN (aW sM):=cK
theorem xh3(k8:Dn K mg "fits" sM sN f fd)
  (b9:Dn K mg "lines_of" lG iE kl jt) (gd:FnOk P w K mg base CX0 n kl jt iE (SpP 1 K κ dw))
  (u5:mg "all"=none)
  (ac:mg "len"=none):
  FnOk P w K mg base CX0 (n+1) f fd sN (SpP 2 K κ (gP 2 0 (vY dw))):=
 cP k8.F zz2 fun cdv A outer s H E B hr=>
 (aM (bQ (QP.e (cY (wq1 rfl) rfl u5 boot_all (aF (QP.v (uC (sc:=aW sM) (NX:=["text","width"]) (N:=["line","width"]) (pick:=[none,some 1]) ⟨rfl,by decide+kernel,by decide+kernel,by decide+kernel,by decide+kernel,by decide,rfl⟩ rfl rfl rfl (zm4 (QP.v (bU b9 gd hr rfl rfl (aF (aC 0) aQ) (aJ bA)))) (fun _ _ _ _=>(gB (i:=0) (show(["line","width"]:List Str).Nodup by decide) rfl (by first|exact Or.inl rfl|exact Or.inr rfl))) (fun _ _ _ _=>uB) (fun _ _ _ _=>(wY xq1 (QP.v (cY fV rfl ac ZO (aF (aC 0) aQ))) (aC 1) (bN _))))) aQ)))))
def zI(rm:(tz6))(dw:(tz6)):tz1:=
 (aT (fIf (aV (jE (fT (aG rm (aA (aB 0) (aA (aB 1) aE))))))
  (bX (aI (fC .non)))
  bH)
 (aT (aU 2 (aI (aG dw (aA (aB 0) aE))))
 (aT (aU 3 (aI (aG xa5 (aA (iL [none,some 1] (eC (fSl (aB 2) iA (lU (dX (fC (.int 1)))))) gW (f2 iK (f2 jH (aB 1) (aG cM (aA (aB 0) aE))) (f2 jH (aB 1) (aG cM (aA (aB 0) aE))))) aE))))
 (bX (aI (bG (aA (aG cM (aA (aB 2) aE)) (aA (bB (aB 3)) aE))))))))
abbrev pX:Stmt:=top 25
abbrev pY:List Str:=["text","width"]
theorem tK:FnScope ["text","width","lines","rag"] pY (aW pX):=cK
theorem yx9(j6:Dn K mg "price" pX pY f fd)
  (k8:Dn K mg "fits" sM sN ue tu) (rn:FnOk P w K mg base CX0 n ue tu sN (SpP 2 K κ rm))
  (b9:Dn K mg "lines_of" lG iE kl jt) (gd:FnOk P w K mg base CX0 n kl jt iE (SpP 1 K κ dw))
  (u6:mg "sum"=none)
  (ac:mg "len"=none):
  FnOk P w K mg base CX0 (n+1) f fd pY (SpP 2 K κ (gP 2 2 (zI rm dw))):=
 cP j6.F tK fun cdv A outer s H E B hr=>
 (aL (cA (QT.e (rR (gJ (QP.v (bU k8 rn hr rfl rfl (aF (aC 0) (aF (aC 1) aQ)) (aJ (aJ bA)))))))
  (aM (bQ (QP.e kA)))
  bS)
 (aL (aZ 2 tK.nd (bU b9 gd hr rfl rfl (aF (aC 0) aQ) (aJ bA)))
 (aL (aZ 3 tK.nd (cY (wq2 rfl) rfl u6 boot_sum (aF (QP.v (uC (sc:=aW pX) (NX:=["text","width","lines","rag"]) (N:=["line","width"]) (pick:=[none,some 1]) ⟨rfl,by decide+kernel,by decide+kernel,by decide+kernel,by decide+kernel,by decide,rfl⟩ rfl rfl rfl (zm4 (QP.v (yg4 (aC 2) yq5 (yq6 (QP.v (rS (QP.v aH))))))) (fun _ _ _ _=>(gB (i:=0) (show(["line","width"]:List Str).Nodup by decide) rfl (by first|exact Or.inl rfl|exact Or.inr rfl))) (fun _ _ _ _=>uB) (fun _ _ _ _=>(bC vK (QP.v (bC oH (aC 1) (QP.v (cY fV rfl ac ZO (aF (aC 0) aQ))))) (QP.v (bC oH (aC 1) (QP.v (cY fV rfl ac ZO (aF (aC 0) aQ))))))))) aQ)))
 (aM (bQ (QP.e (bY (aK (cY fV rfl ac ZO (aF (aC 2) aQ)) (aK (QV.p (aC 3)) aX)))))))))
def vE(ak:(tz7))(i7:(tz7))(p6:(tz6))(am:(tz7)):tz1:=
 (aT (aU 1 (aI (fA "Front" (cJ [.im (nV (fA "WithinWidth" (cJ [.im (aB 0)]) i7))]) ak)))
 (aT (aU 2 (aI (aG p6 (aA (fC (.str "")) (aA (aB 0) aE)))))
 (aT (fIf (aV (fB (f2 nZ (aB 2) (fC .non))))
  (cE (dA 1 bK (cJ [.im (fC (.int 0)),.im (bG (aA (bB (aB 2)) (aA (bG aE) aE)))]) (eD "Front" "add" am)))
  bH)
 (rH 1))))
abbrev jB:Stmt:=top 28
abbrev fR:List Str:=["width"]
theorem kT:FnScope ["width","front","cost"] fR (aW jB):=cK
theorem zk0(a8:Dn K mg "roads_begin" jB fR f fd)
  (ci:Kn K mg κ "Front" "Front.__init__" st_Front_init ps_Front_init c6 cg) (ax:FnOk P w K mg base CX0 n c6 cg ps_Front_init (SpE 2 K κ (bI [true,false]) ak))
  (d9:Kn K mg κ "WithinWidth" "WithinWidth.__init__" st_WithinWidth_init ps_WithinWidth_init lw kt) (i8:FnOk P w K mg base CX0 n lw kt ps_WithinWidth_init (SpE 2 K κ (bI [true,false]) i7))
  (j6:Dn K mg "price" pX pY tw si) (p7:FnOk P w K mg base CX0 (n+1) tw si pY (SpP 2 K κ p6))
  (ao:Mn K κ "Front" "add" "Front.add" st_Front_add ps_Front_add dk c7) (bc:FnOk P w K mg base CX0 (n+1) dk c7 ps_Front_add (SpE 3 K κ (bI [true,false,false]) am)):
  FnOk P w K mg base CX0 ((n+1)+1) f fd fR (SpP 1 K κ (gP 1 2 (vE ak i7 p6 am))):=
 cP a8.F kT fun cdv A outer s H E B hr=>
 (aL (aZ 1 kT.nd (nG ci ax hr rfl (bJ (QP.v (zn0 (nG d9 i8 hr rfl (bJ (aC 0) dD) rfl rfl (dN 1)))) dD) rfl rfl (dN 1)))
 (aL (aZ 2 kT.nd (bU j6 p7 hr rfl rfl (aF (QP.v bP) (aF (aC 0) aQ)) (aJ (aJ bA))))
 (aL (cA (QT.e (bV zf8 (aC 2) (QP.v kA) (bN _)))
  (aM (eA (lK ao bc hr rfl (bO 1) (bJ (QP.v aH) (bJ (QP.v (bY (aK (QV.p (aC 2)) (aK (bY aX) aX)))) dD)) rfl rfl (dN 2))))
  bS)
 (aM (oW 1 rfl)))))
def wS(lz:(tz7))(b5:(tz7))(b8:(tz6))(iu:(tz6)):tz1:=
 (aT (aU 2 (aI (fA "Setter" (cJ [.im (aB 1)]) lz)))
 (aT (cE (dA 2 bK (cJ [.im (aB 0),.im (aG b8 aE)]) (eD "Setter" "set_row" b5)))
 (bX (aI (aG iu (aA (zq1 "Setter" "whole_text" (aB 2)) aE))))))
abbrev oB:Stmt:=top 31
abbrev jS:List Str:=["row","choices"]
theorem wL:FnScope ["row","choices","setter"] jS (aW oB):=cK
theorem yo6(di:Dn K mg "set_by" oB jS f fd)
  (k9:Kn K mg κ "Setter" "Setter.__init__" st_Setter_init ps_Setter_init o9 oh) (l3:FnOk P w K mg base CX0 n o9 oh ps_Setter_init (SpE 2 K κ (bI [true,false]) lz))
  (aw:Mn K κ "Setter" "set_row" "Setter.set_row" st_Setter_set_row ps_Setter_set_row gu fm) (d7:FnOk P w K mg base CX0 (n+1) gu fm ps_Setter_set_row (SpE 3 K κ (bI [true,false,false]) b5))
  (a7:Dn K mg "first_place" iY fQ i5 gs) (db:FnOk P w K mg base CX0 (n+1) i5 gs fQ (SpP 0 K κ b8))
  (bv:Mn K κ "Setter" "whole_text" "Setter.whole_text" st_Setter_whole_text ps_Setter_whole_text ku km) (iw:FnOk P w K mg base CX0 (n+1) ku km ps_Setter_whole_text (SpP 1 K κ iu)):
  FnOk P w K mg base CX0 ((n+1)+1) f fd jS (SpP 2 K κ (gP 2 1 (wS lz b5 b8 iu))):=
 cP di.F wL fun cdv A outer s H E B hr=>
 (aL (aZ 2 wL.nd (nG k9 l3 hr rfl (bJ (aC 1) dD) rfl rfl (dN 1)))
 (aL (eA (lK aw d7 hr rfl (bO 2) (bJ (aC 0) (bJ (QP.v (xf6 a7 db hr rfl)) dD)) rfl rfl (dN 2)))
 (aM (bQ (QP.e (xr2 bv iw hr (aC 2)))))))
def tI:tz1:=
 (aT (fIf (aV (jE (fTK (cQ "Front" "best" (aB 0)))))
  xN
  bH)
 (bX (aI (f2 dIx (bB (ye2 (cQ "Front" "best" (aB 0)))) (fC (.int 1))))))
abbrev gF:Stmt:=top 33
abbrev dZ:List Str:=["front"]
theorem nP:FnScope ["front"] dZ (aW gF):=cK
theorem zi1(ai:Dn K mg "best_choices" gF dZ f fd)
  (ae:Cls K (κ "Front"))
  (aj:cN K (κ "Front") "best")
  (kn:mg "min"=none):
  FnOk P w K mg base CX0 (n+1) f fd dZ (SpP 1 K κ (gP 1 0 (tI))):=
 cP ai.F nP fun cdv A outer s H E B hr=>
 (aL (cA (QT.e (rR (yr4 (dH (C:="Front") ae aj (aC 0)))))
  (aM uP)
  bS)
 (aM (bQ (QP.e (oI (QV.p (wd1 rfl (Room.units hr) (dH (C:="Front") ae aj (aC 0)) rfl kn)) (QP.v aH))))))
def sO:tz5:=
 (xw7 (jE (fTK (cQ "Front" "best" (aB 0)))) xy6)
theorem zc0(ai:Dn K mg "best_choices" gF dZ f fd)
  (i9:OwnCls "NoRoom" cu bmV "ValueError.__new__" mg base)
  (ae:Cls K (κ "Front"))
  (aj:cN K (κ "Front") "best")
  (kn:mg "min"=none):
  FnOk P w K mg base (CXn P w base cu) (n+1) f fd dZ (zd7 1 K κ cu (gX 1 0 (sO))):=
 zy6 ai.F nP fun cdv A outer s H E B hr=>
 (zt5 (wq5 (rR (yr4 (dH (C:="Front") ae aj (aC 0)))) (zt5 (xr7 i9 PySem.F.excBase_ValueError rfl))))
def ze0(jx:(tz6))(bj:(tz6))(ca:(tz6))(gv:(tz6)):tz1:=
 (aT (aU 2 (aI (aG jx (aA (aG bj (aA (kY (aG ca (aA (aB 1) aE))) (aA (aB 0) aE))) aE))))
 (bX (aI (bG (aA (aG gv (aA (aB 0) (aA (aB 2) aE))) (aA (bB (aB 2)) aE))))))
abbrev mQ:Stmt:=top 34
abbrev hU:List Str:=["row","width"]
theorem mE:FnScope ["row","width","choices"] hU (aW mQ):=cK
theorem yi3(b7:Dn K mg "pressed" mQ hU f fd)
  (ai:Dn K mg "best_choices" gF dZ gw f7) (jy:FnOk P w K mg base CX0 n gw f7 dZ (SpP 1 K κ jx))
  (ar:Dn K mg "behind_pieces" hJ eX f8 et) (cc:FnOk P w K mg base CX0 n f8 et eX (SpP 2 K κ bj))
  (a8:Dn K mg "roads_begin" jB fR i6 gx) (dc:FnOk P w K mg base CX0 n i6 gx fR (SpP 1 K κ ca))
  (di:Dn K mg "set_by" oB jS l9 lm) (jj:FnOk P w K mg base CX0 n l9 lm jS (SpP 2 K κ gv)):
  FnOk P w K mg base CX0 (n+1) f fd hU (SpP 2 K κ (gP 2 1 (ze0 jx bj ca gv))):=
 cP b7.F mE fun cdv A outer s H E B hr=>
 (aL (aZ 2 mE.nd (bU ai jy hr rfl rfl (aF (QP.v (bU ar cc hr rfl rfl (aF (QP.v (xB (bU a8 dc hr rfl rfl (aF (aC 1) aQ) (aJ bA)))) (aF (aC 0) aQ)) (aJ (aJ bA)))) aQ) (aJ bA)))
 (aM (bQ (QP.e (bY (aK (bU di jj hr rfl rfl (aF (aC 0) (aF (aC 2) aQ)) (aJ (aJ bA))) (aK (QV.p (aC 2)) aX)))))))
def za3(jm:(List D->Bool))(bj:(tz6))(ca:(tz6)):tz5:=
 (zl2 jm (aA (aG bj (aA (kY (aG ca (aA (aB 1) aE))) (aA (aB 0) aE))) aE))
theorem yc3(b7:Dn K mg "pressed" mQ hU f fd)
  (ai:Dn K mg "best_choices" gF dZ gw f7) (jn:FnOk P w K mg base (CXn P w base cu) n gw f7 dZ (zd7 1 K κ cu jm))
  (ar:Dn K mg "behind_pieces" hJ eX f8 et) (cc:FnOk P w K mg base CX0 n f8 et eX (SpP 2 K κ bj))
  (a8:Dn K mg "roads_begin" jB fR i6 gx) (dc:FnOk P w K mg base CX0 n i6 gx fR (SpP 1 K κ ca))
  (i9:OwnCls "NoRoom" cu bmV "ValueError.__new__" mg base):
  FnOk P w K mg base (CXn P w base cu) (n+1) f fd hU (zd7 2 K κ cu (gX 2 1 (za3 jm bj ca))):=
 zy6 b7.F mE fun cdv A outer s H E B hr=>
 (zt5 (wj8 2 mE.nd rfl (.inl rfl) (wk0 ai jn hr rfl rfl (aF (QP.v (bU ar cc hr rfl rfl (aF (QP.v (xB (bU a8 dc hr rfl rfl (aF (aC 1) aQ) (aJ bA)))) (aF (aC 0) aQ)) (aJ (aJ bA)))) aQ) (aJ bA))))
def ze1:tz1:=
 (aT (aU 1 (aI (fC (.str "abcdefghijklmnopqrstuvwxyzABCDEFGHIJKLMNOPQRSTUVWXYZ0123456789"))))
 (aT (aU 1 (aI (f2 cD (aB 1) (fC (.str "!\"#$&'()*+,-./:;<=>?\x40[\\]^_`{|}~")))))
 (aT (aU 2 (aI (f2 dIx (cZ (fKs [.int 1,.int 2,.int 3,.int 4,.int 5,.int 6,.int 7,.int 8,.int 10,.int 11,.int 9,.int 12])) (f2 cR (aB 0) (fC (.int 12))))))
 (aT (aU 3 (aI (f2 cR (f2 eM (aB 0) (fC (.int 9000))) (fC (.int 93)))))
 (aT (aU 4 (aI (fC (.str ""))))
 (aT (eP 5 (eL (aA (aB 2) aE))
  (aU 4 (aI (f2 cD (aB 4) (f2 dIx (aB 1) (f2 cR (f2 cD (f2 eM (aB 0) (fC (.int 12))) (f2 iK (aB 5) (aB 3))) (fC (.int 93))))))))
 (rH 4)))))))
abbrev sP:Stmt:=top 38
abbrev mR:List Str:=["_law_number"]
theorem jL:FnScope ["_law_number","_law_signs","_law_size","_law_step","_law_word_here","_law_j"] mR (aW sP):=cK
theorem xh4(gy:Dn K mg "_law_word" sP mR f fd)
  (au:mg "range"=none):
  FnOk P w K mg base CX0 (n+1) f fd mR (SpP 1 K κ (gP 1 5 (ze1))):=
 cP gy.F jL fun cdv A outer s H E B hr=>
 (aL (aZ 1 jL.nd bP)
 (aL (aZ 1 jL.nd (bC eK (aC 1) (QP.v bP)))
 (aL (aZ 2 jL.nd (oI (dW (pH (.int (.int (.int (.int (.int (.int (.int (.int (.int (.int (.int (.int .nil)))))))))))))) (QP.v (bC eO (aC 0) (QP.v aH)))))
 (aL (aZ 3 jL.nd (bC eO (QP.v (bC kO (aC 0) (QP.v aH))) (QP.v aH)))
 (aL (aZ 4 jL.nd bP)
 (aL (nX 5 ZH rfl jL.nd rfl (.inl rfl) rfl rfl (mB rfl au (aF (aC 2) aQ))
  (aM (aZ 4 jL.nd (bC eK (aC 4) (bL (aC 1) (QP.v (bC eO (QP.v (bC eK (QP.v (bC kO (aC 0) (QP.v aH))) (QP.v (bC vK (aC 5) (aC 3))))) (QP.v aH))))))))
 (aM (oW 4 rfl))))))))
def ze2(jz:(tz6)):tz1:=
 (aT (aU 1 (aI (f2 eM (aB 0) (fC (.int 16)))))
 (aT (fIf (aV (fB (f2 dLt (f2 cR (aB 0) (fC (.int 16))) (fC (.int 8)))))
  (bX (aI (bG (aA (fC (.str "word")) (aA (aG jz (aA (aB 1) aE)) aE)))))
  bH)
 (aT (fIf (aV (fB (f2 dLt (f2 cR (aB 0) (fC (.int 16))) (fC (.int 13)))))
  (bX (aI (bG (aA (fC (.str "gap")) (aA (f2 dIx (cZ (fKs [.str " ",.str " ",.str " ",.str ""])) (f2 cR (aB 1) (fC (.int 4)))) aE)))))
  bH)
 (aT (fIf (aV (fB (f2 dEq (f2 cR (aB 0) (fC (.int 16))) (fC (.int 13)))))
  (bX (aI (bG (aA (fC (.str "end")) aE))))
  bH)
 (bX (aI (bG (aA (fC (.str "stop")) (aA (f2 dIx (cZ (aA (f2 cR (f2 eM (aB 1) (fC (.int 2))) (fC (.int 10))) (aA (f2 cR (f2 eM (aB 1) (fC (.int 2))) (fC (.int 41))) aE))) (f2 cR (aB 1) (fC (.int 2)))) aE)))))))))
abbrev mS:Stmt:=top 39
abbrev hV:List Str:=["_law_number"]
theorem zc1:FnScope ["_law_number","_law_some"] hV (aW mS):=cK
theorem xh5(bn:Dn K mg "_law_leaf" mS hV f fd)
  (gy:Dn K mg "_law_word" sP mR ot m9) (la:FnOk P w K mg base CX0 n ot m9 mR (SpP 1 K κ jz)):
  FnOk P w K mg base CX0 (n+1) f fd hV (SpP 1 K κ (gP 1 1 (ze2 jz))):=
 cP bn.F zc1 fun cdv A outer s H E B hr=>
 (aL (aZ 1 zc1.nd (bC kO (aC 0) (QP.v aH)))
 (aL (cA (QT.e (bV (uO (Room.units0 hr)) (QP.v (bC eO (aC 0) (QP.v aH))) (QP.v aH) (bN _)))
  (aM (bQ (QP.e (bY (aK bP (aK (bU gy la hr rfl rfl (aF (aC 1) aQ) (aJ bA)) aX))))))
  bS)
 (aL (cA (QT.e (bV (uO (Room.units0 hr)) (QP.v (bC eO (aC 0) (QP.v aH))) (QP.v aH) (bN _)))
  (aM (bQ (QP.e (bY (aK bP (aK (oI (dW (pH (.str (.str (.str (.str .nil)))))) (QP.v (bC eO (aC 1) (QP.v aH)))) aX))))))
  bS)
 (aL (cA (QT.e (bV (gG (Room.units hr)) (QP.v (bC eO (aC 0) (QP.v aH))) (QP.v aH) (bN _)))
  (aM (bQ (QP.e (bY (aK bP aX)))))
  bS)
 (aM (bQ (QP.e (bY (aK bP (aK (oI (dW (aK (bC eO (QP.v (bC kO (aC 1) (QP.v aH))) (QP.v aH)) (aK (bC eO (QP.v (bC kO (aC 1) (QP.v aH))) (QP.v aH)) aX))) (QP.v (bC eO (aC 1) (QP.v aH)))) aX))))))))))
def sQ:tz1:=
 (aT (nS [1,2,3,4] (dA 0 bK aE pR))
 (aT (aU 3 (aI (f2 cD (aB 3) (cZ (aA (aG eT (aA (aB 4) aE)) aE)))))
 (aT (fIf (aV (dS (fB (f2 dEq (aB 1) (fC (.str "either")))) (fB (f2 dLt (aG cM (aA (aB 3) aE)) (fC (.int 2))))))
  (aU 3 (aI (f2 cD (aB 3) (cZ (aA (bG (aA (bG (aA (fC (.str "word")) (aA (fC (.str "or")) aE))) aE)) aE)))))
  bH)
 (aT (aU 5 (aI (bG (aA (fC (.str "group")) (aA (bB (f2 dIx (aB 3) (fC (.int 0)))) aE)))))
 (aT (fIf (aV (fB (f2 dEq (aB 1) (fC (.str "hang")))))
  (aU 5 (aI (bG (aA (fC (.str "hang")) (aA (bB (aB 2)) (aA (bB (f2 dIx (aB 3) (fC (.int 0)))) aE))))))
  bH)
 (aT (fIf (aV (fB (f2 dEq (aB 1) (fC (.str "either")))))
  (aU 5 (aI (bG (aA (fC (.str "either")) (aA (aG eT (aA (aB 3) aE)) aE)))))
  bH)
 (cE (dA 0 (fP 0 (fP 0 bK (dX (fC (.int 1)))) (fC (.int 3))) (aA (bB (aB 5)) aE) cT))))))))
abbrev vZ:Stmt:=top 40
abbrev sR:List Str:=["_law_frames"]
theorem gU:FnScope ["_law_frames","_law_kind","_law_n","_law_full","_law_parts","_law_piece"] sR (aW vZ):=cK
theorem xh6(j3:Dn K mg "_law_shut" vZ sR f fd)
  (bg:mg "tuple"=none)
  (ac:mg "len"=none):
  FnOk P w K mg base CX0 (n+1) f fd sR (SpE 1 K κ (bI [true]) (gE 1 5 (bI [true]) (sQ))):=
 jU j3.F gU (fun i hi=>fE hi) fun cdv A outer s H E hr=>
 (aL (zy2 (is:=[1,2,3,4]) rfl (lY (gB (i:=1) gU.nd rfl (.inl rfl)) (lY (gB (i:=2) gU.nd rfl (.inl rfl)) (lY (gB (i:=3) gU.nd rfl (.inl rfl)) (lY (gB (i:=4) gU.nd rfl (.inl rfl)) zr5)))) (wj6 (j:=0) rfl (bO 0)) (fun j hj=>by simp only [Z5,ZJ,YW] at hj;rcases hj with rfl|rfl|rfl|rfl<;>exact⟨rfl,rfl⟩))
 (aL (aZ 3 gU.nd (bC eK (aC 3) (QP.v (dW (aK (iP nD rfl bg YD (aF (aC 4) aQ)) aX)))))
 (aL (cA (QT.e (oS (lE (bV (gG (Room.units hr)) (aC 1) (QP.v bP) (bN _)) (kB (bV (uO (Room.units0 hr)) (QP.v (cY fV rfl ac ZO (aF (aC 3) aQ))) (QP.v aH) (bN _))))))
  (aM (aZ 3 gU.nd (bC eK (aC 3) (QP.v (dW (aK (bY (aK (bY (aK bP (aK bP aX))) aX)) aX))))))
  bS)
 (aL (aZ 5 gU.nd (bY (aK bP (aK (QV.p (bL (aC 3) (QP.v aH))) aX))))
 (aL (cA (QT.e (bV (gG (Room.units hr)) (aC 1) (QP.v bP) (bN _)))
  (aM (aZ 5 gU.nd (bY (aK bP (aK (QV.p (aC 2)) (aK (QV.p (bL (aC 3) (QP.v aH))) aX))))))
  bS)
 (aL (cA (QT.e (bV (gG (Room.units hr)) (aC 1) (QP.v bP) (bN _)))
  (aM (aZ 5 gU.nd (bY (aK bP (aK (iP nD rfl bg YD (aF (aC 3) aQ)) aX)))))
  bS)
 (aM (eA (jJ (j:=0) rfl (kQ (kQ (bO 0) (QP.v (rS (QP.v aH)))) (QP.v aH)) (aK (QV.p (aC 5)) aX))))))))))
def ym9(aa:(tz6))(ou:(tz7))(bo:(tz6)):tz1:=
 (aT (aU 4 (aI (cZ (aA (cZ (aA (fC (.str "top")) (aA (fC (.int 0)) (aA (cZ aE) (aA (cZ aE) aE))))) aE))))
 (aT (eP 5 (pP (aA (aB 1) (aA (f2 cD (aB 1) (aB 2)) aE)))
  (aT (aU 6 (aI (aG aa (aA (aB 0) (aA (aB 5) (aA (fC (.int 31)) aE))))))
 (aT (aU 7 (aI (f2 cR (aB 6) (fC (.int 13)))))
 (aT (aU 8 (aI (bB (f2 dIx (f2 dIx (aB 4) (dX (fC (.int 1)))) (fC (.int 0))))))
 (fIf (aV (dS (fB (f2 dLt (aB 7) (fC (.int 4)))) (fB (f2 dLe (aG cM (aA (aB 4) aE)) (aB 3)))))
  (aT (aU 9 (aI (f2 dIx (cZ (fKs [.str "group",.str "group",.str "hang",.str "either"])) (aB 7))))
 (cE (dA 4 bK (aA (cZ (aA (bB (aB 9)) (aA (f2 dIx (cZ (aA (fC (.int 1)) (aA (fC (.int 2)) (aA (fC (.int 4)) (aA (f2 cR (f2 eM (aB 6) (fC (.int 13))) (fC (.int 13))) aE))))) (f2 cR (f2 eM (aB 6) (fC (.int 169))) (fC (.int 4)))) (aA (cZ aE) (aA (cZ aE) aE))))) aE) cT)))
  (fIf (aV (dS (fB (f2 dEq (aB 7) (fC (.int 4)))) (fB (f2 dGt (aG cM (aA (aB 4) aE)) (fC (.int 1))))))
  (cE (fIO [.io 4] ou))
  (fIf (aV (dS (fB (f2 dLt (aB 7) (fC (.int 7)))) (dS (fB (f2 dEq (aB 8) (fC (.str "either")))) (fB (f2 dLt (aG cM (aA (f2 dIx (f2 dIx (aB 4) (dX (fC (.int 1)))) (fC (.int 2))) aE)) (fC (.int 3)))))))
  (aT (cE (dA 4 (fP 4 (fP 4 bK (dX (fC (.int 1)))) (fC (.int 2))) (aA (aG eT (aA (f2 dIx (f2 dIx (aB 4) (dX (fC (.int 1)))) (fC (.int 3))) aE)) aE) cT))
 (dL 4 (fP 4 bK (dX (fC (.int 1)))) (fC (.int 3)) (cZ aE)))
  (cE (dA 4 (fP 4 (fP 4 bK (dX (fC (.int 1)))) (fC (.int 3))) (aA (aG bo (aA (aG aa (aA (aB 0) (aA (aB 5) (aA (fC (.int 32)) aE)))) aE)) aE) cT)))))))))
 (aT (mJ (aV (fB (f2 dGt (aG cM (aA (aB 4) aE)) (fC (.int 1)))))
  (cE (fIO [.io 4] ou)) 400)
 (bX (aI (aG eT (aA (f2 dIx (f2 dIx (aB 4) (fC (.int 0))) (fC (.int 3))) aE)))))))
abbrev zJ:Stmt:=top 41
abbrev vF:List Str:=["_law_script","_law_at","_law_many","_law_nest"]
theorem mF:FnScope ["_law_script","_law_at","_law_many","_law_nest","_law_frames","_law_k","_law_number","_law_way","_law_kind","_law_new"] vF (aW zJ):=cK
theorem xs4(mi:Dn K mg "_law_row" zJ vF f fd)
  (af:Dn K mg "_law_mixed" gQ eJ bu a9) (ag:FnOk P w K mg base CX0 n bu a9 eJ (SpP 3 K κ aa))
  (j3:Dn K mg "_law_shut" vZ sR uf tx) (ox:FnOk P w K mg base CX0 n uf tx sR (SpE 1 K κ (bI [true]) ou))
  (bn:Dn K mg "_law_leaf" mS hV ja gl) (cv:FnOk P w K mg base CX0 n ja gl hV (SpP 1 K κ bo))
  (au:mg "range"=none)
  (bg:mg "tuple"=none)
  (ac:mg "len"=none):
  FnOk P w K mg base CX0 (n+1) f fd vF (SpP 4 K κ (gP 4 6 (ym9 aa ou bo))):=
 cP mi.F mF fun cdv A outer s H E B hr=>
 (aL (aZ 4 mF.nd (dW (aK (dW (aK bP (aK aH (aK (dW aX) (aK (dW aX) aX))))) aX)))
 (aL (nX 5 ZH rfl mF.nd rfl (.inl rfl) rfl rfl (zx8 rfl au (aF (aC 1) (aF (QP.v (bC eK (aC 1) (aC 2))) aQ)))
  (aL (aZ 6 mF.nd (bU af ag hr rfl rfl (aF (aC 0) (aF (aC 5) (aF (QP.v aH) aQ))) (aJ (aJ (aJ bA)))))
 (aL (aZ 7 mF.nd (bC eO (aC 6) (QP.v aH)))
 (aL (aZ 8 mF.nd (QV.p (bL (bL (aC 4) (QP.v (rS (QP.v aH)))) (QP.v aH))))
 (aM (cA (QT.e (oS (lE (bV (uO (Room.units0 hr)) (aC 7) (QP.v aH) (bN _)) (kB (bV xq1 (QP.v (cY fV rfl ac ZO (aF (aC 4) aQ))) (aC 3) (bN _))))))
  (aL (aZ 9 mF.nd (oI (dW (pH (.str (.str (.str (.str .nil)))))) (aC 7)))
 (aM (eA (jJ (j:=4) rfl (bO 4) (aK (dW (aK (QV.p (aC 9)) (aK (oI (dW (aK aH (aK aH (aK aH (aK (bC eO (QP.v (bC kO (aC 6) (QP.v aH))) (QP.v aH)) aX))))) (QP.v (bC eO (QP.v (bC kO (aC 6) (QP.v aH))) (QP.v aH)))) (aK (dW aX) (aK (dW aX) aX))))) aX)))))
  (aM (cA (QT.e (oS (lE (bV (gG (Room.units hr)) (aC 7) (QP.v aH) (bN _)) (kB (bV zb0 (QP.v (cY fV rfl ac ZO (aF (aC 4) aQ))) (QP.v aH) (bN _))))))
  (aM (eA (nF j3 ox hr rfl (kC 4 dD) rfl (eY rfl) (nd1 4) (qO 4))))
  (aM (cA (QT.e (oS (lE (bV (uO (Room.units0 hr)) (aC 7) (QP.v aH) (bN _)) (lE (bV (gG (Room.units hr)) (aC 8) (QP.v bP) (bN _)) (kB (bV (uO (Room.units0 hr)) (QP.v (cY fV rfl ac ZO (aF (bL (bL (aC 4) (QP.v (rS (QP.v aH)))) (QP.v aH)) aQ))) (QP.v aH) (bN _)))))))
  (aL (eA (jJ (j:=4) rfl (kQ (kQ (bO 4) (QP.v (rS (QP.v aH)))) (QP.v aH)) (aK (iP nD rfl bg YD (aF (bL (bL (aC 4) (QP.v (rS (QP.v aH)))) (QP.v aH)) aQ)) aX)))
 (aM (uR (j:=4) rfl (dW aX) (kQ (bO 4) (QP.v (rS (QP.v aH)))) (QP.v aH))))
  (aM (eA (jJ (j:=4) rfl (kQ (kQ (bO 4) (QP.v (rS (QP.v aH)))) (QP.v aH)) (aK (bU bn cv hr rfl rfl (aF (QP.v (bU af ag hr rfl rfl (aF (aC 0) (aF (aC 5) (aF (QP.v aH) aQ))) (aJ (aJ (aJ bA))))) aQ) (aJ bA)) aX))))))))))))))
 (aL (xq3 400 ZH (QT.e (bV zb0 (QP.v (cY fV rfl ac ZO (aF (aC 4) aQ))) (QP.v aH) (bN _)))
  (aM (eA (nF j3 ox hr rfl (kC 4 dD) rfl (eY rfl) (nd1 4) (qO 4)))))
 (aM (bQ (QP.e (iP nD rfl bg YD (aF (bL (bL (aC 4) (QP.v aH)) (QP.v aH)) aQ))))))))
def ze3(aa:(tz6))(bo:(tz6)):tz1:=
 (aT (aU 2 (aI (aG aa (aA (aB 0) (aA (fC (.int 2)) (aA (fC (.int 57)) aE))))))
 (aT (fIf (aV (fB (f2 dNe (f2 cR (aB 2) (fC (.int 4))) (fC (.int 1)))))
  (bX (aI (bB (aB 1))))
  bH)
 (aT (aU 3 (aI (fC (.int 3))))
 (aT (eP 4 (eL (aA (f2 cD (fC (.int 3)) (f2 cR (f2 eM (aB 2) (fC (.int 4))) (fC (.int 7)))) aE))
  (aT (aU 5 (aI (aG aa (aA (aB 0) (aA (f2 cD (fC (.int 3)) (aB 4)) (aA (fC (.int 58)) aE))))))
 (aT (aU 6 (aI (bG (aA (fC (.str "hang")) (aA (f2 cR (f2 eM (aB 5) (fC (.int 8))) (fC (.int 4))) (aA (bB (aB 1)) aE))))))
 (aT (fIf (aV (dS (fB (f3 dLt dLt (fC (.int 0)) (f2 cR (aB 5) (fC (.int 8))) (fC (.int 3)))) (fB (f2 dGt (aB 3) (fC (.int 0))))))
  (aT (aU 3 (aI (f2 jH (aB 3) (fC (.int 1)))))
 (aU 6 (aI (f2 dIx (cZ (aA (bG (aA (fC (.str "group")) (aA (bB (aB 1)) aE))) (aA (bG (aA (fC (.str "either")) (aA (bG (aA (bG (aA (bG (aA (fC (.str "word")) (aA (fC (.str "or")) aE))) aE)) (aA (bB (aB 1)) aE))) aE))) aE))) (f2 jH (f2 cR (aB 5) (fC (.int 8))) (fC (.int 1)))))))
  bH)
 (tM 1 (aI (bG (aA (aG bo (aA (f2 eM (aB 5) (fC (.int 64))) aE)) (aA (bB (aB 6)) aE)))))))))
 (bX (aI (bB (aB 1))))))))
abbrev pZ:Stmt:=top 42
abbrev mT:List Str:=["_law_script","_law_row_here"]
theorem fL:FnScope ["_law_script","_law_row_here","_law_number","_law_left","_law_k","_law_way","_law_piece"] mT (aW pZ):=cK
theorem yi4(ie:Dn K mg "_law_wrapped" pZ mT f fd)
  (af:Dn K mg "_law_mixed" gQ eJ bu a9) (ag:FnOk P w K mg base CX0 n bu a9 eJ (SpP 3 K κ aa))
  (bn:Dn K mg "_law_leaf" mS hV ja gl) (cv:FnOk P w K mg base CX0 n ja gl hV (SpP 1 K κ bo))
  (au:mg "range"=none):
  FnOk P w K mg base CX0 (n+1) f fd mT (SpP 2 K κ (gP 2 5 (ze3 aa bo))):=
 cP ie.F fL fun cdv A outer s H E B hr=>
 (aL (aZ 2 fL.nd (bU af ag hr rfl rfl (aF (aC 0) (aF (QP.v aH) (aF (QP.v aH) aQ))) (aJ (aJ (aJ bA)))))
 (aL (cA (QT.e (bV (yw4 (Room.units hr)) (QP.v (bC eO (aC 2) (QP.v aH))) (QP.v aH) (bN _)))
  (aM (bQ (QP.e (QV.p (aC 1)))))
  bS)
 (aL (aZ 3 fL.nd aH)
 (aL (nX 4 ZH rfl fL.nd rfl (.inl rfl) rfl rfl (mB rfl au (aF (QP.v (bC eK (QP.v aH) (QP.v (bC eO (QP.v (bC kO (aC 2) (QP.v aH))) (QP.v aH))))) aQ))
  (aL (aZ 5 fL.nd (bU af ag hr rfl rfl (aF (aC 0) (aF (QP.v (bC eK (QP.v aH) (aC 4))) (aF (QP.v aH) aQ))) (aJ (aJ (aJ bA)))))
 (aL (aZ 6 fL.nd (bY (aK bP (aK (bC eO (QP.v (bC kO (aC 5) (QP.v aH))) (QP.v aH)) (aK (QV.p (aC 1)) aX)))))
 (aL (cA (QT.e (oS (lE (xq9 (uO (Room.units0 hr)) (uO (Room.units0 hr)) (QP.v aH) (QP.v (bC eO (aC 5) (QP.v aH))) (QP.v aH)) (kB (bV zb0 (aC 3) (QP.v aH) (bN _))))))
  (aL (aZ 3 fL.nd (bC oH (aC 3) (QP.v aH)))
 (aM (aZ 6 fL.nd (oI (dW (aK (bY (aK bP (aK (QV.p (aC 1)) aX))) (aK (bY (aK bP (aK (bY (aK (bY (aK (bY (aK bP (aK bP aX))) aX)) (aK (QV.p (aC 1)) aX))) aX))) aX))) (QP.v (bC oH (QP.v (bC eO (aC 5) (QP.v aH))) (QP.v aH)))))))
  bS)
 (aM (wb4 1 fL.nd rfl (.inl rfl) rfl (QP.e (bY (aK (bU bn cv hr rfl rfl (aF (QP.v (bC kO (aC 5) (QP.v aH))) aQ) (aJ bA)) (aK (QV.p (aC 6)) aX))))))))))
 (aM (bQ (QP.e (QV.p (aC 1)))))))))
def xR(jz:(tz6))(aa:(tz6)):tz1:=
 (aT (aU 1 (aI (cZ aE)))
 (aT (eP 2 (eL (aA (fC (.int 49)) aE))
  (aT (cE (dA 1 bK (aA (bG (aA (fC (.str "word")) (aA (aG jz (aA (aG aa (aA (aB 0) (aA (aB 2) (aA (fC (.int 64)) aE)))) aE)) aE))) aE) cT))
 (cE (dA 1 bK (aA (bG (aA (fC (.str "group")) (aA (bG (aA (bG (aA (fC (.str "gap")) (aA (fC (.str " ")) aE))) aE)) aE))) aE) cT))))
 (bX (aI (aG eT (aA (fSl (aB 1) iA (lU (fC (.int 97)))) aE))))))
abbrev nN:Stmt:=top 43
abbrev kH:List Str:=["_law_script"]
theorem nH:FnScope ["_law_script","_law_row_here","_law_k"] kH (aW nN):=cK
theorem zt8(eh:Dn K mg "_law_paragraph" nN kH f fd)
  (gy:Dn K mg "_law_word" sP mR ot m9) (la:FnOk P w K mg base CX0 n ot m9 mR (SpP 1 K κ jz))
  (af:Dn K mg "_law_mixed" gQ eJ bu a9) (ag:FnOk P w K mg base CX0 n bu a9 eJ (SpP 3 K κ aa))
  (au:mg "range"=none)
  (bg:mg "tuple"=none):
  FnOk P w K mg base CX0 (n+1) f fd kH (SpP 1 K κ (gP 1 2 (xR jz aa))):=
 cP eh.F nH fun cdv A outer s H E B hr=>
 (aL (aZ 1 nH.nd (dW aX))
 (aL (nX 2 ZH rfl nH.nd rfl (.inl rfl) rfl rfl (mB rfl au (aF (QP.v aH) aQ))
  (aL (eA (jJ (j:=1) rfl (bO 1) (aK (bY (aK bP (aK (bU gy la hr rfl rfl (aF (QP.v (bU af ag hr rfl rfl (aF (aC 0) (aF (aC 2) (aF (QP.v aH) aQ))) (aJ (aJ (aJ bA))))) aQ) (aJ bA)) aX))) aX)))
 (aM (eA (jJ (j:=1) rfl (bO 1) (aK (bY (aK bP (aK (bY (aK (bY (aK bP (aK bP aX))) aX)) aX))) aX))))))
 (aM (bQ (QP.e (iP nD rfl bg YD (aF (QP.v (yg4 (aC 1) yq5 (yq6 (QP.v aH)))) aQ)))))))
def wA:tz1:=
 (bX (aI (bG (aA (bG (aA (fC (.str "either")) (aA (bG (aA (f2 zh4 (bG (aA (bG (aA (fC (.str "end")) aE)) aE)) (aB 0)) (aA (f2 zh4 (bG (aA (bG (aA (fC (.str "stop")) (aA (fC (.int 40)) aE))) (aA (bG (aA (fC (.str "end")) aE)) aE))) (f2 cD (aB 0) (fC (.int 1)))) aE))) aE))) aE))))
abbrev lV:Stmt:=top 44
abbrev jP:List Str:=["_law_many"]
theorem vO:FnScope ["_law_many"] jP (aW lV):=cK
theorem zn5(dq:Dn K mg "_law_two_prices" lV jP f fd)
     :
  FnOk P w K mg base CX0 (n+1) f fd jP (SpP 1 K κ (gP 1 0 (wA))):=
 cP dq.F vO fun cdv A outer s H E B hr=>
 (aM (bQ (QP.e (bY (aK (bY (aK bP (aK (bY (aK (bC xh1 (QP.v (bY (aK (bY (aK bP aX)) aX))) (aC 0)) (aK (bC xh1 (QP.v (bY (aK (bY (aK bP (aK aH aX))) (aK (bY (aK bP aX)) aX)))) (QP.v (bC eK (aC 0) (QP.v aH)))) aX))) aX))) aX)))))
def ze4(bo:(tz6))(aa:(tz6)):tz1:=
 (aT (aU 2 (aI (aG bo (aA (aG aa (aA (aB 0) (aA (aB 1) (aA (fC (.int 61)) aE)))) aE))))
 (aT (aU 3 (aI (aG bo (aA (aG aa (aA (aB 0) (aA (aB 1) (aA (fC (.int 62)) aE)))) aE))))
 (bX (aI (f2 dIx (cZ (aA (bG (aA (fC (.str "group")) (aA (bG (aA (bB (aB 2)) (aA (bB (aB 3)) aE))) aE))) (aA (bG (aA (fC (.str "group")) (aA (bG (aA (bB (aB 2)) aE)) aE))) (aA (bG (aA (fC (.str "either")) (aA (bG (aA (bG (aA (bB (aB 2)) aE)) (aA (bG (aA (bB (aB 3)) aE)) aE))) aE))) aE)))) (f2 cR (aG aa (aA (aB 0) (aA (aB 1) (aA (fC (.int 63)) aE)))) (fC (.int 3))))))))
abbrev qA:Stmt:=top 45
abbrev mU:List Str:=["_law_script","_law_k"]
theorem pI:FnScope ["_law_script","_law_k","_law_one","_law_other"] mU (aW qA):=cK
theorem yi5(ig:Dn K mg "_law_grouped" qA mU f fd)
  (bn:Dn K mg "_law_leaf" mS hV ja gl) (cv:FnOk P w K mg base CX0 n ja gl hV (SpP 1 K κ bo))
  (af:Dn K mg "_law_mixed" gQ eJ bu a9) (ag:FnOk P w K mg base CX0 n bu a9 eJ (SpP 3 K κ aa)):
  FnOk P w K mg base CX0 (n+1) f fd mU (SpP 2 K κ (gP 2 2 (ze4 bo aa))):=
 cP ig.F pI fun cdv A outer s H E B hr=>
 (aL (aZ 2 pI.nd (bU bn cv hr rfl rfl (aF (QP.v (bU af ag hr rfl rfl (aF (aC 0) (aF (aC 1) (aF (QP.v aH) aQ))) (aJ (aJ (aJ bA))))) aQ) (aJ bA)))
 (aL (aZ 3 pI.nd (bU bn cv hr rfl rfl (aF (QP.v (bU af ag hr rfl rfl (aF (aC 0) (aF (aC 1) (aF (QP.v aH) aQ))) (aJ (aJ (aJ bA))))) aQ) (aJ bA)))
 (aM (bQ (QP.e (oI (dW (aK (bY (aK bP (aK (bY (aK (QV.p (aC 2)) (aK (QV.p (aC 3)) aX))) aX))) (aK (bY (aK bP (aK (bY (aK (QV.p (aC 2)) aX)) aX))) (aK (bY (aK bP (aK (bY (aK (bY (aK (QV.p (aC 2)) aX)) (aK (bY (aK (QV.p (aC 3)) aX)) aX))) aX))) aX)))) (QP.v (bC eO (QP.v (bU af ag hr rfl rfl (aF (aC 0) (aF (aC 1) (aF (QP.v aH) aQ))) (aJ (aJ (aJ bA))))) (QP.v aH)))))))))
def wB(aa:(tz6))(nq:(tz6)):tz1:=
 (aT (aU 4 (aI (aG aa (aA (aB 0) (aA (f2 cD (f2 dIx (aB 1) (fC (.int 2))) (fC (.int 40))) (aA (aB 2) aE))))))
 (aT (fIf (aV (fB (f2 dEq (aB 2) (fC (.int 1)))))
  (aT (aU 5 (aI (f2 dIx (cZ (fKs [.int 1,.int 12,.int 144,.int 1728,.int 20736,.int 248832,.int 2985984,.int 35831808])) (f2 cR (f2 dIx (aB 1) (fC (.int 2))) (fC (.int 8))))))
 (aU 4 (aI (f2 eM (aG nq (aA (aB 0) (aA (f2 cD (fC (.int 40)) (f2 eM (f2 dIx (aB 1) (fC (.int 2))) (fC (.int 8)))) aE))) (aB 5)))))
  bH)
 (aT (dL 1 bK (fC (.int 2)) (f2 cD (f2 dIx (aB 1) (fC (.int 2))) (fC (.int 1))))
 (aT (cE (dA 1 (fP 1 bK (fC (.int 1))) (aA (f2 cR (aB 4) (aB 3)) aE) cT))
 (bX (aI (f2 cR (aB 4) (aB 3))))))))
abbrev wC:Stmt:=top 46
abbrev sS:List Str:=["_law_script","_law_state","_law_salt","_law_many"]
theorem rY:FnScope ["_law_script","_law_state","_law_salt","_law_many","_law_number","_law_share"] sS (aW wC):=cK
theorem xh7(j4:Dn K mg "_law_next" wC sS f fd)
  (af:Dn K mg "_law_mixed" gQ eJ bu a9) (ag:FnOk P w K mg base CX0 n bu a9 eJ (SpP 3 K κ aa))
  (ez:Dn K mg "_law_cell_at" mL vB re p8) (jo:FnOk P w K mg base CX0 n re p8 vB (SpP 2 K κ nq)):
  FnOk P w K mg base CX0 (n+1) f fd sS (SpE 4 K κ (bI [false,true,false,false]) (gE 4 2 (bI [false,true,false,false]) (wB aa nq))):=
 jU j4.F rY (fun i hi=>fE hi) fun cdv A outer s H E hr=>
 (aL (aZ 4 rY.nd (bU af ag hr rfl rfl (aF (aC 0) (aF (QP.v (bC eK (bL (aC 1) (QP.v aH)) (QP.v aH))) (aF (aC 2) aQ))) (aJ (aJ (aJ bA)))))
 (aL (cA (QT.e (bV (gG (Room.units hr)) (aC 2) (QP.v aH) (bN _)))
  (aL (aZ 5 rY.nd (oI (dW (pH (.int (.int (.int (.int (.int (.int (.int (.int .nil)))))))))) (QP.v (bC eO (bL (aC 1) (QP.v aH)) (QP.v aH)))))
 (aM (aZ 4 rY.nd (bC kO (QP.v (bU ez jo hr rfl rfl (aF (aC 0) (aF (QP.v (bC eK (QP.v aH) (QP.v (bC kO (bL (aC 1) (QP.v aH)) (QP.v aH))))) aQ)) (aJ (aJ bA)))) (aC 5)))))
  bS)
 (aL (uR (j:=1) rfl (bC eK (bL (aC 1) (QP.v aH)) (QP.v aH)) (bO 1) (QP.v aH))
 (aL (eA (jJ (j:=1) rfl (kQ (bO 1) (QP.v aH)) (aK (bC eO (aC 4) (aC 3)) aX)))
 (aM (bQ (QP.e (bC eO (aC 4) (aC 3)))))))))
def ze5:tz1:=
 (dL 0 bK (fC (.int 0)) (f2 cD (f2 cD (f2 dIx (aB 0) (fC (.int 0))) (fC (.str "\n"))) (f2 iK (fC (.str " ")) (aB 1))))
abbrev sT:Stmt:=top 47
abbrev mV:List Str:=["_law_state","_law_blanks"]
theorem zz3:FnScope ["_law_state","_law_blanks"] mV (aW sT):=cK
theorem xh8(gz:Dn K mg "_law_line" sT mV f fd)
     :
  FnOk P w K mg base CX0 (n+1) f fd mV (SpE 2 K κ (bI [true,false]) (gE 2 0 (bI [true,false]) (ze5))):=
 jU gz.F zz3 (fun i hi=>fE hi) fun cdv A outer s H E hr=>
 (aM (uR (j:=0) rfl (bC eK (QP.v (bC eK (bL (aC 0) (QP.v aH)) (QP.v bP))) (QP.v (bC vK (QP.v bP) (aC 1)))) (bO 0) (QP.v aH)))
def wT:tz1:=
 (bX (aI (f2 jH (f2 jH (aG cM (aA (f2 dIx (aB 0) (fC (.int 0))) aE)) (fC (.int 1))) (fMt zq2 (f2 dIx (aB 0) (fC (.int 0))) (aA (fC (.str "\n")) aE)))))
abbrev rM:Stmt:=top 48
abbrev oC:List Str:=["_law_state"]
theorem zi7:FnScope ["_law_state"] oC (aW rM):=cK
theorem yo7(g4:Dn K mg "_law_column" rM oC f fd)
  (ac:mg "len"=none):
  FnOk P w K mg base CX0 (n+1) f fd oC (SpP 1 K κ (gP 1 0 (wT))):=
 cP g4.F zi7 fun cdv A outer s H E B hr=>
 (aM (bQ (QP.e (bC oH (QP.v (bC oH (QP.v (cY fV rfl ac ZO (aF (bL (aC 0) (QP.v aH)) aQ))) (QP.v aH))) (QP.v (zf9 PySem.F.slot_str_rfind PySem.F.type_str_rfind wc0 (bL (aC 0) (QP.v aH)) (aF (QP.v bP) aQ)))))))
def wD(ma:(tz6))(j5:(tz7)):tz1:=
 (aT (fIf (aV (fB (f2 dGt (aG ma (aA (aB 0) aE)) (aB 2))))
  (aT (fIf (aV (fT (aB 1)))
  (bX (aI (fC (.bl false))))
  bH)
 (cE (fIO [.io 0,.im (fC (.int 0))] j5)))
  bH)
 (aT (dL 0 bK (fC (.int 0)) (f2 cD (f2 dIx (aB 0) (fC (.int 0))) (f2 iK (fC (.str " ")) (f2 jH (aB 2) (aG ma (aA (aB 0) aE))))))
 (bX (aI (fC (.bl true))))))
abbrev wE:Stmt:=top 49
abbrev sU:List Str:=["_law_state","_law_flat","_law_column_here"]
theorem zz4:FnScope ["_law_state","_law_flat","_law_column_here"] sU (aW wE):=cK
theorem xh9(lb:Dn K mg "_law_stop" wE sU f fd)
  (g4:Dn K mg "_law_column" rM oC sj rf) (me:FnOk P w K mg base CX0 n sj rf oC (SpP 1 K κ ma))
  (gz:Dn K mg "_law_line" sT mV oy na) (lc:FnOk P w K mg base CX0 n oy na mV (SpE 2 K κ (bI [true,false]) j5)):
  FnOk P w K mg base CX0 (n+1) f fd sU (SpE 3 K κ (bI [true,false,false]) (gE 3 0 (bI [true,false,false]) (wD ma j5))):=
 jU lb.F zz4 (fun i hi=>fE hi) fun cdv A outer s H E hr=>
 (aL (cA (QT.e (bV zb0 (QP.v (bU g4 me hr rfl rfl (aF (aC 0) aQ) (aJ bA))) (aC 2) (bN _)))
  (aL (cA (QT.e (gJ (aC 1)))
  (aM (bQ (QP.e jI)))
  bS)
 (aM (eA (nF gz lc hr rfl (kC 0 (bJ (QP.v aH) dD)) rfl (eY rfl) (nd1 0) (qO 0)))))
  bS)
 (aL (uR (j:=0) rfl (bC eK (bL (aC 0) (QP.v aH)) (QP.v (bC vK (QP.v bP) (QP.v (bC oH (aC 2) (QP.v (bU g4 me hr rfl rfl (aF (aC 0) aQ) (aJ bA)))))))) (bO 0) (QP.v aH))
 (aM (bQ (QP.e jI)))))
def oM(rq:(tz7))(j5:(tz7)):tz1:=
 (aT (fIf (aV (fB (f2 dEq (f2 dIx (aB 0) (fC (.int 0))) (fC (.str "stop")))))
  (bX (fIO [.io 3,.im (aB 1),.im (f2 dIx (aB 0) (fC (.int 1)))] rq))
  bH)
 (aT (fIf (aV (qT (fB (f2 dEq (f2 dIx (aB 0) (fC (.int 0))) (fC (.str "word")))) (dS (fB (f2 dEq (f2 dIx (aB 0) (fC (.int 0))) (fC (.str "gap")))) (fT (aB 1)))))
  (dL 3 bK (fC (.int 0)) (f2 cD (f2 dIx (aB 3) (fC (.int 0))) (f2 dIx (aB 0) (fC (.int 1)))))
  (fIf (aV (fT (aB 1)))
  (bX (aI (fC (.bl false))))
  (cE (fIO [.io 3,.im (aB 2)] j5))))
 (bX (aI (fC (.bl true))))))
abbrev oN:Stmt:=top 50
abbrev lH:List Str:=["_law_piece","_law_flat","_law_hang","_law_state"]
theorem zY:FnScope ["_law_piece","_law_flat","_law_hang","_law_state"] lH (aW oN):=cK
theorem yc4(ge:Dn K mg "_law_leaf_set" oN lH f fd)
  (lb:Dn K mg "_law_stop" wE sU ug tz) (rz:FnOk P w K mg base CX0 n ug tz sU (SpE 3 K κ (bI [true,false,false]) rq))
  (gz:Dn K mg "_law_line" sT mV oy na) (lc:FnOk P w K mg base CX0 n oy na mV (SpE 2 K κ (bI [true,false]) j5)):
  FnOk P w K mg base CX0 (n+1) f fd lH (SpE 4 K κ (bI [false,false,false,true]) (gE 4 0 (bI [false,false,false,true]) (oM rq j5))):=
 jU ge.F zY (fun i hi=>fE hi) fun cdv A outer s H E hr=>
 (aL (cA (QT.e (bV (gG (Room.units hr)) (bL (aC 0) (QP.v aH)) (QP.v bP) (bN _)))
  (aM (bQ (nF lb rz hr rfl (kC 3 (bJ (aC 1) (bJ (bL (aC 0) (QP.v aH)) dD))) rfl (eY rfl) (nd1 3) (qO 3))))
  bS)
 (aL (cA (QT.e (oS (yd1 (bV (gG (Room.units hr)) (bL (aC 0) (QP.v aH)) (QP.v bP) (bN _)) (zm2 (oS (lE (bV (gG (Room.units hr)) (bL (aC 0) (QP.v aH)) (QP.v bP) (bN _)) (kB (gJ (aC 1)))))))))
  (aM (uR (j:=3) rfl (bC eK (bL (aC 3) (QP.v aH)) (bL (aC 0) (QP.v aH))) (bO 3) (QP.v aH)))
  (aM (cA (QT.e (gJ (aC 1)))
  (aM (bQ (QP.e jI)))
  (aM (eA (nF gz lc hr rfl (kC 3 (bJ (aC 2) dD)) rfl (eY rfl) (nd1 3) (qO 3)))))))
 (aM (bQ (QP.e jI)))))
def zK(oz:(tz7))(ii:(tz7))(mn:(tz7)):tz1:=
 (aT (eP 6 (eC (aB 1))
  (aT (aU 7 (aI (fC (.bl true))))
 (aT (fIf (aV (fB (f2 dEq (f2 dIx (aB 6) (fC (.int 0))) (fC (.str "group")))))
  (aT (aU 8 (aI (bB (aB 2))))
 (aT (fIf (aV (dS (jE (fT (aB 2))) (fB (f2 dGt (aB 5) (fC (.int 0))))))
  (aU 8 (fE2 dEq (fIO [.im (aB 0),.io 4,.im (aB 5),.im (fC (.int 2))] oz) (fC (.int 0))))
  (fIf (aV (jE (fT (aB 2))))
  (cE (dA 4 (fP 4 bK (fC (.int 1))) (aA (fC (.int 1)) aE) cT))
  bH))
 (aU 7 (fIO [.im (aB 0),.im (f2 dIx (aB 6) (fC (.int 1))),.im (aB 8),.im (aB 3),.io 4,.im (aB 5)] ii))))
  (fIf (aV (fB (f2 dEq (f2 dIx (aB 6) (fC (.int 0))) (fC (.str "hang")))))
  (aU 7 (fIO [.im (aB 0),.im (f2 dIx (aB 6) (fC (.int 2))),.im (aB 2),.im (f2 cD (aB 3) (f2 dIx (aB 6) (fC (.int 1)))),.io 4,.im (aB 5)] ii))
  (fIf (aV (fB (f2 dEq (f2 dIx (aB 6) (fC (.int 0))) (fC (.str "either")))))
  (aT (aU 9 (fIO [.im (aB 0),.io 4,.im (f2 cD (aB 5) (f2 iK (fC (.int 9)) (aG oJ (aA (f2 dEq (aB 5) (fC (.int 0))) aE)))),.im (aG cM (aA (f2 dIx (aB 6) (fC (.int 1))) aE))] oz))
 (aU 7 (fIO [.im (aB 0),.im (f2 dIx (f2 dIx (aB 6) (fC (.int 1))) (aB 9)),.im (aB 2),.im (aB 3),.io 4,.im (aB 5)] ii)))
  (aU 7 (fIO [.im (aB 6),.im (aB 2),.im (aB 3),.io 4] mn)))))
 (fIf (aV (jE (fT (aB 7))))
  (bX (aI (fC (.bl false))))
  bH))))
 (bX (aI (fC (.bl true)))))
abbrev zL:Stmt:=top 51
abbrev qX:List Str:=["_law_script","_law_row_here","_law_flat","_law_hang","_law_state","_law_salt"]
theorem iU:FnScope ["_law_script","_law_row_here","_law_flat","_law_hang","_law_state","_law_salt","_law_piece","_law_good","_law_inner","_law_at"] qX (aW zL):=cK
theorem xs5(ij:Dn K mg "_law_set" zL qX f fd)
  (j4:Dn K mg "_law_next" wC sS uh t4) (o3:FnOk P w K mg base CX0 n uh t4 sS (SpE 4 K κ (bI [false,true,false,false]) oz))
  (j7:FnOk P w K mg base CX0 n f fd qX (SpE 6 K κ (bI [false,false,false,false,true,false]) ii))
  (ge:Dn K mg "_law_leaf_set" oN lH p9 pb) (mo:FnOk P w K mg base CX0 n p9 pb lH (SpE 4 K κ (bI [false,false,false,true]) mn))
  (ac:mg "len"=none)
  (u7:mg "int"=none):
  FnOk P w K mg base CX0 (n+1) f fd qX (SpE 6 K κ (bI [false,false,false,false,true,false]) (gE 6 4 (bI [false,false,false,false,true,false]) (zK oz ii mn))):=
 jU ij.F iU (fun i hi=>fE hi) fun cdv A outer s H E hr=>
 (aL (zs5 6 1 ZH rfl iU.nd rfl (.inl rfl) rfl rfl rfl
  (aL (aZ 7 iU.nd jI)
 (aL (cA (QT.e (bV (gG (Room.units hr)) (bL (aC 6) (QP.v aH)) (QP.v bP) (bN _)))
  (aL (aZ 8 iU.nd (QV.p (aC 2)))
 (aL (cA (QT.e (oS (lE (rR (gJ (aC 2))) (kB (bV zb0 (aC 5) (QP.v aH) (bN _))))))
  (aM (rT 8 iU.nd rfl (.inl rfl) rfl rfl (wj7 (gG (Room.units hr)) (nF j4 o3 hr rfl (bJ (aC 0) (kC 4 (bJ (aC 5) (bJ (QP.v aH) dD)))) rfl (eY rfl) (nd1 4) (qO 4)) (QP.v aH) (bN _))))
  (aM (cA (QT.e (rR (gJ (aC 2))))
  (aM (eA (jJ (j:=4) rfl (kQ (bO 4) (QP.v aH)) (aK aH aX))))
  bS)))
 (aM (rT 7 iU.nd rfl (.inl rfl) rfl rfl (nF ij j7 hr rfl (bJ (aC 0) (bJ (bL (aC 6) (QP.v aH)) (bJ (aC 8) (bJ (aC 3) (kC 4 (bJ (aC 5) dD)))))) rfl (eY rfl) (nd1 4) (qO 4))))))
  (aM (cA (QT.e (bV (gG (Room.units hr)) (bL (aC 6) (QP.v aH)) (QP.v bP) (bN _)))
  (aM (rT 7 iU.nd rfl (.inl rfl) rfl rfl (nF ij j7 hr rfl (bJ (aC 0) (bJ (bL (aC 6) (QP.v aH)) (bJ (aC 2) (bJ (QP.v (bC eK (aC 3) (bL (aC 6) (QP.v aH)))) (kC 4 (bJ (aC 5) dD)))))) rfl (eY rfl) (nd1 4) (qO 4))))
  (aM (cA (QT.e (bV (gG (Room.units hr)) (bL (aC 6) (QP.v aH)) (QP.v bP) (bN _)))
  (aL (rT 9 iU.nd rfl (.inl rfl) rfl rfl (nF j4 o3 hr rfl (bJ (aC 0) (kC 4 (bJ (QP.v (bC eK (aC 5) (QP.v (bC vK (QP.v aH) (QP.v (iP wq0 rfl u7 boot_int (aF (QP.v (wY (gG (Room.units hr)) (aC 5) (QP.v aH) (bN _))) aQ))))))) (bJ (QP.v (cY fV rfl ac ZO (aF (bL (aC 6) (QP.v aH)) aQ))) dD)))) rfl (eY rfl) (nd1 4) (qO 4)))
 (aM (rT 7 iU.nd rfl (.inl rfl) rfl rfl (nF ij j7 hr rfl (bJ (aC 0) (bJ (bL (bL (aC 6) (QP.v aH)) (aC 9)) (bJ (aC 2) (bJ (aC 3) (kC 4 (bJ (aC 5) dD)))))) rfl (eY rfl) (nd1 4) (qO 4)))))
  (aM (rT 7 iU.nd rfl (.inl rfl) rfl rfl (nF ge mo hr rfl (bJ (aC 6) (bJ (aC 2) (bJ (aC 3) (kC 4 dD)))) rfl (eY rfl) (nd1 4) (qO 4)))))))))
 (aM (cA (QT.e (rR (gJ (aC 7))))
  (aM (bQ (QP.e jI)))
  bS)))))
 (aM (bQ (QP.e jI))))
def zq5(ii:(tz7)):tz1:=
 (aT (aU 3 (aI (cZ (aA (fC (.str "")) (aA (cZ aE) (aA (fC (.int 0)) aE))))))
 (aT (fIf (fTE (fIO [.im (aB 0),.im (aB 1),.im (fC (.bl false)),.im (fC (.int 0)),.io 3,.im (aB 2)] ii))
  (bX (aI (bG (aA (bB (f2 dIx (aB 3) (fC (.int 0)))) (aA (aG eT (aA (f2 dIx (aB 3) (fC (.int 1))) aE)) aE)))))
  bH)
 (aT (aU 3 (aI (cZ (aA (fC (.str "")) (aA (cZ aE) (aA (fC (.int 0)) aE))))))
 (aT (cE (fIO [.im (aB 0),.im (aB 1),.im (fC (.bl false)),.im (fC (.int 0)),.io 3,.im (fC (.int 0))] ii))
 (bX (aI (bG (aA (bB (f2 dIx (aB 3) (fC (.int 0)))) (aA (aG eT (aA (f2 dIx (aB 3) (fC (.int 1))) aE)) aE)))))))))
abbrev tT:Stmt:=top 52
abbrev qB:List Str:=["_law_script","_law_row_here","_law_salt"]
theorem tL:FnScope ["_law_script","_law_row_here","_law_salt","_law_state"] qB (aW tT):=cK
theorem yy0(jb:Dn K mg "_law_drawn" tT qB f fd)
  (ij:Dn K mg "_law_set" zL qX u0 ui) (j7:FnOk P w K mg base CX0 n u0 ui qX (SpE 6 K κ (bI [false,false,false,false,true,false]) ii))
  (bg:mg "tuple"=none):
  FnOk P w K mg base CX0 (n+1) f fd qB (SpP 3 K κ (gP 3 1 (zq5 ii))):=
 cP jb.F tL fun cdv A outer s H E B hr=>
 (aL (aZ 3 tL.nd (dW (aK bP (aK (dW aX) (aK aH aX)))))
 (aL (cA (wc1 (nF ij j7 hr rfl (bJ (aC 0) (bJ (aC 1) (bJ (QP.v jI) (bJ (QP.v aH) (kC 3 (bJ (aC 2) dD)))))) rfl (eY rfl) (nd1 3) (qO 3)))
  (aM (bQ (QP.e (bY (aK (QV.p (bL (aC 3) (QP.v aH))) (aK (iP nD rfl bg YD (aF (bL (aC 3) (QP.v aH)) aQ)) aX))))))
  bS)
 (aL (aZ 3 tL.nd (dW (aK bP (aK (dW aX) (aK aH aX)))))
 (aL (eA (nF ij j7 hr rfl (bJ (aC 0) (bJ (aC 1) (bJ (QP.v jI) (bJ (QP.v aH) (kC 3 (bJ (QP.v aH) dD)))))) rfl (eY rfl) (nd1 3) (qO 3)))
 (aM (bQ (QP.e (bY (aK (QV.p (bL (aC 3) (QP.v aH))) (aK (iP nD rfl bg YD (aF (bL (aC 3) (QP.v aH)) aQ)) aX))))))))))
def yb6:tz1:=
 (aT (aU 2 (aI (fMt sH (aB 0) (aA (fC (.str "\n")) aE))))
 (aT (aU 3 (aI (fC (.int 0))))
 (aT (eP 4 (eL (aA (aG cM (aA (aB 2) aE)) aE))
  (aT (fIf (aV (fB (f2 dGt (aG cM (aA (f2 dIx (aB 2) (aB 4)) aE)) (aB 1))))
  (bX (aI (fC .non)))
  bH)
 (fIf (aV (fB (f2 dLt (f2 cD (aB 4) (fC (.int 1))) (aG cM (aA (aB 2) aE)))))
  (aU 3 (aI (f2 cD (aB 3) (f2 ym3 (f2 jH (aB 1) (aG cM (aA (f2 dIx (aB 2) (aB 4)) aE))) (fC (.int 2))))))
  bH)))
 (bX (aI (bG (aA (aG cM (aA (aB 2) aE)) (aA (bB (aB 3)) aE))))))))
abbrev wH:Stmt:=top 53
abbrev sV:List Str:=["_law_text","_law_width_here"]
theorem oX:FnScope ["_law_text","_law_width_here","_law_lines","_law_rag","_law_k"] sV (aW wH):=cK
theorem xi0(jc:Dn K mg "_law_cost" wH sV f fd)
  (au:mg "range"=none)
  (ac:mg "len"=none):
  FnOk P w K mg base CX0 (n+1) f fd sV (SpP 2 K κ (gP 2 3 (yb6))):=
 cP jc.F oX fun cdv A outer s H E B hr=>
 (aL (aZ 2 oX.nd (zf9 X4 X5 zs4 (aC 0) (aF (QP.v bP) aQ)))
 (aL (aZ 3 oX.nd aH)
 (aL (nX 4 ZH rfl oX.nd rfl (.inl rfl) rfl rfl (mB rfl au (aF (QP.v (cY fV rfl ac ZO (aF (aC 2) aQ))) aQ))
  (aL (cA (QT.e (bV zb0 (QP.v (cY fV rfl ac ZO (aF (bL (aC 2) (aC 4)) aQ))) (aC 1) (bN _)))
  (aM (bQ (QP.e kA)))
  bS)
 (aM (cA (QT.e (bV (uO (Room.units0 hr)) (QP.v (bC eK (aC 4) (QP.v aH))) (QP.v (cY fV rfl ac ZO (aF (aC 2) aQ))) (bN _)))
  (aM (aZ 3 oX.nd (bC eK (aC 3) (QP.v (bC wp9 (QP.v (bC oH (aC 1) (QP.v (cY fV rfl ac ZO (aF (bL (aC 2) (aC 4)) aQ))))) (QP.v aH))))))
  bS))))
 (aM (bQ (QP.e (bY (aK (cY fV rfl ac ZO (aF (aC 2) aQ)) (aK (QV.p (aC 3)) aX)))))))))
def zi9:tz1:=
 (aT (eP 2 (eL (aA (aG rG (aA (aG cM (aA (aB 0) aE)) (aA (aG cM (aA (aB 1) aE)) aE))) aE))
  (fIf (aV (fB (f2 dNe (f2 dIx (aB 0) (aB 2)) (f2 dIx (aB 1) (aB 2)))))
  (bX (aI (f2 dGt (f2 dIx (aB 0) (aB 2)) (f2 dIx (aB 1) (aB 2)))))
  bH))
 (bX (aI (fC (.bl false)))))
abbrev rN:Stmt:=top 54
abbrev oE:List Str:=["_law_one","_law_other"]
theorem wM:FnScope ["_law_one","_law_other","_law_k"] oE (aW rN):=cK
theorem yo8(g5:Dn K mg "_law_behind" rN oE f fd)
  (au:mg "range"=none)
  (kn:mg "min"=none)
  (ac:mg "len"=none):
  FnOk P w K mg base CX0 (n+1) f fd oE (SpP 2 K κ (gP 2 1 (zi9))):=
 cP g5.F wM fun cdv A outer s H E B hr=>
 (aL (nX 2 ZH rfl wM.nd rfl (.inl rfl) rfl rfl (mB rfl au (aF (QP.v (cY (xf3 rfl) rfl kn boot_min (aF (QP.v (cY fV rfl ac ZO (aF (aC 0) aQ))) (aF (QP.v (cY fV rfl ac ZO (aF (aC 1) aQ))) aQ)))) aQ))
  (aM (cA (QT.e (bV (yw4 (Room.units hr)) (bL (aC 0) (aC 2)) (bL (aC 1) (aC 2)) (bN _)))
  (aM (bQ (QP.e (wY zb0 (bL (aC 0) (aC 2)) (bL (aC 1) (aC 2)) (bN _)))))
  bS)))
 (aM (bQ (QP.e jI))))
def zq6(aa:(tz6)):tz1:=
 (aT (aU 2 (aI (aG aa (aA (aB 0) (aA (fC (.int 1)) (aA (fC (.int 50)) aE))))))
 (aT (aU 3 (aI (aG ye1 (aA (iL [none] (eC (fMt sH (aB 1) (aA (fC (.str "\n")) aE))) gW (aG cM (aA (aB 0) aE))) aE))))
 (aT (aU 4 (aI (f2 dIx (cZ (aA (bB (aB 3)) (aA (f2 cD (aB 3) (f2 cR (f2 eM (aB 2) (fC (.int 4))) (fC (.int 4)))) (aA (f2 cD (fC (.int 8)) (f2 cR (f2 eM (aB 2) (fC (.int 4))) (fC (.int 20)))) (aA (f2 cD (fC (.int 1)) (f2 cR (f2 eM (aB 2) (fC (.int 4))) (fC (.int 40)))) aE))))) (f2 cR (aB 2) (fC (.int 4))))))
 (bX (aI (aG rG (aA (fC (.int 40)) (aA (aG zD (aA (fC (.int 1)) (aA (aB 4) aE))) aE))))))))
abbrev qC:Stmt:=top 55
abbrev qD:List Str:=["_law_script","_law_text"]
theorem pJ:FnScope ["_law_script","_law_text","_law_number","_law_longest","_law_width_here"] qD (aW qC):=cK
theorem yy1(j8:Dn K mg "_law_width" qC qD f fd)
  (af:Dn K mg "_law_mixed" gQ eJ bu a9) (ag:FnOk P w K mg base CX0 n bu a9 eJ (SpP 3 K κ aa))
  (oo:mg "max"=none)
  (kn:mg "min"=none)
  (ac:mg "len"=none):
  FnOk P w K mg base CX0 (n+1) f fd qD (SpP 2 K κ (gP 2 3 (zq6 aa))):=
 cP j8.F pJ fun cdv A outer s H E B hr=>
 (aL (aZ 2 pJ.nd (bU af ag hr rfl rfl (aF (aC 0) (aF (QP.v aH) (aF (QP.v aH) aQ))) (aJ (aJ (aJ bA)))))
 (aL (aZ 3 pJ.nd (cY (wj9 rfl) rfl oo boot_max (aF (QP.v (uC (sc:=aW qC) (NX:=["_law_script","_law_text","_law_number","_law_longest","_law_width_here"]) (N:=["_law_line_here"]) (pick:=[none]) ⟨rfl,by decide+kernel,by decide+kernel,by decide+kernel,by decide+kernel,by decide,rfl⟩ rfl rfl rfl (zm4 (QP.v (zf9 X4 X5 zs4 (aC 1) (aF (QP.v bP) aQ)))) (fun _ _ _ _=>(gB (i:=0) (show(["_law_line_here"]:List Str).Nodup by decide) rfl (by first|exact Or.inl rfl|exact Or.inr rfl))) (fun _ _ _ _=>uB) (fun _ _ _ _=>(cY fV rfl ac ZO (aF (aC 0) aQ))))) aQ)))
 (aL (aZ 4 pJ.nd (oI (dW (aK (QV.p (aC 3)) (aK (bC eK (aC 3) (QP.v (bC eO (QP.v (bC kO (aC 2) (QP.v aH))) (QP.v aH)))) (aK (bC eK (QP.v aH) (QP.v (bC eO (QP.v (bC kO (aC 2) (QP.v aH))) (QP.v aH)))) (aK (bC eK (QP.v aH) (QP.v (bC eO (QP.v (bC kO (aC 2) (QP.v aH))) (QP.v aH)))) aX))))) (QP.v (bC eO (aC 2) (QP.v aH)))))
 (aM (bQ (QP.e (cY (xf3 rfl) rfl kn boot_min (aF (QP.v aH) (aF (QP.v (cY (wj4 rfl) rfl oo boot_max (aF (QP.v aH) (aF (aC 4) aQ)))) aQ)))))))))
def ze6(nr:(tz6))(mq:(List D->Bool)):tz1:=
 (aT (zq3 mq (aA (aB 0) (aA (aB 1) aE))
  (aU 2 (aI (aG nr (aA (aB 0) (aA (aB 1) aE))))))
 (rH 2))
abbrev qE:Stmt:=top 56
abbrev mW:List Str:=["_law_row_here","_law_width_here"]
theorem uU:FnScope ["_law_row_here","_law_width_here","_law_found"] mW (aW qE):=cK
theorem yi6(iq:Dn K mg "_law_pressed" qE mW f fd)
  (b7:Dn K mg "pressed" mQ hU nu mw) (nv:FnOk P w K mg base CX0 n nu mw hU (SpP 2 K κ nr))
   (mx:FnOk P w K mg base (CXn P w base cu) n nu mw hU (zd7 2 K κ cu mq))
  (i9:OwnCls "NoRoom" cu bmV "ValueError.__new__" mg base):
  FnOk P w K mg base CX0 (n+1) f fd mW (SpP 2 K κ (gP 2 1 (ze6 nr mq))):=
 cP iq.F uU fun cdv A outer s H E B hr=>
 (aL (wd4 b7 mx i9 rfl hr rfl rfl rfl (aF (aC 0) (aF (aC 1) aQ)) (aJ (aJ bA)) (aM (aZ 2 uU.nd (bU b7 nv hr rfl rfl (aF (aC 0) (aF (aC 1) aQ)) (aJ (aJ bA))))) rfl rfl)
 (aM (oW 2 rfl)))
def xn9(ny:(tz6))(sx:(tz6))(aa:(tz6))(bo:(tz6))(nz:(tz6))(l4:(tz6))(qe:(tz6))(ng:(tz6))(lg:(tz6))(n6:(tz6))(gv:(tz6))(my:(tz6))(mf:(tz6)):tz1:=
 (aT (aU 1 (aI (aG ny (aA (aB 0) (aA (aG sx (aA (aB 0) (aA (fC (.int 8)) (aA (f2 cR (aG aa (aA (aB 0) (aA (fC (.int 0)) (aA (fC (.int 51)) aE)))) (fC (.int 25))) (aA (fC (.int 3)) aE))))) aE)))))
 (aT (aU 2 (aI (f2 cR (aG aa (aA (aB 0) (aA (fC (.int 0)) (aA (fC (.int 59)) aE)))) (fC (.int 16)))))
 (aT (fIf (aV (fB (f2 dEq (aB 2) (fC (.int 3)))))
  (aU 1 (aI (aG eT (aA (iL [none,some 0] (eL (aA (fC (.int 196)) aE)) gW (aG bo (aA (aG aa (aA (aB 1) (aA (aB 0) (aA (fC (.int 60)) aE)))) aE))) aE))))
  bH)
 (aT (fIf (aV (fB (f2 dEq (aB 2) (fC (.int 5)))))
  (aU 1 (aI (aG eT (aA (iL [none,some 0] (eL (aA (fC (.int 24)) aE)) gW (aG nz (aA (aB 1) (aA (aB 0) aE)))) aE))))
  bH)
 (aT (fIf (aV (fB (f2 dEq (aB 2) (fC (.int 7)))))
  (aU 1 (aI (aG l4 (aA (aB 0) aE))))
  bH)
 (aT (aU 3 (aI (aG qe (aA (aB 0) (aA (f2 dIx (aG ng (aA (aB 0) (aA (aB 1) (aA (fC (.int 1)) aE)))) (fC (.int 0))) aE)))))
 (aT (fIf (aV (fB (f2 dEq (aB 2) (fC (.int 9)))))
  (aT (aU 1 (aI (aG lg (aA (f2 dIx (cZ (fKs [.int 14,.int 16,.int 20,.int 63])) (f2 cR (aG aa (aA (aB 0) (aA (fC (.int 1)) (aA (fC (.int 59)) aE)))) (fC (.int 4)))) aE))))
 (aU 3 (aI (fC (.int 40)))))
  bH)
 (aT (aU 4 (aI (aG n6 (aA (aB 1) (aA (aB 3) aE)))))
 (aT (fIf (aV (fB (f2 nZ (aB 4) (fC .non))))
  (fIf (aV (qT (fB (f2 dNe (f2 dIx (aB 4) (fC (.int 0))) (aG gv (aA (aB 1) (aA (f2 dIx (aB 4) (fC (.int 1))) aE))))) (fB (f2 dIs (aG my (aA (f2 dIx (aB 4) (fC (.int 0))) (aA (aB 3) aE))) (fC .non)))))
  (bX (aI (fC (.bl false))))
  bH)
  bH)
 (aT (eP 5 (pP (aA (fC (.int 1)) (aA (fC (.int 9)) aE)))
  (aT (nS [6,7] (aI (aG ng (aA (aB 0) (aA (aB 1) (aA (aB 5) aE))))))
 (aT (aU 8 (aI (aG my (aA (aB 6) (aA (aB 3) aE)))))
 (fIf (aV (fB (f2 nZ (aB 8) (fC .non))))
  (aT (fIf (aV (fB (f2 dIs (aB 4) (fC .non))))
  (bX (aI (fC (.bl false))))
  bH)
 (aT (aU 9 (aI (aG my (aA (f2 dIx (aB 4) (fC (.int 0))) (aA (aB 3) aE)))))
 (aT (fIf (aV (dS (fB (f2 dNe (aB 9) (aB 8))) (fT (aG mf (aA (aB 9) (aA (aB 8) aE))))))
  (bX (aI (fC (.bl false))))
  bH)
 (fIf (aV (dS (fB (f2 dEq (aB 9) (aB 8))) (fT (aG mf (aA (f2 dIx (aB 4) (fC (.int 1))) (aA (aB 7) aE))))))
  (bX (aI (fC (.bl false))))
  bH))))
  bH))))
 (bX (aI (fC (.bl true))))))))))))))
abbrev ze7:Stmt:=top 57
abbrev yn0:List Str:=["_law_script"]
theorem iH:FnScope ["_law_script","_law_row_here","_law_way","_law_width_here","_law_found","_law_salt","_law_text","_law_choices","_law_cost_here","_law_told"] yn0 (aW ze7):=cK
theorem wk1(u8:Dn K mg "law" ze7 yn0 f fd)
  (ie:Dn K mg "_law_wrapped" pZ mT rh qg) (n8:FnOk P w K mg base CX0 n rh qg mT (SpP 2 K κ ny))
  (mi:Dn K mg "_law_row" zJ vF u4 uj) (sy:FnOk P w K mg base CX0 n u4 uj vF (SpP 4 K κ sx))
  (af:Dn K mg "_law_mixed" gQ eJ bu a9) (ag:FnOk P w K mg base CX0 n bu a9 eJ (SpP 3 K κ aa))
  (bn:Dn K mg "_law_leaf" mS hV ja gl) (cv:FnOk P w K mg base CX0 n ja gl hV (SpP 1 K κ bo))
  (ig:Dn K mg "_law_grouped" qA mU rj qh) (n9:FnOk P w K mg base CX0 n rj qh mU (SpP 2 K κ nz))
  (eh:Dn K mg "_law_paragraph" nN kH pd oj) (l5:FnOk P w K mg base CX0 n pd oj kH (SpP 1 K κ l4))
  (j8:Dn K mg "_law_width" qC qD t5 sk) (qi:FnOk P w K mg base CX0 n t5 sk qD (SpP 2 K κ qe))
  (jb:Dn K mg "_law_drawn" tT qB t6 so) (nh:FnOk P w K mg base CX0 n t6 so qB (SpP 3 K κ ng))
  (dq:Dn K mg "_law_two_prices" lV jP ol nj) (lh:FnOk P w K mg base CX0 n ol nj jP (SpP 1 K κ lg))
  (iq:Dn K mg "_law_pressed" qE mW rk qj) (oa:FnOk P w K mg base CX0 n rk qj mW (SpP 2 K κ n6))
  (di:Dn K mg "set_by" oB jS l9 lm) (jj:FnOk P w K mg base CX0 n l9 lm jS (SpP 2 K κ gv))
  (jc:Dn K mg "_law_cost" wH sV uk t7) (mz:FnOk P w K mg base CX0 n uk t7 sV (SpP 2 K κ my))
  (g5:Dn K mg "_law_behind" rN oE sr rl) (mh:FnOk P w K mg base CX0 n sr rl oE (SpP 2 K κ mf))
  (au:mg "range"=none)
  (bg:mg "tuple"=none):
  FnOk P w K mg base CX0 (n+1) f fd yn0 (SpP 1 K κ (gP 1 9 (xn9 ny sx aa bo nz l4 qe ng lg n6 gv my mf))):=
 cP u8.F iH fun cdv A outer s H E B hr=>
 (aL (aZ 1 iH.nd (bU ie n8 hr rfl rfl (aF (aC 0) (aF (QP.v (bU mi sy hr rfl rfl (aF (aC 0) (aF (QP.v aH) (aF (QP.v (bC eO (QP.v (bU af ag hr rfl rfl (aF (aC 0) (aF (QP.v aH) (aF (QP.v aH) aQ))) (aJ (aJ (aJ bA))))) (QP.v aH))) (aF (QP.v aH) aQ)))) (aJ (aJ (aJ (aJ bA)))))) aQ)) (aJ (aJ bA))))
 (aL (aZ 2 iH.nd (bC eO (QP.v (bU af ag hr rfl rfl (aF (aC 0) (aF (QP.v aH) (aF (QP.v aH) aQ))) (aJ (aJ (aJ bA))))) (QP.v aH)))
 (aL (cA (QT.e (bV (gG (Room.units hr)) (aC 2) (QP.v aH) (bN _)))
  (aM (aZ 1 iH.nd (iP nD rfl bg YD (aF (QP.v (uC (sc:=aW ze7) (NX:=["_law_script","_law_row_here","_law_way","_law_width_here","_law_found","_law_salt","_law_text","_law_choices","_law_cost_here","_law_told"]) (N:=["_law_k","_law_script"]) (pick:=[none,some 0]) ⟨rfl,by decide+kernel,by decide+kernel,by decide+kernel,by decide+kernel,by decide,rfl⟩ rfl rfl rfl (QIP.v (mB rfl au (aF (QP.v aH) aQ))) (fun _ _ _ _=>(gB (i:=0) (show(["_law_k","_law_script"]:List Str).Nodup by decide) rfl (by first|exact Or.inl rfl|exact Or.inr rfl))) (fun _ _ _ _=>uB) (fun _ _ _ _=>(bU bn cv hr rfl rfl (aF (QP.v (bU af ag hr rfl rfl (aF (aC 1) (aF (aC 0) (aF (QP.v aH) aQ))) (aJ (aJ (aJ bA))))) aQ) (aJ bA))))) aQ))))
  bS)
 (aL (cA (QT.e (bV (gG (Room.units hr)) (aC 2) (QP.v aH) (bN _)))
  (aM (aZ 1 iH.nd (iP nD rfl bg YD (aF (QP.v (uC (sc:=aW ze7) (NX:=["_law_script","_law_row_here","_law_way","_law_width_here","_law_found","_law_salt","_law_text","_law_choices","_law_cost_here","_law_told"]) (N:=["_law_k","_law_script"]) (pick:=[none,some 0]) ⟨rfl,by decide+kernel,by decide+kernel,by decide+kernel,by decide+kernel,by decide,rfl⟩ rfl rfl rfl (QIP.v (mB rfl au (aF (QP.v aH) aQ))) (fun _ _ _ _=>(gB (i:=0) (show(["_law_k","_law_script"]:List Str).Nodup by decide) rfl (by first|exact Or.inl rfl|exact Or.inr rfl))) (fun _ _ _ _=>uB) (fun _ _ _ _=>(bU ig n9 hr rfl rfl (aF (aC 1) (aF (aC 0) aQ)) (aJ (aJ bA)))))) aQ))))
  bS)
 (aL (cA (QT.e (bV (gG (Room.units hr)) (aC 2) (QP.v aH) (bN _)))
  (aM (aZ 1 iH.nd (bU eh l5 hr rfl rfl (aF (aC 0) aQ) (aJ bA))))
  bS)
 (aL (aZ 3 iH.nd (bU j8 qi hr rfl rfl (aF (aC 0) (aF (QP.v (oI (bU jb nh hr rfl rfl (aF (aC 0) (aF (aC 1) (aF (QP.v aH) aQ))) (aJ (aJ (aJ bA)))) (QP.v aH))) aQ)) (aJ (aJ bA))))
 (aL (cA (QT.e (bV (gG (Room.units hr)) (aC 2) (QP.v aH) (bN _)))
  (aL (aZ 1 iH.nd (bU dq lh hr rfl rfl (aF (QP.v (oI (dW (pH (.int (.int (.int (.int .nil)))))) (QP.v (bC eO (QP.v (bU af ag hr rfl rfl (aF (aC 0) (aF (QP.v aH) (aF (QP.v aH) aQ))) (aJ (aJ (aJ bA))))) (QP.v aH))))) aQ) (aJ bA)))
 (aM (aZ 3 iH.nd aH)))
  bS)
 (aL (aZ 4 iH.nd (bU iq oa hr rfl rfl (aF (aC 1) (aF (aC 3) aQ)) (aJ (aJ bA))))
 (aL (cA (QT.e (bV zf8 (aC 4) (QP.v kA) (bN _)))
  (aM (cA (QT.e (oS (yd1 (bV (yw4 (Room.units hr)) (bL (aC 4) (QP.v aH)) (QP.v (bU di jj hr rfl rfl (aF (aC 1) (aF (bL (aC 4) (QP.v aH)) aQ)) (aJ (aJ bA)))) (bN _)) (zm2 (bV yw5 (QP.v (bU jc mz hr rfl rfl (aF (bL (aC 4) (QP.v aH)) (aF (aC 3) aQ)) (aJ (aJ bA)))) (QP.v kA) (bN _))))))
  (aM (bQ (QP.e jI)))
  bS))
  bS)
 (aL (nX 5 ZH rfl iH.nd rfl (by first|exact Or.inl rfl|exact Or.inr rfl) rfl rfl (zx8 rfl au (aF (QP.v aH) (aF (QP.v aH) aQ)))
  (aL (zy2 (is:=[6,7]) rfl (lY (gB (i:=6) iH.nd rfl (by first|exact Or.inl rfl|exact Or.inr rfl)) (lY (gB (i:=7) iH.nd rfl (by first|exact Or.inl rfl|exact Or.inr rfl)) zr5)) (QP.e (bU jb nh hr rfl rfl (aF (aC 0) (aF (aC 1) (aF (aC 5) aQ))) (aJ (aJ (aJ bA))))) (fun j hj=>by simp only [Z5,ZJ,YW] at hj;rcases hj with rfl|rfl<;>exact⟨rfl,rfl⟩))
 (aL (aZ 8 iH.nd (bU jc mz hr rfl rfl (aF (aC 6) (aF (aC 3) aQ)) (aJ (aJ bA))))
 (aM (cA (QT.e (bV zf8 (aC 8) (QP.v kA) (bN _)))
  (aL (cA (QT.e (bV yw5 (aC 4) (QP.v kA) (bN _)))
  (aM (bQ (QP.e jI)))
  bS)
 (aL (aZ 9 iH.nd (bU jc mz hr rfl rfl (aF (bL (aC 4) (QP.v aH)) (aF (aC 3) aQ)) (aJ (aJ bA))))
 (aL (cA (QT.e (oS (lE (bV (yw4 (Room.units hr)) (aC 9) (aC 8) (bN _)) (kB (gJ (QP.v (bU g5 mh hr rfl rfl (aF (aC 9) (aF (aC 8) aQ)) (aJ (aJ bA)))))))))
  (aM (bQ (QP.e jI)))
  bS)
 (aM (cA (QT.e (oS (lE (bV (gG (Room.units hr)) (aC 9) (aC 8) (bN _)) (kB (gJ (QP.v (bU g5 mh hr rfl rfl (aF (bL (aC 4) (QP.v aH)) (aF (aC 7) aQ)) (aJ (aJ bA)))))))))
  (aM (bQ (QP.e jI)))
  bS)))))
  bS)))))
 (aM (bQ (QP.e jI)))))))))))))
def za4:tz1:=
 (aT (iB 0 bK "Place" "broken" (bB (aB 1)))
 (iB 0 bK "Place" "margin" (bB (aB 2))))
abbrev st_Place_init:Stmt:=iR (top 6) 0
abbrev ps_Place_init:List Str:=["self","broken","margin"]
theorem zZ:FnScope ["self","broken","margin"] ps_Place_init (aW st_Place_init):=cK
theorem yc5(ic:Kn K mg κ "Place" "Place.__init__" st_Place_init ps_Place_init f fd)
  (az:Cls K (κ "Place"))
  (bq:cN K (κ "Place") "broken")
  (dj:cN K (κ "Place") "margin"):
  FnOk P w K mg base CX0 (n+1) f fd ps_Place_init (SpE 3 K κ (bI [true,false,false]) (gE 3 0 (bI [true,false,false]) (za4))):=
 jU ic.F zZ (fun i hi=>fE hi) fun cdv A outer s H E hr=>
 (aL (gT (C:="Place") az bq rfl (QV.p (aC 1)) (bO 0))
 (aM (gT (C:="Place") az dj rfl (QV.p (aC 2)) (bO 0))))
def tD:tz1:=
 (aT (iB 0 bK "Front" "steps" (bB (aB 1)))
 (iB 0 bK "Front" "best" tN))
abbrev st_Front_init:Stmt:=iR (top 16) 0
abbrev ps_Front_init:List Str:=["self","steps"]
theorem za0:FnScope ["self","steps"] ps_Front_init (aW st_Front_init):=cK
theorem yc6(ci:Kn K mg κ "Front" "Front.__init__" st_Front_init ps_Front_init f fd)
  (ae:Cls K (κ "Front"))
  (cj:cN K (κ "Front") "steps")
  (aj:cN K (κ "Front") "best"):
  FnOk P w K mg base CX0 (n+1) f fd ps_Front_init (SpE 2 K κ (bI [true,false]) (gE 2 0 (bI [true,false]) (tD))):=
 jU ci.F za0 (fun i hi=>fE hi) fun cdv A outer s H E hr=>
 (aL (gT (C:="Front") ae cj rfl (QV.p (aC 1)) (bO 0))
 (aM (gT (C:="Front") ae aj rfl xr8 (bO 0))))
def mX:tz1:=
 (fIf (aV (qT (fB (f2 lL (aB 1) (cQ "Front" "best" (aB 0)))) (fB (f2 ym6 (aB 2) (f2 lO (cQ "Front" "best" (aB 0)) (aB 1))))))
  (tR 0 (yd7 0 bK "Front" "best") (aB 1) (bB (aB 2)))
  bH)
abbrev st_Front_add:Stmt:=iR (top 16) 1
abbrev ps_Front_add:List Str:=["self","state","way"]
theorem zc2:FnScope ["self","state","way"] ps_Front_add (aW st_Front_add):=cK
theorem yi7(ao:Mn K κ "Front" "add" "Front.add" st_Front_add ps_Front_add f fd)
  (ae:Cls K (κ "Front"))
  (aj:cN K (κ "Front") "best"):
  FnOk P w K mg base CX0 (n+1) f fd ps_Front_add (SpE 3 K κ (bI [true,false,false]) (gE 3 0 (bI [true,false,false]) (mX))):=
 jU ao.F zc2 (fun i hi=>fE hi) fun cdv A outer s H E hr=>
 (aM (cA (QT.e (oS (yd1 (xg9 (zf6 hr) (aC 1) (dH (C:="Front") ae aj (aC 0))) (zm2 (bV (wq6 (Room.units hr)) (aC 2) (zg0 (zf6 hr) (dH (C:="Front") ae aj (aC 0)) (aC 1)) (bN _))))))
  (aM (wc5 (j:=0) (zf6 hr) rfl (QV.p (aC 2)) (zy0 (C:="Front") ae aj (bO 0)) (aC 1)))
  bS))
def lA(am:(tz7)):tz1:=
 (eP 2 (xQ (bB (cQ "Front" "best" (aB 1))))
  (cE (dA 0 bK (cJ [.im (aB 2),.im (f2 lO (cQ "Front" "best" (aB 1)) (aB 2))]) (eD "Front" "add" am))))
abbrev st_Front_add_all:Stmt:=iR (top 16) 2
abbrev ps_Front_add_all:List Str:=["self","other"]
theorem oV:FnScope ["self","other","state"] ps_Front_add_all (aW st_Front_add_all):=cK
theorem zk1(da:Mn K κ "Front" "add_all" "Front.add_all" st_Front_add_all ps_Front_add_all f fd)
  (ao:Mn K κ "Front" "add" "Front.add" st_Front_add ps_Front_add dk c7) (bc:FnOk P w K mg base CX0 n dk c7 ps_Front_add (SpE 3 K κ (bI [true,false,false]) am))
  (ae:Cls K (κ "Front"))
  (aj:cN K (κ "Front") "best"):
  FnOk P w K mg base CX0 (n+1) f fd ps_Front_add_all (SpE 2 K κ (bI [true,false]) (gE 2 1 (bI [true,false]) (lA am))):=
 jU da.F oV (fun i hi=>fE hi) fun cdv A outer s H E hr=>
 (aM (nX 2 ZH rfl oV.nd rfl (.inl rfl) rfl rfl (zt6 (QV.p (dH (C:="Front") ae aj (aC 1))))
  (aM (eA (lK ao bc hr rfl (bO 0) (bJ (aC 2) (bJ (zg0 (zf6 hr) (dH (C:="Front") ae aj (aC 1)) (aC 2)) dD)) rfl rfl (dN 2))))))
def lP:tz1:=
 (iB 0 bK "WithinWidth" "width" (bB (aB 1)))
abbrev st_WithinWidth_init:Stmt:=iR (top 27) 0
abbrev ps_WithinWidth_init:List Str:=["self","width"]
theorem qL:FnScope ["self","width"] ps_WithinWidth_init (aW st_WithinWidth_init):=cK
theorem za5(d9:Kn K mg κ "WithinWidth" "WithinWidth.__init__" st_WithinWidth_init ps_WithinWidth_init f fd)
  (ay:Cls K (κ "WithinWidth"))
  (fg:cN K (κ "WithinWidth") "width"):
  FnOk P w K mg base CX0 (n+1) f fd ps_WithinWidth_init (SpE 2 K κ (bI [true,false]) (gE 2 0 (bI [true,false]) (lP))):=
 jU d9.F qL (fun i hi=>fE hi) fun cdv A outer s H E hr=>
 (aM (gT (C:="WithinWidth") ay fg rfl (QV.p (aC 1)) (bO 0)))
def kN(fj:(tz6))(bp:(tz6))(de:(tz6))(g6:(tz6)):tz1:=
 (aT (aU 5 (aI (aG fj (aA (aB 3) (aA (aB 4) (aA (aB 1) aE))))))
 (aT (fIf (aV (fB (f2 dIs (aB 5) (fC .non))))
  (bX (aI (fC .non)))
  bH)
 (aT (aU 6 (aI (aG bp (aA (aB 1) (aA (aB 5) aE)))))
 (aT (fIf (aV (fB (f2 dGt (aB 6) (cQ "WithinWidth" "width" (aB 0)))))
  (bX (aI (fC .non)))
  bH)
 (aT (fIf (aV (fT (aG de (aA (aB 5) aE))))
  (bX (aI (bG (aA (bB (aB 6)) (aA (bG (aA (f2 cD (f2 dIx (aB 2) (fC (.int 0))) (fC (.int 1))) (aA (f2 cD (f2 dIx (aB 2) (fC (.int 1))) (aG g6 (aA (sI "WithinWidth" "rag_of" (aB 0)) (aA (aB 1) aE)))) aE))) aE)))))
  bH)
 (bX (aI (bG (aA (bB (aB 6)) (aA (bB (aB 2)) aE))))))))))
abbrev st_WithinWidth_state_behind:Stmt:=iR (top 27) 1
abbrev ps_WithinWidth_state_behind:List Str:=["self","length","cost","piece","place"]
theorem fH:FnScope ["self","length","cost","piece","place","wrote","column"] ps_WithinWidth_state_behind (aW st_WithinWidth_state_behind):=cK
theorem rZ(al:Mn K κ "WithinWidth" "state_behind" "WithinWidth.state_behind" st_WithinWidth_state_behind ps_WithinWidth_state_behind f fd)
  (cw:Dn K mg "writing" mP iZ lq ko) (ir:FnOk P w K mg base CX0 n lq ko iZ (SpP 3 K κ fj))
  (aq:Dn K mg "column_behind" gY eW f9 eu) (cf:FnOk P w K mg base CX0 n f9 eu eW (SpP 2 K κ bp))
  (bx:Dn K mg "ends_line" kG gN jr jg) (d8:FnOk P w K mg base CX0 n jr jg gN (SpP 1 K κ de))
  (bi:Mn K κ "WithinWidth" "rag_of" "WithinWidth.rag_of" st_WithinWidth_rag_of ps_WithinWidth_rag_of kq j9) (g7:FnOk P w K mg base CX0 n kq j9 ps_WithinWidth_rag_of (SpP 2 K κ g6))
  (ay:Cls K (κ "WithinWidth"))
  (fg:cN K (κ "WithinWidth") "width"):
  FnOk P w K mg base CX0 (n+1) f fd ps_WithinWidth_state_behind (SpP 5 K κ (gP 5 2 (kN fj bp de g6))):=
 cP al.F fH fun cdv A outer s H E B hr=>
 (aL (aZ 5 fH.nd (bU cw ir hr rfl rfl (aF (aC 3) (aF (aC 4) (aF (aC 1) aQ))) (aJ (aJ (aJ bA)))))
 (aL (cA (QT.e (bV yw5 (aC 5) (QP.v kA) (bN _)))
  (aM (bQ (QP.e kA)))
  bS)
 (aL (aZ 6 fH.nd (bU aq cf hr rfl rfl (aF (aC 1) (aF (aC 5) aQ)) (aJ (aJ bA))))
 (aL (cA (QT.e (bV zb0 (aC 6) (dH (C:="WithinWidth") ay fg (aC 0)) (bN _)))
  (aM (bQ (QP.e kA)))
  bS)
 (aL (cA (QT.e (gJ (QP.v (bU bx d8 hr rfl rfl (aF (aC 5) aQ) (aJ bA)))))
  (aM (bQ (QP.e (bY (aK (QV.p (aC 6)) (aK (bY (aK (bC eK (bL (aC 2) (QP.v aH)) (QP.v aH)) (aK (bC eK (bL (aC 2) (QP.v aH)) (QP.v (yi0 bi g7 hr (aC 0) rfl (aF (aC 1) aQ) (aJ bA)))) aX))) aX))))))
  bS)
 (aM (bQ (QP.e (bY (aK (QV.p (aC 6)) (aK (QV.p (aC 2)) aX)))))))))))
def pC:tz1:=
 (bX (aI (f2 iK (f2 jH (cQ "WithinWidth" "width" (aB 0)) (aB 1)) (f2 jH (cQ "WithinWidth" "width" (aB 0)) (aB 1)))))
abbrev st_WithinWidth_rag_of:Stmt:=iR (top 27) 2
abbrev ps_WithinWidth_rag_of:List Str:=["self","length"]
theorem oY:FnScope ["self","length"] ps_WithinWidth_rag_of (aW st_WithinWidth_rag_of):=cK
theorem xD(bi:Mn K κ "WithinWidth" "rag_of" "WithinWidth.rag_of" st_WithinWidth_rag_of ps_WithinWidth_rag_of f fd)
  (ay:Cls K (κ "WithinWidth"))
  (fg:cN K (κ "WithinWidth") "width"):
  FnOk P w K mg base CX0 (n+1) f fd ps_WithinWidth_rag_of (SpP 2 K κ (gP 2 0 (pC))):=
 cP bi.F oY fun cdv A outer s H E B hr=>
 (aM (bQ (QP.e (bC vK (QP.v (bC oH (dH (C:="WithinWidth") ay fg (aC 0)) (aC 1))) (QP.v (bC oH (dH (C:="WithinWidth") ay fg (aC 0)) (aC 1)))))))
def qY:tz1:=
 (aT (iB 0 bK "Setter" "choices" (bB (aB 1)))
 (aT (iB 0 bK "Setter" "used" (fC (.int 0)))
 (aT (iB 0 bK "Setter" "column" (fC (.int 0)))
 (iB 0 bK "Setter" "parts" (cZ aE)))))
abbrev st_Setter_init:Stmt:=iR (top 30) 0
abbrev ps_Setter_init:List Str:=["self","choices"]
theorem xE:FnScope ["self","choices"] ps_Setter_init (aW st_Setter_init):=cK
theorem zt9(k9:Kn K mg κ "Setter" "Setter.__init__" st_Setter_init ps_Setter_init f fd)
  (ah:Cls K (κ "Setter"))
  (cz:cN K (κ "Setter") "choices")
  (ej:cN K (κ "Setter") "used")
  (gm:cN K (κ "Setter") "column")
  (g8:cN K (κ "Setter") "parts"):
  FnOk P w K mg base CX0 (n+1) f fd ps_Setter_init (SpE 2 K κ (bI [true,false]) (gE 2 0 (bI [true,false]) (qY))):=
 jU k9.F xE (fun i hi=>fE hi) fun cdv A outer s H E hr=>
 (aL (gT (C:="Setter") ah cz rfl (QV.p (aC 1)) (bO 0))
 (aL (gT (C:="Setter") ah ej rfl aH (bO 0))
 (aL (gT (C:="Setter") ah gm rfl aH (bO 0))
 (aM (gT (C:="Setter") ah g8 rfl (dW aX) (bO 0))))))
def jT:tz1:=
 (aT (fIf (aV (fB (f2 dGe (cQ "Setter" "used" (aB 0)) (aG cM (aA (cQ "Setter" "choices" (aB 0)) aE)))))
  xN
  bH)
 (aT (aU 2 (aI (bB (f2 dIx (cQ "Setter" "choices" (aB 0)) (cQ "Setter" "used" (aB 0))))))
 (aT (fIf (aV (qT (fB (f2 dLt (aB 2) (fC (.int 0)))) (fB (f2 dGe (aB 2) (aB 1)))))
  xN
  bH)
 (aT (iB 0 bK "Setter" "used" (f2 cD (cQ "Setter" "used" (aB 0)) (fC (.int 1))))
 (rH 2)))))
abbrev gR:Stmt:=iR (top 30) 1
abbrev fM:List Str:=["self","count"]
theorem jR:FnScope ["self","count","number"] fM (aW gR):=cK
theorem wN(ba:Mn K κ "Setter" "choice_below" "Setter.choice_below" gR fM f fd)
  (ah:Cls K (κ "Setter"))
  (ej:cN K (κ "Setter") "used")
  (cz:cN K (κ "Setter") "choices")
  (ac:mg "len"=none):
  FnOk P w K mg base CX0 (n+1) f fd fM (SpE 2 K κ (bI [true,false]) (gE 2 1 (bI [true,false]) (jT))):=
 jU ba.F jR (fun i hi=>fE hi) fun cdv A outer s H E hr=>
 (aL (cA (QT.e (bV wj1 (dH (C:="Setter") ah ej (aC 0)) (QP.v (cY fV rfl ac ZO (aF (dH (C:="Setter") ah cz (aC 0)) aQ))) (bN _)))
  (aM uP)
  bS)
 (aL (aZ 2 jR.nd (QV.p (bL (dH (C:="Setter") ah cz (aC 0)) (dH (C:="Setter") ah ej (aC 0)))))
 (aL (cA (QT.e (oS (yd1 (bV (uO (Room.units0 hr)) (aC 2) (QP.v aH) (bN _)) (zm2 (bV wj1 (aC 2) (aC 1) (bN _))))))
  (aM uP)
  bS)
 (aL (gT (C:="Setter") ah ej rfl (bC eK (dH (C:="Setter") ah ej (aC 0)) (QP.v aH)) (bO 0))
 (aM (oW 2 rfl))))))
def jF(fj:(tz6))(bp:(tz6)):tz1:=
 (aT (aU 3 (aI (aG fj (aA (aB 1) (aA (aB 2) (aA (cQ "Setter" "column" (aB 0)) aE))))))
 (aT (fIf (aV (fB (f2 dIs (aB 3) (fC .non))))
  xN
  bH)
 (aT (cE (dA 0 (yd7 0 bK "Setter" "parts") (aA (bB (aB 3)) aE) cT))
 (iB 0 bK "Setter" "column" (aG bp (aA (cQ "Setter" "column" (aB 0)) (aA (aB 3) aE)))))))
abbrev jG:Stmt:=iR (top 30) 2
abbrev gK:List Str:=["self","piece","place"]
theorem lM:FnScope ["self","piece","place","wrote"] gK (aW jG):=cK
theorem za6(b6:Mn K κ "Setter" "set_plain" "Setter.set_plain" jG gK f fd)
  (cw:Dn K mg "writing" mP iZ lq ko) (ir:FnOk P w K mg base CX0 n lq ko iZ (SpP 3 K κ fj))
  (aq:Dn K mg "column_behind" gY eW f9 eu) (cf:FnOk P w K mg base CX0 n f9 eu eW (SpP 2 K κ bp))
  (ah:Cls K (κ "Setter"))
  (gm:cN K (κ "Setter") "column")
  (g8:cN K (κ "Setter") "parts"):
  FnOk P w K mg base CX0 (n+1) f fd gK (SpE 3 K κ (bI [true,false,false]) (gE 3 1 (bI [true,false,false]) (jF fj bp))):=
 jU b6.F lM (fun i hi=>fE hi) fun cdv A outer s H E hr=>
 (aL (aZ 3 lM.nd (bU cw ir hr rfl rfl (aF (aC 1) (aF (aC 2) (aF (dH (C:="Setter") ah gm (aC 0)) aQ))) (aJ (aJ (aJ bA)))))
 (aL (cA (QT.e (bV yw5 (aC 3) (QP.v kA) (bN _)))
  (aM uP)
  bS)
 (aL (eA (jJ (j:=0) rfl (zy0 (C:="Setter") ah g8 (bO 0)) (aK (QV.p (aC 3)) aX)))
 (aM (gT (C:="Setter") ah gm rfl (bU aq cf hr rfl rfl (aF (dH (C:="Setter") ah gm (aC 0)) (aF (aC 3) aQ)) (aJ (aJ bA))) (bO 0))))))
def iM(ju:(tz6))(bz:(tz6))(gf:(tz7))(b5:(tz7)):tz1:=
 (aT (aU 3 (aI (aG ju (aA (aB 1) (aA (aB 2) aE)))))
 (aT (aU 4 (aI (fC (.int 0))))
 (aT (fIf (aV (fT (aG bz (aA (aB 1) (aA (aB 2) aE)))))
  (aU 4 (dA 0 bK (cJ [.im (aG cM (aA (aB 3) aE))]) (eD "Setter" "choice_below" gf)))
  bH)
 (aT (aU 5 (aI (bB (f2 dIx (aB 3) (aB 4)))))
 (cE (dA 0 bK (cJ [.im (f2 dIx (aB 5) (fC (.int 0))),.im (f2 dIx (aB 5) (fC (.int 1)))]) (eD "Setter" "set_row" b5)))))))
abbrev iN:Stmt:=iR (top 30) 3
abbrev gA:List Str:=["self","piece","place"]
theorem eZ:FnScope ["self","piece","place","found","number","way"] gA (aW iN):=cK
theorem yE(bw:Mn K κ "Setter" "set_holder" "Setter.set_holder" iN gA f fd)
  (gn:Dn K mg "ways" pB mO oq m6) (k7:FnOk P w K mg base CX0 n oq m6 mO (SpP 2 K κ ju))
  (av:Dn K mg "takes_choice" iI fF gq fk) (cq:FnOk P w K mg base CX0 n gq fk fF (SpP 2 K κ bz))
  (ba:Mn K κ "Setter" "choice_below" "Setter.choice_below" gR fM ka jp) (gh:FnOk P w K mg base CX0 n ka jp fM (SpE 2 K κ (bI [true,false]) gf))
  (aw:Mn K κ "Setter" "set_row" "Setter.set_row" st_Setter_set_row ps_Setter_set_row gu fm) (d7:FnOk P w K mg base CX0 n gu fm ps_Setter_set_row (SpE 3 K κ (bI [true,false,false]) b5))
  (ac:mg "len"=none):
  FnOk P w K mg base CX0 (n+1) f fd gA (SpE 3 K κ (bI [true,false,false]) (gE 3 3 (bI [true,false,false]) (iM ju bz gf b5))):=
 jU bw.F eZ (fun i hi=>fE hi) fun cdv A outer s H E hr=>
 (aL (aZ 3 eZ.nd (bU gn k7 hr rfl rfl (aF (aC 1) (aF (aC 2) aQ)) (aJ (aJ bA))))
 (aL (aZ 4 eZ.nd aH)
 (aL (cA (QT.e (gJ (QP.v (bU av cq hr rfl rfl (aF (aC 1) (aF (aC 2) aQ)) (aJ (aJ bA))))))
  (aM (rT 4 eZ.nd rfl (.inl rfl) rfl rfl (lK ba gh hr rfl (bO 0) (bJ (QP.v (cY fV rfl ac ZO (aF (aC 3) aQ))) dD) rfl rfl (dN 1))))
  bS)
 (aL (aZ 5 eZ.nd (QV.p (bL (aC 3) (aC 4))))
 (aM (eA (lK aw d7 hr rfl (bO 0) (bJ (bL (aC 5) (QP.v aH)) (bJ (bL (aC 5) (QP.v aH)) dD)) rfl rfl (dN 2))))))))
def jW(cr:(tz6))(iy:(tz7))(jd:(tz7)):tz1:=
 (eP 3 (eC (aB 1))
  (fIf (aV (fT (aG cr (aA (aB 3) aE))))
  (cE (dA 0 bK (cJ [.im (aB 3),.im (aB 2)]) (eD "Setter" "set_holder" iy)))
  (cE (dA 0 bK (cJ [.im (aB 3),.im (aB 2)]) (eD "Setter" "set_plain" jd)))))
abbrev st_Setter_set_row:Stmt:=iR (top 30) 4
abbrev ps_Setter_set_row:List Str:=["self","row","place"]
theorem nQ:FnScope ["self","row","place","piece"] ps_Setter_set_row (aW st_Setter_set_row):=cK
theorem zi2(aw:Mn K κ "Setter" "set_row" "Setter.set_row" st_Setter_set_row ps_Setter_set_row f fd)
  (bd:Dn K mg "holds_rows" jN fZ ji i4) (dm:FnOk P w K mg base CX0 n ji i4 fZ (SpP 1 K κ cr))
  (bw:Mn K κ "Setter" "set_holder" "Setter.set_holder" iN gA ky kr) (pe:FnOk P w K mg base CX0 n ky kr gA (SpE 3 K κ (bI [true,false,false]) iy))
  (b6:Mn K κ "Setter" "set_plain" "Setter.set_plain" jG gK lx kz) (je:FnOk P w K mg base CX0 n lx kz gK (SpE 3 K κ (bI [true,false,false]) jd)):
  FnOk P w K mg base CX0 (n+1) f fd ps_Setter_set_row (SpE 3 K κ (bI [true,false,false]) (gE 3 1 (bI [true,false,false]) (jW cr iy jd))):=
 jU aw.F nQ (fun i hi=>fE hi) fun cdv A outer s H E hr=>
 (aM (zs5 3 1 ZH rfl nQ.nd rfl (.inl rfl) rfl rfl rfl
  (aM (cA (QT.e (gJ (QP.v (bU bd dm hr rfl rfl (aF (aC 3) aQ) (aJ bA)))))
  (aM (eA (lK bw pe hr rfl (bO 0) (bJ (aC 3) (bJ (aC 2) dD)) rfl rfl (dN 2))))
  (aM (eA (lK b6 je hr rfl (bO 0) (bJ (aC 3) (bJ (aC 2) dD)) rfl rfl (dN 2))))))))
def lB:tz1:=
 (aT (fIf (aV (fB (f2 dLt (cQ "Setter" "used" (aB 0)) (aG cM (aA (cQ "Setter" "choices" (aB 0)) aE)))))
  xN
  bH)
 (bX (aI (fMt zq0 (fC (.str "")) (aA (cQ "Setter" "parts" (aB 0)) aE)))))
abbrev st_Setter_whole_text:Stmt:=iR (top 30) 5
abbrev ps_Setter_whole_text:List Str:=["self"]
theorem pK:FnScope ["self"] ps_Setter_whole_text (aW st_Setter_whole_text):=cK
theorem yF(bv:Mn K κ "Setter" "whole_text" "Setter.whole_text" st_Setter_whole_text ps_Setter_whole_text f fd)
  (ah:Cls K (κ "Setter"))
  (ej:cN K (κ "Setter") "used")
  (g8:cN K (κ "Setter") "parts")
  (cz:cN K (κ "Setter") "choices")
  (ac:mg "len"=none):
  FnOk P w K mg base CX0 (n+1) f fd ps_Setter_whole_text (SpP 1 K κ (gP 1 0 (lB))):=
 cP bv.F pK fun cdv A outer s H E B hr=>
 (aL (cA (QT.e (bV (uO (Room.units0 hr)) (dH (C:="Setter") ah ej (aC 0)) (QP.v (cY fV rfl ac ZO (aF (dH (C:="Setter") ah cz (aC 0)) aQ))) (bN _)))
  (aM uP)
  bS)
 (aM (bQ (QP.e (zf9 PySem.F.slot_str_join PySem.F.type_str_join wj5 (QP.v bP) (aF (dH (C:="Setter") ah g8 (aC 0)) aQ))))))
end L3
namespace My
open PySem PySem.Spec PyProof.Rows L2 L3
abbrev MxH(GM:List D->Option D)(S:D):Prop:=∀j s:Int,0<=j->j<1000->0<=s->s<1000->∃a,GM [S,.int j,.int s]=some (.int a)/\0<=a
def bF:Leaf->D
 | .word x=> .tup [.str "word",.str x]
 | .gap x=> .tup [.str "gap",.str x]
 | .stop c=> .tup [.str "stop",.int c]
 | .fin=> .tup [.str "end"]
mutual
def pcD:Pc->D
 | .leaf l=>bF l
 | .group r=> .tup [.str "group",.tup (pcsD r)]
 | .hang n r=> .tup [.str "hang",.int n,.tup (pcsD r)]
 | .either rs=> .tup [.str "either",.tup (rowsD rs)]
def pcsD:List Pc->List D
 |[]=>[]
 |p::r=>pcD p::pcsD r
def rowsD:List (List Pc)->List D
 |[]=>[]
 |r::rs=> .tup (pcsD r)::rowsD rs
end
theorem yG(l:Leaf):(bF l).imm=true:=by cases l<;>rfl
mutual
theorem xF:∀p:Pc,(pcD p).imm=true
 | .leaf l=>yG l
 | .group r=>by show(D.imm (.str "group")&&(D.imm (.tup (pcsD r))&&D.imms []))=true;rw [show D.imm (.tup (pcsD r))=D.imms (pcsD r) from rfl,pcs_imm r];rfl
 | .hang n r=>by show(D.imm (.str "hang")&&(D.imm (.int n)&&(D.imm (.tup (pcsD r))&&D.imms [])))=true;rw [show D.imm (.tup (pcsD r))=D.imms (pcsD r) from rfl,pcs_imm r];rfl
 | .either rs=>by show(D.imm (.str "either")&&(D.imm (.tup (rowsD rs))&&D.imms []))=true;rw [show D.imm (.tup (rowsD rs))=D.imms (rowsD rs) from rfl,rows_imm rs];rfl
theorem pcs_imm:∀r:List Pc,D.imms (pcsD r)=true
 |[]=>rfl
 |p::r=>by show(D.imm (pcD p)&&D.imms (pcsD r))=true;rw [xF p,pcs_imm r];rfl
theorem rows_imm:∀rs:List (List Pc),D.imms (rowsD rs)=true
 |[]=>rfl
 |r::rs=>by show(D.imm (.tup (pcsD r))&&D.imms (rowsD rs))=true;rw [show D.imm (.tup (pcsD r))=D.imms (pcsD r) from rfl,pcs_imm r,rows_imm rs];rfl
end
theorem yH:∀a b:List Pc,pcsD (a++b)=pcsD a++pcsD b
 |[],b=>rfl
 |p::a,b=>by show pcD p::pcsD (a++b)=pcD p::(pcsD a++pcsD b);rw [yH a b]
theorem zc3:∀a b:List (List Pc),rowsD (a++b)=rowsD a++rowsD b
 |[],b=>rfl
 |p::a,b=>by show D.tup (pcsD p)::rowsD (a++b)=D.tup (pcsD p)::(rowsD a++rowsD b);rw [zc3 a b]
theorem uV:∀a:List Pc,(pcsD a).length=a.length
 |[]=>rfl
 |p::a=>by show(pcsD a).length+1=a.length+1;rw [uV a]
theorem kL:∀a:List (List Pc),(rowsD a).length=a.length
 |[]=>rfl
 |p::a=>by show(rowsD a).length+1=a.length+1;rw [kL a]
theorem yr5{α β:Type}(f:α->β)(hf:∀a b,f a=f b->a=b):∀{l m:List α},l.map f=m.map f->l=m
 |[],[],_=>rfl
 |[],_::_,h=>by simp at h
 |_::_,[],h=>by simp at h
 |a::l,b::m,h=>by
  simp only [Zb,List.cons.injEq] at h
  rw [hf a b h.1,yr5 f hf h.2]
theorem gD(a b:String):(Str.ofString a=Str.ofString b)=(a=b):=by
 refine propext ⟨fun h=> ?_,fun h=>by rw [h]⟩
 rw [Str.ofString_eq_toList,Str.ofString_eq_toList] at h
 have h1:(a.toList.map Char.toNat).toArray=(b.toList.map Char.toNat).toArray:=(Str.mk.inj h)
 have h2:a.toList.map Char.toNat=b.toList.map Char.toNat:=by simpa using ZV Array.toList h1
 have h3:a.toList=b.toList:=yr5 _ (fun x y e=>by
  have:Char.ofNat x.toNat=Char.ofNat y.toNat:=by rw [e]
  simpa using this) h2
 exact String.toList_inj.mp h3
theorem mG{α:Type}(a:α)(l:List α):atI (a::l) 0=some a:=by simp [atI,ixN]
theorem iD{α:Type}(a b:α)(l:List α):atI (a::b::l) 1=some b:=by
 have h:ixN (a::b::l).length 1=some 1:=by unfold ixN;rw [if_pos (by decide),if_pos (by simp only [Z6];omega)];rfl
 simp only [atI,h];rfl
theorem yi8{α:Type}(a b c:α)(l:List α):atI (a::b::c::l) 2=some c:=by
 have h:ixN (a::b::c::l).length 2=some 2:=by unfold ixN;rw [if_pos (by decide),if_pos (by simp only [Z6];omega)];rfl
 simp only [atI,h];rfl
local macro_rules|`(tactic|simp! [$a,*] $[$l]?)=>`(tactic|simp [aB,aA,aE,aG,aI,zv7,D.imm,aV,D.imms,fT,bB,cE,cJ,kF,bK,dA,fO,f2,fC,aT,bX,fIf,bH,cD,mG,dB,dIx,fB,iD,aU,gD,cM,qT,gP,cT,dLt,dGe,bI,zl1,jH,gE,cW,rH,cZ,yi8,bG,cQ,xP,zq1,ym5,iB,fA,dIs,zp9,yd7,dGt,eT,fMt,fP,jE,dEq,eqB,dS,dLe,dNe,fIO,iX,$a,*] $[$l]?)
theorem sz{n:Nat}(h:n<=1000):n<=sizeLine:=yd0 h
theorem sz1{n:Nat}(h:n<=1000):n<sizeLine:=vI h
theorem yo9{rs:List (List Pc)}{r:List Pc}(h:r∈rs):(toksR r).length<=(toksMore rs).length:=by
 induction rs with
 |nil=>simp at h
 |cons q rs ih=>
  show _<=(Tk.orr::(toksR q++toksMore rs)).length
  rw [Z6,Z2]
  rcases Z5.mp h with e|e
  ·subst e;omega
  ·have:=ih e;omega
theorem wO{rs:List (List Pc)}{r:List Pc}(h:r∈rs):(toksR r).length<=(toksRows rs).length:=by
 cases rs with
 |nil=>simp at h
 |cons q rs=>
  show _<=(toksR q++toksMore rs).length
  rw [Z2]
  rcases Z5.mp h with e|e
  ·subst e;omega
  ·have:=yo9 e;omega
theorem eR(n:Nat):ixN (n+1) (-1)=some n:=by
 unfold ixN
 rw [if_neg (by decide),if_pos (by omega)]
 congr 1
 omega
theorem eS{α:Type}(l:List α)(a b:α):(l++[a]).set l.length b=l++[b]:=by
 induction l with
 |nil=>rfl
 |cons x l ih=>show x::(l++[a]).set l.length b=_;rw [ih];rfl
theorem nR(n:Nat):ixN (n+1) 0=some 0:=by unfold ixN;rw [if_pos (by decide),if_pos (by omega)];rfl
theorem yy2:ixN 3 1=some 1:=by decide
theorem xx7:ixN 3 2=some 2:=by decide
theorem cS(i j:Int):cR (.int i) (.int j)=if 0<j then some (.int (i % j)) else none:=by simp [cR,dII]
theorem dP(i j:Int):eM (.int i) (.int j)=if 0<j/\j<1073741824 then some (.int (i/j)) else none:=by simp [eM,dII]
theorem cF(x y:Str):(x++y).cps.toList=x.cps.toList++y.cps.toList:=by
 show(x.cps++y.cps).toList=_
 simp
theorem dC(x y:Str):(x++y).length=x.length+y.length:=by
 show(x.cps++y.cps).size=x.cps.size+y.cps.size
 simp
def sg:Str:=("abcdefghijklmnopqrstuvwxyzABCDEFGHIJKLMNOPQRSTUVWXYZ0123456789":Str)++("!\"#$&'()*+,-./:;<=>?\x40[\\]^_`{|}~":Str)
theorem xi1:sg.cps.toList.length=93:=by decide+kernel
theorem wd5:sg.cps.toList.all zh5=true:=by decide+kernel
theorem wd6:sg.length<=sizeLine:=by
 have e:sg.length=sg.cps.toList.length:=by simp [Str.length]
 rw [e,xi1];exact sz (by decide)
theorem uD{α:Type}(xs:List α)(i:Int)(h0:0<=i)(h1:i<xs.length):∃v∈xs,atI xs i=some v:=by
 have hn:i.toNat<xs.length:=by omega
 obtain⟨v,hv⟩:∃v,xs[i.toNat]? =some v:=⟨_,Zo hn⟩
 refine⟨v,ZG hv,?_⟩
 have e:i=((i.toNat:Nat):Int):=by omega
 rw [e]
 exact zr9 hv
theorem wq9(i:Int)(h0:0<=i)(h1:i<93):∃c,atI sg.cps.toList i=some c/\zh5 c=true:=by
 obtain⟨c,hc,e⟩:=uD sg.cps.toList i h0 (by rw [xi1];omega)
 exact⟨c,e,List.all_eq_true.mp wd5 c hc⟩
theorem xi2(n:Nat):dQ 0 n=((List.range n).map fun(k:Nat)=>(k:Int)).map .int:=by
 unfold dQ
 rw [Yv]
 refine List.map_congr_left fun k _=> ?_
 show D.int (0+(k:Int))=D.int (k:Int)
 rw [Int.zero_add]
theorem wd7(m:Int):∃s:Int,atI [D.int 1,.int 2,.int 3,.int 4,.int 5,.int 6,.int 7,.int 8,.int 10,.int 11,.int 9,.int 12] (m % 12)=some (.int s)/\1<=s/\s<=12:=by
 have h0:=Zv m (show(12:Int)≠0 by decide)
 have h1:=Zs m (show(0:Int)<12 by decide)
 obtain⟨d,hd,e⟩:=uD [D.int 1,.int 2,.int 3,.int 4,.int 5,.int 6,.int 7,.int 8,.int 10,.int 11,.int 9,.int 12] (m % 12) h0 (by simpa using h1)
 simp only [Z5,ZJ,YW] at hd
 rcases hd with rfl|rfl|rfl|rfl|rfl|rfl|rfl|rfl|rfl|rfl|rfl|rfl<;>exact⟨_,e,by decide,by decide⟩
theorem wk2(k:Int):∃x:Str,atI [D.str (Str.ofString " "),.str (Str.ofString " "),.str (Str.ofString " "),.str (Str.ofString "")] (k % 4)=some (.str x)/\(x=""\/x=" "):=by
 have h0:=Zv k (show(4:Int)≠0 by decide)
 have h1:=Zs k (show(0:Int)<4 by decide)
 obtain⟨d,hd,e⟩:=uD [D.str (Str.ofString " "),.str (Str.ofString " "),.str (Str.ofString " "),.str (Str.ofString "")] (k % 4) h0 (by simpa using h1)
 simp only [Z5,ZJ,YW] at hd
 rcases hd with rfl|rfl|rfl|rfl
 ·exact⟨_,e,.inr rfl⟩
 ·exact⟨_,e,.inr rfl⟩
 ·exact⟨_,e,.inr rfl⟩
 ·exact⟨_,e,.inl rfl⟩
theorem wd8(a b k:Int)(ha:0<=a/\a<=40)(hb:0<=b/\b<=40):∃c:Int,atI [D.int a,.int b] (k % 2)=some (.int c)/\0<=c/\c<=40:=by
 have h0:=Zv k (show(2:Int)≠0 by decide)
 have h1:=Zs k (show(0:Int)<2 by decide)
 obtain⟨d,hd,e⟩:=uD [D.int a,.int b] (k % 2) h0 (by simpa using h1)
 simp only [Z5,ZJ,YW] at hd
 rcases hd with rfl|rfl
 ·exact⟨_,e,ha⟩
 ·exact⟨_,e,hb⟩
theorem wt5{α:Type}(a b c d:α):atI [a,b,c,d] 3=some d:=rfl
theorem yr6{i j:Int}(h1: -1000000<=i)(h2:i<=1000000)(h3: -1000000<=j)(h4:j<=1000000):vU [.int i,.int j]=some (dQ i (j-i).toNat):=by
 rw [vU]
 exact if_pos ⟨by omega,by omega,by omega,by omega⟩
theorem uE{j:Int}(h3: -1000000<=j)(h4:j<=1000000):vT [.int j]=some (dQ 0 j.toNat):=by
 rw [vT]
 exact if_pos ⟨by omega,by omega⟩
theorem xi3(a:Int)(n:Nat):dQ a n=((List.range n).map fun(k:Nat)=>a+(k:Int)).map .int:=by
 unfold dQ
 rw [Yv];rfl
theorem aN{f g:tz1}{p p':PSt}(h:f p=some (.nx,p')):aT f g p=g p':=by unfold aT;rw [h];rfl
theorem dE{f g:tz1}{p p':PSt}{R:Fl}(h:f p=some (.nx,p'))(e:∃q,g p'=some (R,q)):∃q,aT f g p=some (R,q):=e.elim fun q e=>⟨q,(aN h).trans e⟩
theorem dR{f g:tz1}{p p':PSt}{d:D}(h:f p=some (.ret d,p')):aT f g p=some (.ret d,p'):=by unfold aT;rw [h];rfl
theorem yd2{c:PSt->Option (Bool×PSt)}{f g:tz1}{p p':PSt}(h:c p=some (true,p')):fIf c f g p=f p':=by unfold fIf;rw [h];rfl
theorem gH{c:PSt->Option (Bool×PSt)}{f g:tz1}{p p':PSt}(h:c p=some (false,p')):fIf c f g p=g p':=by unfold fIf;rw [h];rfl
theorem bD{i:Nat}{f:tz2}{p:PSt}{d:D}(h:f p=some d):aU i (aI f) p=some (.nx,p.set i (some d)):=by unfold aU aI;rw [h];rfl
theorem cI{f:tz2}{p:PSt}{d:D}(h:f p=some d):bX (aI f) p=some (.ret d,p):=by unfold bX aI;rw [h];rfl
theorem fS{np n:Nat}{f:tz1}{ds:List D}{d:D}{p:PSt}(hl:ds.length=np)(h:f (ds.map some++List.replicate n none)=some (.ret d,p)):gP np n f ds=some d:=by
 unfold gP;rw [if_pos hl,h];rfl
theorem aR{g:D->D->Option D}{fa fb:tz2}{p:PSt}{x y d:D}(h1:fa p=some x)(h2:fb p=some y)(h3:g x y=some d):f2 g fa fb p=some d:=by unfold f2;rw [h1,h2];exact h3
theorem aS{h:tz6}{g:tz3}{p:PSt}{ds:List D}{d:D}(h1:g p=some ds)(h2:h ds=some d):aG h g p=some d:=by unfold aG;rw [h1];exact h2
theorem xi4{o o':Bool}{ys zs:List D}(h1:D.imms ys=true)(h2:D.imms zs=true)(h:ys.length+zs.length<=1000):cD (.lst o ys) (.lst o' zs)=some (.lst true (ys++zs)):=by
 rw [cD]
 exact if_pos (by rw [h1,h2];simpa using sz h)
theorem aD{f:tz2}{g:tz3}{p:PSt}{d:D}{ds:List D}(h1:f p=some d)(h2:g p=some ds):aA f g p=some (d::ds):=by unfold aA;rw [h1,h2];rfl
def bZ(ws:List Str):List D:=ws.map .str
theorem xi5(a b:List Str):bZ (a++b)=bZ a++bZ b:=by simp [bZ]
theorem xi6(a:List Str):(bZ a).length=a.length:=by simp [bZ]
theorem fJ{g:tz3}{p:PSt}{ds:List D}(h:g p=some ds)(hl:ds.length<=1000):cZ g p=some (.lst true ds):=by unfold cZ;rw [h];exact if_pos hl
theorem kU(k:Nat)(n:Nat):dQ (k:Int) (n+1)= .int k::dQ ((k+1:Nat):Int) n:=by
 unfold dQ
 rw [List.range_succ_eq_map,Zb,Yv]
 congr 1
 ·simp
  intro j _
  omega
theorem dM{g:tz3}{p:PSt}{ds:List D}(h:g p=some ds)(hi:D.imms ds=true)(hl:ds.length<=1000):bG g p=some (.tup ds):=by
 unfold bG
 rw [h]
 exact if_pos (by rw [hi];simpa using hl)
theorem oZ{i:Nat}{p:PSt}{d:D}(h:p[i]? =some (some d)):aB i p=some d:=by unfold aB;rw [h];rfl
theorem eB{f:tz4}{p:PSt}{b:Bool}(h:f p=some b):aV f p=some (b,p):=by unfold aV;rw [h];rfl
theorem dI{f:tz2}{p:PSt}{b:Bool}(h:f p=some (.bl b)):fB f p=some b:=by unfold fB;rw [h];rfl
theorem vP{f:tz2}{p:PSt}{b:Bool}(h:f p=some (.bl b)):fT f p=some b:=by unfold fT;rw [h];rfl
theorem kD{f g:tz4}{p:PSt}(h:f p=some false):dS f g p=some false:=by unfold dS;rw [h];rfl
theorem iV{f g:tz4}{p:PSt}{b:Bool}(h:f p=some true)(h2:g p=some b):dS f g p=some b:=by unfold dS;rw [h];exact h2
theorem wr0{f g:tz4}{p:PSt}(h:f p=some true):qT f g p=some true:=by unfold qT;rw [h];rfl
theorem zn6{f g:tz4}{p:PSt}{b:Bool}(h:f p=some false)(h2:g p=some b):qT f g p=some b:=by unfold qT;rw [h];exact h2
theorem nI{f:tz4}{p:PSt}{b:Bool}(h:f p=some b):jE f p=some (!b):=by unfold jE;rw [h];rfl
theorem bE{c:tz4}{F:tz1}{p:PSt}(h:c p=some false):fIf (aV c) F bH p=some (.nx,p):=(gH (eB h)).trans rfl
theorem bM{c:tz4}{F G:tz1}{p:PSt}(h:c p=some true):fIf (aV c) F G p=F p:=yd2 (eB h)
def kdT(i:Nat)(w:String):tz4:=fB (f2 dEq (f2 dIx (aB i) (fC (.int 0))) (fC (.str w)))
theorem fU{i:Nat}{p:PSt}{k w:String}{ds:List D}{b:Bool}(hp:p[i]? =some (some (.tup (.str k::ds))))(h:decide (k=w)=b):kdT i w p=some b:=by
 refine dI (aR (aR (oZ hp) rfl (mG _ _)) rfl ?_)
 show some (D.bl (decide ((k:Str)=(w:Str))))=_
 rw [<-h]
 congr 2
 exact Yz.mpr (by rw [gD])
theorem kW{f:tz8}{p p':PSt}{d:D}(h:f p=some (d,p')):cE f p=some (.nx,p'):=by unfold cE;rw [h];rfl
theorem sA{as:List L2.Arg}{g:tz7}{p:PSt}{ds ds':List D}{d:D}(h1:cJ as p=some ds)(h2:g ds=some (d,ds'))(h3:ds'.length=as.length):fIO as g p=some (d,iX p as ds'):=by unfold fIO;rw [h1,Z4,h2,Z4,if_pos h3]
theorem cB{f:tz2}{p:PSt}{d:D}(h:f p=some d)(hi:d.imm=true):bB f p=some d:=by unfold bB;rw [h];exact if_pos hi
theorem gM{p:PSt}:cJ [] p=some []:=rfl
theorem dU{f:tz2}{as:List L2.Arg}{p:PSt}{d:D}{ds:List D}(h:f p=some d)(hi:d.imm=true)(h2:cJ as p=some ds):cJ (.im f::as) p=some (d::ds):=by
 show(bB f p).bind _=_
 rw [cB h hi,Z4,h2];rfl
theorem pA{j:Nat}{as:List L2.Arg}{p:PSt}{d:D}{ds:List D}(h:p[j]? =some (some d))(h2:cJ as p=some ds):cJ (.io j::as) p=some (d::ds):=by
 show((p[j]?).join).bind _=_
 rw [h,YA,Z4,h2];rfl
theorem xi7(c:Nat):∀(a b u v:List Nat),c∉a->c∉b->a++c::u=b++c::v->a=b/\u=v
 |[],[],u,v,_,_,e=>⟨rfl,(Xl e).2⟩
 |[],y::b,u,v,_,hb,e=>absurd (Xl e).1 (fun z=>hb (z▸Z0))
 |x::a,[],u,v,ha,_,e=>absurd (Xl e).1 (fun z=>ha (z▸Z0))
 |x::a,y::b,u,v,ha,hb,e=>by
  obtain⟨e1,e2⟩:=Xl e
  obtain⟨e3,e4⟩:=xi7 c a b u v (fun z=>ha (Z1 _ z)) (fun z=>hb (Z1 _ z)) e2
  exact⟨by rw [e1,e3],e4⟩
theorem uF{x y:Str}(h:x.cps.toList=y.cps.toList):x=y:=by
 cases x;cases y
 congr
 exact Xz.mp h
section
variable{c:Nat}
theorem mH(x y:Str)(r:List Str):(Str.join ⟨#[c]⟩ (x::y::r)).cps.toList=x.cps.toList++c::(Str.join ⟨#[c]⟩ (y::r)).cps.toList:=by
 show((x++⟨#[c]⟩)++Str.join ⟨#[c]⟩ (y::r)).cps.toList=_
 rw [cF,cF]
 show(x.cps.toList++[c])++_=_
 simp
theorem yi9:∀xs ys:List Str,xs≠[]->ys≠[]->(∀p∈xs,c∉p.cps.toList)->(∀p∈ys,c∉p.cps.toList)->Str.join ⟨#[c]⟩ xs=Str.join ⟨#[c]⟩ ys->xs=ys
 |[],_,h,_,_,_,_=>absurd rfl h
 |_,[],_,h,_,_,_=>absurd rfl h
 |[x],[y],_,_,_,_,e=>by rw [show x=y from e]
 |[x],y::y'::r,_,_,hx,_,e=>by
  have e':=ZV (fun z=>z.cps.toList) (show x=Str.join ⟨#[c]⟩ (y::y'::r) from e)
  rw [mH] at e'
  exact absurd (by rw [e'];simp) (hx x Z0)
 |x::x'::r,[y],_,_,_,hy,e=>by
  have e':=ZV (fun z=>z.cps.toList) (show Str.join ⟨#[c]⟩ (x::x'::r)=y from e)
  rw [mH] at e'
  exact absurd (by rw [<-e'];simp) (hy y Z0)
 |x::x'::r,y::y'::s,_,_,hx,hy,e=>by
  have e':=ZV (fun z=>z.cps.toList) e
  rw [mH,mH] at e'
  obtain⟨e1,e2⟩:=xi7 c _ _ _ _ (hx x Z0) (hy y Z0) e'
  have ih:=yi9 (x'::r) (y'::s) (by simp) (by simp) (fun p hp=>hx p (Z1 _ hp)) (fun p hp=>hy p (Z1 _ hp)) (uF e2)
  rw [uF e1,ih]
end
structure Gm where
 kd:Nat
 n:Int
 full:List (List Pc)
 parts:List Pc
def kdS:Nat->String
 |0=>"top"
 |1=>"group"
 |2=>"hang"
 |_=>"either"
def gmD(f:Gm):D:= .lst true [.str (kdS f.kd),.int f.n,.lst true (rowsD f.full),.lst true (pcsD f.parts)]
def cH:List Gm->List D
 |[]=>[]
 |f::fs=>cH fs++[gmD f]
theorem qP:∀fs,(cH fs).length=fs.length
 |[]=>rfl
 |f::fs=>by rw [cH,Z2,qP fs];rfl
def iC:List Pc:=[.leaf (.word "or")]
def rO(f:Gm):List (List Pc):=if f.full=[] then [f.parts,iC] else f.full++[f.parts]
def gS(f:Gm):Pc:=match f.kd with
 |1=> .group f.parts
 |2=> .hang f.n f.parts
 |_=> .either (rO f)
def lQ(g:Gm)(p:Pc):Gm:={g with parts:=g.parts++[p]}
mutual
def okP:Pc->Prop
 | .leaf l=>eV l
 | .group r=>okR r
 | .hang n r=>(0<=n/\n<=12)/\okR r
 | .either rs=>(2<=rs.length/\rs.length<=4)/\okRs rs
def okR:List Pc->Prop
 |[]=>True
 |p::r=>okP p/\okR r
def okRs:List (List Pc)->Prop
 |[]=>True
 |r::rs=>okR r/\okRs rs
end
theorem xG:∀a b:List Pc,okR (a++b)↔okR a/\okR b
 |[],b=>by simp [okR]
 |p::a,b=>by rw [ZN,okR,okR,xG a b,and_assoc]
theorem zk2:∀a b:List (List Pc),okRs (a++b)↔okRs a/\okRs b
 |[],b=>by simp [okRs]
 |p::a,b=>by rw [ZN,okRs,okRs,zk2 a b,and_assoc]
theorem zu0(p:Pc):okR [p]↔okP p:=by simp [okR]
theorem yj0(r:List Pc):okRs [r]↔okR r:=by simp [okRs]
theorem uW:∀a b:List (List Pc),toksMore (a++b)=toksMore a++toksMore b
 |[],b=>rfl
 |r::a,b=>by
  show Tk.orr::(toksR r++toksMore (a++b))=(Tk.orr::(toksR r++toksMore a))++toksMore b
  rw [uW a b];simp
def wF(f:Gm):Nat:=(toksMore f.full).length+(toksR f.parts).length+4
def wG:List Gm->Nat
 |[]=>0
 |f::fs=>wF f+wG fs
def wo6(f:Gm):Prop:=okRs f.full/\okR f.parts/\f.full.length<=3/\(f.kd≠3->f.full=[])/\0<=f.n/\f.n<=12
def yn1:List Gm->Prop
 |[]=>False
 |[f]=>f.kd=0
 |f::g::fs=>(1<=f.kd/\f.kd<=3)/\yn1 (g::fs)
def xz0(m:Nat):List Gm->Prop
 |[]=>True
 |f::fs=>depR f.parts+fs.length<=m/\depRs f.full+fs.length<=m/\xz0 m fs
structure GInv(nest k:Nat)(fs:List Gm):Prop where
 len:fs.length<=nest+1
 wt:wG fs<=4*k+4
 each:∀f∈fs,wo6 f
 kinds:yn1 fs
 deep:xz0 nest fs
theorem yy3{f:Gm}(h:f.kd≠3->f.full=[])(hk:1<=f.kd/\f.kd<=3):(cU (gS f)).length<=wF f:=by
 have e:f.kd=1\/f.kd=2\/f.kd=3:=by omega
 unfold wF gS
 rcases e with e|e|e
 ·rw [e];show(Tk.opn::(toksR f.parts++[.cls])).length<=_;rw [Z6,Z2];simp;omega
 ·rw [e];show(Tk.hng f.n::(toksR f.parts++[.bck])).length<=_;rw [Z6,Z2];simp;omega
 ·rw [e]
  show(Tk.eit::(toksRows (rO f)++[.don])).length<=_
  rw [Z6,Z2]
  unfold rO
  cases hf:f.full with
  |nil=>
   rw [if_pos rfl]
   show(toksR f.parts++(Tk.orr::(toksR iC++[]))).length+1+1<=_
   simp [iC,toksR,cU,toksMore]
  |cons r rs=>
   rw [if_neg (by simp)]
   show(toksR r++toksMore (rs++[f.parts])).length+1+1<=(Tk.orr::(toksR r++toksMore rs)).length+_+4
   rw [uW]
   simp [toksMore];omega
theorem xs6{f:Gm}(h:wo6 f)(hk:1<=f.kd/\f.kd<=3):okP (gS f):=by
 obtain⟨h1,h2,h3,h4,h5,h6⟩:=h
 have e:f.kd=1\/f.kd=2\/f.kd=3:=by omega
 unfold gS
 rcases e with e|e|e
 ·rw [e];exact h2
 ·rw [e];exact⟨⟨h5,h6⟩,h2⟩
 ·rw [e]
  show(2<=(rO f).length/\(rO f).length<=4)/\okRs (rO f)
  unfold rO
  by_cases c:f.full=[]
  ·rw [if_pos c]
   refine⟨⟨by simp,by simp⟩,h2,?_,trivial⟩
   exact⟨⟨by decide+kernel,by decide+kernel,by decide+kernel⟩,trivial⟩
  ·rw [if_neg c]
   have hp:1<=f.full.length:=by cases hf:f.full with|nil=>exact absurd hf c|cons a l=>simp
   refine⟨⟨by rw [Z2];simp;omega,by rw [Z2];simp;omega⟩,?_⟩
   rw [zk2,yj0];exact⟨h1,h2⟩
theorem xi8{f:Gm}{m k:Nat}(h1:depR f.parts+(k+1)<=m)(h2:depRs f.full+(k+1)<=m):dJ (gS f)+k<=m:=by
 unfold gS
 split
 ·show depR f.parts+1+k<=m;omega
 ·show depR f.parts+1+k<=m;omega
 ·show depRs (rO f)+1+k<=m
  unfold rO
  split
  ·show max (depR f.parts) (max (depR iC) 0)+1+k<=m
   have:depR iC=0:=rfl
   omega
  ·rw [yD];omega
theorem GInv.leaf{nest k:Nat}{f:Gm}{fs:List Gm}{l:Leaf}(h:GInv nest k (f::fs))(hl:eV l):GInv nest (k+1) (lQ f (.leaf l)::fs):=by
 obtain⟨h1,h2,h3,h4,h5⟩:=h
 have hf:=h3 f Z0
 refine⟨h1,?_,?_,?_,?_⟩
 ·have h2':wF f+wG fs<=4*k+4:=h2
  show(toksMore f.full).length+(toksR (f.parts++[.leaf l])).length+4+wG fs<=_
  rw [mD,Z2]
  unfold wF at h2'
  show _+(_+1)+4+_<=_
  omega
 ·intro x hx
  rcases Z5.mp hx with rfl|hx
  ·obtain⟨a1,a2,a3,a4,a5⟩:=hf
   exact⟨a1,(xG _ _).mpr ⟨a2,(zu0 _).mpr hl⟩,a3,a4,a5⟩
  ·exact h3 x (Z1 _ hx)
 ·cases fs with
  |nil=>exact h4
  |cons g fs=>exact⟨h4.1,h4.2⟩
 ·refine⟨?_,h5.2.1,h5.2.2⟩
  show depR (f.parts++[.leaf l])+fs.length<=nest
  rw [rV]
  have:=h5.1
  show max _ 0+_<=_
  omega
theorem GInv.opener{nest k:Nat}{fs:List Gm}{kd:Nat}{n:Int}(h:GInv nest k fs)(hk:1<=kd/\kd<=3)(hn:0<=n/\n<=12)(hl:fs.length<=nest):GInv nest (k+1) (⟨kd,n,[],[]⟩::fs):=by
 obtain⟨h1,h2,h3,h4,h5⟩:=h
 refine⟨by simp;omega,?_,?_,?_,?_⟩
 ·show 0+0+4+wG fs<=_;omega
 ·intro x hx
  rcases Z5.mp hx with rfl|hx
  ·exact⟨trivial,trivial,ZL _,fun _=>rfl,hn⟩
  ·exact h3 x hx
 ·cases fs with
  |nil=>exact h4.elim
  |cons g fs=>exact⟨hk,h4⟩
 ·exact⟨by show 0+_<=_;omega,by show 0+_<=_;omega,h5⟩
theorem GInv.orr{nest k:Nat}{f:Gm}{fs:List Gm}(h:GInv nest k (f::fs))(hf3:f.full.length<3)(hk:f.kd=3):GInv nest (k+1) ({f with full:=f.full++[f.parts],parts:=[]}::fs):=by
 obtain⟨h1,h2,h3,h4,h5⟩:=h
 have hf:=h3 f Z0
 refine⟨h1,?_,?_,?_,?_⟩
 ·have h2':wF f+wG fs<=4*k+4:=h2
  show(toksMore (f.full++[f.parts])).length+0+4+wG fs<=_
  rw [uW,Z2]
  unfold wF at h2'
  simp [toksMore];omega
 ·intro x hx
  rcases Z5.mp hx with rfl|hx
  ·obtain⟨a1,a2,a3,a4,a5⟩:=hf
   exact⟨(zk2 _ _).mpr ⟨a1,(yj0 _).mpr a2⟩,trivial,by show(f.full++[f.parts]).length<=3;rw [Z2];simp;omega,fun z=>absurd hk z,a5⟩
  ·exact h3 x (Z1 _ hx)
 ·cases fs with
  |nil=>exact h4
  |cons g fs=>exact⟨h4.1,h4.2⟩
 ·refine⟨?_,?_,h5.2.2⟩
  ·show 0+_<=_
   have:=h5.1;omega
  ·show depRs (f.full++[f.parts])+fs.length<=nest
   rw [yD]
   have a1:=h5.1;have a2:=h5.2.1
   omega
theorem GInv.shut{nest k:Nat}{f g:Gm}{fs:List Gm}(h:GInv nest k (f::g::fs)):GInv nest k (lQ g (gS f)::fs):=by
 obtain⟨h1,h2,h3,h4,h5⟩:=h
 have hf:=h3 f Z0
 have hg:=h3 g (Z1 _ Z0)
 have hk:=h4.1
 refine⟨by simp at h1|-;omega,?_,?_,?_,?_⟩
 ·have h2':wF f+(wF g+wG fs)<=4*k+4:=h2
  have t:=yy3 hf.2.2.2.1 hk
  show(toksMore g.full).length+(toksR (g.parts++[gS f])).length+4+wG fs<=_
  rw [mD,Z2,zb5]
  unfold wF at h2' t
  omega
 ·intro x hx
  rcases Z5.mp hx with rfl|hx
  ·obtain⟨a1,a2,a3,a4,a5⟩:=hg
   exact⟨a1,(xG _ _).mpr ⟨a2,(zu0 _).mpr (xs6 hf hk)⟩,a3,a4,a5⟩
  ·exact h3 x (Z1 _ (Z1 _ hx))
 ·cases fs with
  |nil=>exact h4.2
  |cons g' fs=>exact⟨h4.2.1,h4.2.2⟩
 ·obtain⟨d1,d2,d3,d4,d5⟩:=h5
  refine⟨?_,d4,d5⟩
  show depR (g.parts++[gS f])+fs.length<=nest
  rw [rV]
  have:=xi8 (f:=f) (m:=nest) (k:=fs.length) d1 d2
  omega
theorem GInv.more{nest k k':Nat}{fs:List Gm}(h:GInv nest k fs)(hk:k<=k'):GInv nest k' fs:=⟨h.len,by have:=h.wt;omega,h.each,h.kinds,h.deep⟩
theorem xi9:∀{fs:List Gm} {f:Gm},f∈fs->wF f<=wG fs
 |[],_,h=>by simp at h
 |g::fs,f,h=>by
  show wF f<=wF g+wG fs
  rcases Z5.mp h with rfl|h
  ·omega
  ·have:=xi9 h;omega
theorem yy4(p:Pc):1<=(cU p).length:=by cases p<;>simp [cU]
theorem zn7:∀r:List Pc,r.length<=(toksR r).length
 |[]=>Z7 _
 |p::r=>by
  show r.length+1<=(cU p++toksR r).length
  rw [Z2]
  have:=zn7 r;have:=yy4 p;omega
theorem GInv.parts{nest k:Nat}{fs:List Gm}{f:Gm}(h:GInv nest k fs)(hf:f∈fs):f.parts.length<=4*k+4:=by
 have h1:=xi9 hf;have h2:=h.wt;have h3:=zn7 f.parts
 unfold wF at h1;omega
theorem zn8:("\n":Str)=⟨#[10]⟩:=by decide+kernel
theorem xx8:(" ":Str)=⟨#[32]⟩:=by decide+kernel
theorem xs7:("":Str)=⟨#[]⟩:=by decide+kernel
theorem qQ{x y:Str}(h:x.cps.toList=y.cps.toList):x=y:=by
 cases x;cases y
 simp only at h
 rw [Xz.mp h]
theorem mI(x:Str):x.length=x.cps.toList.length:=by simp [Str.length]
theorem zz5:∀(n:Nat) (a b:Array Nat),((List.replicate n a).foldl (·++·) b).toList=b.toList++(List.replicate n a.toList).flatten
 |0,a,b=>by simp
 |n+1,a,b=>by
  rw [ZU,List.foldl_cons,zz5 n a (b++a),ZU,Y9]
  simp
theorem uX(n:Int):(Txt.mul " " n).cps.toList=List.replicate n.toNat 32:=by
 rw [xx8]
 unfold Txt.mul
 by_cases h:n<1
 ·rw [if_pos h,show n.toNat=0 by omega];rfl
 ·rw [if_neg h]
  by_cases h1:n=1
  ·subst h1;rfl
  ·rw [if_neg]
   ·show((List.replicate n.toNat #[32]).foldl (·++·) #[]).toList=_
    rw [zz5]
    simp
   ·simp [h1,Str.length]
theorem iQ(n:Int):(Txt.mul " " n).length=n.toNat:=by rw [mI,uX,Xa]
theorem zc4(n:Int):(10:Nat)∉(Txt.mul " " n).cps.toList:=by rw [uX];simp
def col(t:Str):Nat:=(t.cps.toList.reverse.takeWhile (· !=10)).length
theorem xj0{l:List Nat}(h:(10:Nat)∉l):∀a∈l,(a !=10)=true:=fun a ha=>by
 simp only [bne_iff_ne,ne_eq]
 intro e;subst e;exact h ha
theorem zu1{t w:Str}(h:(10:Nat)∉w.cps.toList):col (t++w)=col t+w.length:=by
 unfold col
 rw [cF,Xj,XH (xj0 (by simpa using h)),Z2,Xk,mI]
 omega
theorem zn9{t w:Str}(h:(10:Nat)∉w.cps.toList):col (t++((⟨#[10]⟩:Str)++w))=w.length:=by
 unfold col
 rw [cF,cF,Xj,Xj,Zh,XH (xj0 (by simpa using h)),Z2,Xk,mI]
 simp
theorem wk3(t:Str):col t<=t.length:=by
 unfold col
 rw [mI,<-Xk (as:=t.cps.toList)]
 exact(List.takeWhile_sublist _).length_le
theorem yd3{t:Str}{i:Nat}:StrLaws.At t ⟨#[10]⟩ t.length i↔t.cps.toList[i]? =some 10:=by
 unfold StrLaws.At Builtin.Str.subAt
 show i+1<=t.length/\(t.cps.extract i (i+1)== #[10])=true↔_
 rw [YI,<-Xz]
 have e:(t.cps.extract i (i+1)).toList=(t.cps.toList.drop i).take 1:=by simp [Array.toList_extract,List.extract]
 rw [e,mI]
 constructor
 ·intro ⟨h1,h2⟩
  rw [Zo (by omega)]
  rw [ZT (by omega)] at h2
  simpa using h2
 ·intro h
  obtain⟨hi,h2⟩:=Z8.mp h
  refine⟨by omega,?_⟩
  rw [ZT hi,h2]
  rfl
theorem xj1(t:Str):(t.length:Int)-1-Txt.rfind t ⟨#[10]⟩=(col t:Int):=by
 rcases rfind_whole t ⟨#[10]⟩ with ⟨e,h⟩|⟨i,e,h1,h2⟩
 ·have hn:(10:Nat)∉t.cps.toList:=fun hm=>by
   obtain⟨i,hi⟩:=YC hm
   exact h i (yd3.mpr hi)
  have:=zu1 (t:=⟨#[]⟩) hn
  have e0:(⟨#[]⟩:Str)++t=t:=qQ (by rw [cF];rfl)
  rw [e0,show col ⟨#[]⟩=0 from rfl] at this
  rw [e,this];omega
 ·rw [yd3] at h1
  obtain⟨hi,h3⟩:=Z8.mp h1
  have hs:t.cps.toList=t.cps.toList.take i++10::t.cps.toList.drop (i+1):=by
   rw [<-h3,<-ZT hi,We]
  have hn:(10:Nat)∉t.cps.toList.drop (i+1):=fun hm=>by
   obtain⟨j,hj⟩:=YC hm
   rw [List.getElem?_drop] at hj
   exact h2 (i+1+j) (by omega) (yd3.mpr hj)
  have e1:t=(⟨(t.cps.toList.take i).toArray⟩:Str)++((⟨#[10]⟩:Str)++(⟨(t.cps.toList.drop (i+1)).toArray⟩:Str)):=qQ (by
   rw [cF,cF]
   exact hs)
  have e2:=zn9 (t:=⟨(t.cps.toList.take i).toArray⟩) (w:=⟨(t.cps.toList.drop (i+1)).toArray⟩) hn
  rw [<-e1] at e2
  rw [e,e2,mI,mI]
  show((t.cps.toList.length:Nat):Int)-1-(i:Int)=(((t.cps.toList.drop (i+1)).length:Nat):Int)
  rw [Xv]
  omega
def nlw(m:Int):Str:=(⟨#[10]⟩:Str)++Txt.mul " " m
def wr(b:Bool)(m:Int)(k:Nat):Leaf->Option Str
 | .word x=>some x
 | .gap x=>if b then some (nlw m) else some x
 | .stop c=>if (k:Int)<=c then some (Txt.mul " " (c-k)) else if b then some (nlw c) else none
 | .fin=>if b then some (nlw m) else none
def Wr(w:Str):Prop:=(10:Nat)∉w.cps.toList\/∃m:Int,w=nlw m
theorem wd9{x:Str}(h:ym7 x):(10:Nat)∉x.cps.toList:=fun hm=>by
 have:=List.all_eq_true.mp h.2.2 _ hm
 simp [zh5] at this
theorem wk4{x:Str}(h:x=""\/x=" "):(10:Nat)∉x.cps.toList:=by
 rcases h with rfl|rfl
 ·simp [show("":Str)=⟨#[]⟩ from by decide+kernel]
 ·simp [xx8]
theorem zo0{b:Bool}{m:Int}{k:Nat}{l:Leaf}{w:Str}(hl:eV l)(h0:0<=m)(h1:m<=200)(h:wr b m k l=some w):Wr w/\w.length<=201:=by
 have nl:∀c:Int,0<=c->c<=200->Wr (nlw c)/\(nlw c).length<=201:=fun c c0 c1=>⟨.inr ⟨c,rfl⟩,by unfold nlw;rw [dC,iQ];show 1+_<=_;omega⟩
 cases l with
 |word x=>cases h;exact⟨.inl (wd9 hl),by have:=hl.2.1;omega⟩
 | gap x=>
  cases b with
  |true=>cases h;exact nl m h0 h1
  |false=>
   have e:x=w:=by simpa [wr] using h
   subst e
   have hl':x=""\/x=" ":=hl
   refine⟨.inl (wk4 hl'),?_⟩
   rcases hl' with e|e<;>subst e
   ·show(0:Nat)<=201;decide
   ·show(1:Nat)<=201;decide
 | stop c=>
  have hc:0<=c/\c<=40:=hl
  change (if (k:Int)<=c then some (Txt.mul " " (c-k)) else if b=true then some (nlw c) else none)=some w at h
  by_cases hk:(k:Int)<=c
  ·rw [if_pos hk] at h;cases h
   exact⟨.inl (zc4 _),by rw [iQ];omega⟩
  ·rw [if_neg hk] at h
   cases b with
   |true=>cases h;exact nl c hc.1 (by omega)
   |false=>cases h
 |fin=>
  cases b with
  |true=>cases h;exact nl m h0 h1
  |false=>cases h
mutual
def cL:Bool->Int->Pc->List Int->Str->Option (List Int×Str)
 |b,m,.leaf l,cs,t=>(wr b m (col t) l).map fun w=>(cs,t++w)
 | b,m,.group r,cs,t=>if b=true then(match cs with
   |[]=>none
   |c::cs=>if c=0 then setR false m r cs t else if c=1 then setR true m r cs t else none) else setR false m r cs t
 |b,m,.hang n r,cs,t=>setR b (m+n) r cs t
 | b,m,.either rs,cs,t=>match cs with
   |[]=>none
   |c::cs=>if 0<=c then setAt b m rs c.toNat cs t else none
def setR:Bool->Int->List Pc->List Int->Str->Option (List Int×Str)
 |_,_,[],cs,t=>some (cs,t)
 |b,m,p::r,cs,t=>(cL b m p cs t).bind fun s=>setR b m r s.1 s.2
def setAt:Bool->Int->List (List Pc)->Nat->List Int->Str->Option (List Int×Str)
 |_,_,[],_,_,_=>none
 |b,m,r::_,0,cs,t=>setR b m r cs t
 |b,m,_::rs,i+1,cs,t=>setAt b m rs i cs t
end
theorem sB:∀{rs:List (List Pc)} {i:Nat} {b:Bool} {m:Int} {cs:List Int} {t:Str} {r:List Pc},rs[i]? =some r->setAt b m rs i cs t=setR b m r cs t
 |[],i,_,_,_,_,_,h=>by simp at h
 |q::rs,0,_,_,_,_,_,h=>by simp at h;subst h;rw [setAt]
 |q::rs,i+1,_,_,_,_,_,h=>by rw [setAt];exact sB (by simpa using h)
theorem yI:∀{rs:List (List Pc)} {i:Nat} {b:Bool} {m:Int} {cs:List Int} {t:Str},rs[i]? =none->setAt b m rs i cs t=none
 |[],i,_,_,_,_,h=>by rw [setAt]
 |q::rs,0,_,_,_,_,h=>by simp at h
 |q::rs,i+1,_,_,_,_,h=>by rw [setAt];exact yI (by simpa using h)
mutual
theorem vQ:∀{p:Pc} {b:Bool} {m:Int} {cs cs':List Int} {t t':Str} (x:List Int),cL b m p cs t=some (cs',t')->cL b m p (cs++x) t=some (cs'++x,t')
 | .leaf l,b,m,cs,cs',t,t',x,h=>by
  rw [cL] at h|-
  cases e:wr b m (col t) l with
  |none=>rw [e] at h;cases h
  |some w=>rw [e] at h;cases h;rfl
 | .group r,b,m,cs,cs',t,t',x,h=>by
  rw [cL.eq_def] at h|-
  simp only at h|-
  cases b with
  |false=>simp only [ZQ,Ym] at h|-;exact setR_more x h
  | true=>
   cases cs with
   |nil=>simp at h
   | cons c cs=>
    simp only [Y2,ZN] at h|-
    by_cases c0:c=0
    ·simp only [c0,Y2] at h|-;exact setR_more x h
    ·by_cases c1:c=1
     ·simp only [c1,Y2] at h|-;exact setR_more x h
     ·simp [c0,c1] at h
 | .hang n r,b,m,cs,cs',t,t',x,h=>by rw [cL] at h|-;exact setR_more x h
 | .either rs,b,m,cs,cs',t,t',x,h=>by
  rw [cL.eq_def] at h|-
  cases cs with
  |nil=>cases h
  |cons c cs=>
   simp only [ZN] at h|-
   by_cases c0:0<=c
   ·simp only [c0,Y2] at h|-;exact setAt_more x h
   ·simp [c0] at h
theorem setR_more:∀{r:List Pc} {b:Bool} {m:Int} {cs cs':List Int} {t t':Str} (x:List Int),setR b m r cs t=some (cs',t')->setR b m r (cs++x) t=some (cs'++x,t')
 |[],b,m,cs,cs',t,t',x,h=>by rw [setR] at h|-;cases h;rfl
 | p::r,b,m,cs,cs',t,t',x,h=>by
  rw [setR] at h|-
  cases e:cL b m p cs t with
  |none=>rw [e] at h;cases h
  |some s=>
   obtain⟨c1,t1⟩:=s
   rw [e] at h
   rw [vQ x e]
   exact setR_more x h
theorem setAt_more:∀{rs:List (List Pc)} {i:Nat} {b:Bool} {m:Int} {cs cs':List Int} {t t':Str} (x:List Int),setAt b m rs i cs t=some (cs',t')->setAt b m rs i (cs++x) t=some (cs'++x,t')
 |[],i,b,m,cs,cs',t,t',x,h=>by rw [setAt] at h;cases h
 |r::rs,0,b,m,cs,cs',t,t',x,h=>by rw [setAt] at h|-;exact setR_more x h
 |r::rs,i+1,b,m,cs,cs',t,t',x,h=>by rw [setAt] at h|-;exact setAt_more x h
end
abbrev nsP:List Str:=["broken","margin"]
def aP(b:Bool)(m:Int):D:= .obj false "Place" nsP [.bl b,.int m]
abbrev iO:tz7:=gE 3 0 (bI [true,false,false]) za4
theorem yy5(b:Bool)(m:Int):iO [.obj true "Place" [] [],.bl b,.int m]=some (.non,[.obj true "Place" nsP [.bl b,.int m],.bl b,.int m]):=by
 kernel_rfl
abbrev ze8:tz6:=gP 0 0 (vC iO)
abbrev lI:tz6:=gP 1 0 vX
def oF:Pc->Bool
 | .leaf _=>false
 |_=>true
theorem zk3(p:Pc):lI [pcD p]=some (.bl (oF p)):=by
 cases p with
 |leaf l=>cases l<;>kernel_rfl
 |_=>kernel_rfl
abbrev mY:tz6:=gP 2 0 tG
def dF(b:Bool):Pc->Bool
 | .either _=>true
 | .group _=>b
 |_=>false
theorem yj1(p:Pc)(b:Bool)(m:Int)(hp:oF p=true):mY [pcD p,aP b m]=some (.bl (dF b p)):=by
 cases p with
 |leaf l=>cases hp
 |group r=>cases b<;>kernel_rfl
 |_=>kernel_rfl
def cX(b:Bool)(m:Int):Pc->List (List Pc×Bool×Int)
 | .leaf _=>[]
 | .group r=>if b=true then [(r,false,m),(r,true,m)] else [(r,false,m)]
 | .hang n r=>[(r,b,m+n)]
 | .either rs=>rs.map fun r=>(r,b,m)
def eE(x:List Pc×Bool×Int):D:= .tup [.tup (pcsD x.1),aP x.2.1 x.2.2]
abbrev wI:tz6:=gP 2 2 (mM iO)
theorem sC(b:Bool)(m:Int):(aP b m).imm=true:=rfl
theorem zg3(x:List Pc×Bool×Int):(eE x).imm=true:=by
 show(D.imm (.tup (pcsD x.1))&&(D.imm (aP x.2.1 x.2.2)&&D.imms []))=true
 rw [show D.imm (.tup (pcsD x.1))=D.imms (pcsD x.1) from rfl,pcs_imm];rfl
theorem zz6(b:Bool)(m:Int):∀(rs:List (List Pc)) (x:Option D),fY [x,some (aP b m)] gW (bG (aA (bB (aB 0)) (aA (bB (aB 1)) aE))) (rowsD rs)=some ((rs.map fun r=>(r,b,m)).map eE)
 |[],_=>rfl
 | r::rs,x=>by
  have ih:=zz6 b m rs x
  have hi:=sC b m
  have hp:=pcs_imm r
  show fY _ _ _ (.tup (pcsD r)::rowsD rs)=_
  rw [fY]
  show(gW [some (.tup (pcsD r)),some (aP b m)]).bind _=_
  rw [Zb,Zb]
  have e:bG (aA (bB (aB 0)) (aA (bB (aB 1)) aE)) [some (.tup (pcsD r)),some (aP b m)]=some (eE (r,b,m)):=by
   unfold eE
   generalize aP b m=q at hi|-
   simp! [dIn,inB,nL,D.flat,D.flats,inV,eqV,zd5,fOr,nV,eC,mK,hp,hi]
  show((bG (aA (bB (aB 0)) (aA (bB (aB 1)) aE)) [some (.tup (pcsD r)),some (aP b m)]).bind _)=_
  rw [e,Z4,ih];rfl
def zh7:Pc->Nat
 | .either rs=>rs.length
 |_=>0
theorem kd2{p:PSt}{k w:String}{b:Bool}(hp:p[2]? =some (some (.str k)))(h:decide (k=w)=b):fB (f2 dEq (aB 2) (fC (.str w))) p=some b:=by
 refine dI (aR (oZ hp) rfl ?_)
 show some (D.bl (decide ((k:Str)=(w:Str))))=_
 rw [<-h]
 congr 2
 exact Yz.mpr (by rw [gD])
theorem zk4{p:PSt}{f g:tz2}{b:Bool}{m:Int}(h1:f p=some (.bl b))(h2:g p=some (.int m)):nV (fA "Place" (cJ [.im f,.im g]) iO) p=some (aP b m):=by
 have q:=yy5 b m
 have e:fA "Place" (cJ [.im f,.im g]) iO p=some (.obj true "Place" nsP [.bl b,.int m]):=by
  unfold fA
  rw [dU h1 rfl (dU h2 rfl gM),Z4,q];rfl
 unfold nV
 rw [e];rfl
theorem yj2:ze8 []=some (aP true 0):=fS (p:=[]) rfl (cI (zk4 rfl rfl))
theorem zu2{p:PSt}{f g:tz2}{r:List Pc}{b:Bool}{m:Int}(h1:f p=some (.tup (pcsD r)))(h2:g p=some (aP b m)):bG (aA f (aA g aE)) p=some (eE (r,b,m)):=by
 unfold bG
 rw [aD h1 (aD h2 rfl)]
 refine(if_pos ?_).trans rfl
 have:=zg3 (r,b,m)
 rw [show D.imms [.tup (pcsD r),aP b m]=true from this];rfl
theorem yr7(p:Pc)(b:Bool)(m:Int)(hp:oF p=true)(hl:zh7 p<=1000):wI [pcD p,aP b m]=some (.lst true ((cX b m p).map eE)):=by
 show gP 2 2 (mM iO) _=_
 cases p with
 |leaf l=>cases hp
 | group r=>
  have s1:aU 2 (aI (bB (f2 dIx (aB 0) (fC (.int 0))))) [some (pcD (.group r)),some (aP b m),none,none]=some (.nx,[some (pcD (.group r)),some (aP b m),some (.str "group"),none]):=bD (cB (aR rfl rfl (mG _ _)) rfl)
  have s4:aU 3 (aI (bG (aA (bB (f2 dIx (aB 0) (fC (.int 1)))) (aA (nV (fA "Place" (cJ [.im (fC (.bl false)),.im (cQ "Place" "margin" (aB 1))]) iO)) aE)))) [some (pcD (.group r)),some (aP b m),some (.str "group"),none]=some (.nx,[some (pcD (.group r)),some (aP b m),some (.str "group"),some (eE (r,false,m))]):=bD (zu2 (cB (aR rfl rfl (iD _ _ _)) (pcs_imm r)) (zk4 rfl (by kernel_rfl)))
  have w3:bB (aB 3) [some (pcD (.group r)),some (aP b m),some (.str "group"),some (eE (r,false,m))]=some (eE (r,false,m)):=cB rfl (zg3 _)
  have br:fT (cQ "Place" "broken" (aB 1)) [some (pcD (.group r)),some (aP b m),some (.str "group"),some (eE (r,false,m))]=some b:=vP (by kernel_rfl)
  suffices h:∃q,mM iO [some (pcD (.group r)),some (aP b m),none,none]=some (.ret (.lst true ((cX b m (.group r)).map eE)),q) from by
   obtain⟨q,hq⟩:=h;exact fS rfl hq
  unfold mM
  rw [aN s1,aN (bE (kd2 rfl (by decide))),aN (bE (kd2 rfl (by decide))),aN s4]
  cases b with
  |true=>exact⟨_,dR ((bM br).trans (cI (fJ (aD w3 (aD (zu2 (cB (aR rfl rfl (iD _ _ _)) (pcs_imm r)) (cB rfl rfl)) rfl)) (Z3 rfl))))⟩
  |false=>exact⟨_,(aN (bE br)).trans (cI (fJ (aD w3 rfl) (Z3 rfl)))⟩
 |hang n r=>
  have s1:aU 2 (aI (bB (f2 dIx (aB 0) (fC (.int 0))))) [some (pcD (.hang n r)),some (aP b m),none,none]=some (.nx,[some (pcD (.hang n r)),some (aP b m),some (.str "hang"),none]):=bD (cB (aR rfl rfl (mG _ _)) rfl)
  refine fS (p:=[some (pcD (.hang n r)),some (aP b m),some (.str "hang"),none]) rfl ?_
  unfold mM
  exact(aN s1).trans (dR ((bM (kd2 rfl (by decide))).trans (cI (fJ (aD (zu2 (cB (aR rfl rfl (yi8 _ _ _ _)) (pcs_imm r)) (zk4 (by kernel_rfl) (aR (x:= .int m) (by kernel_rfl) (aR rfl rfl (iD _ _ _)) rfl))) rfl) (Z3 rfl)))))
 | either rs=>
  generalize iO=G
  have hz:(rowsD rs).length<=sizeLine:=by rw [kL];exact sz hl
  have e:=zz6 b m rs none
  have e2:iL [none,some 1] (eC (f2 dIx (aB 0) (fC (.int 1)))) gW (bG (aA (bB (aB 0)) (aA (bB (aB 1)) aE))) [some (pcD (.either rs)),some (aP b m),some (.str "either"),none]=some (.lst true ((cX b m (.either rs)).map eE)):=by
   unfold iL
   have e3:eC (f2 dIx (aB 0) (fC (.int 1))) [some (pcD (.either rs)),some (aP b m),some (.str "either"),none]=some (rowsD rs):=by simp! [dIn,inB,nL,D.flat,D.flats,inV,eqV,zd5,fOr,nV,eC,mK,pcD]
   rw [e3,Z4,if_pos hz]
   have e4:fY (qU [none,some 1] [some (pcD (.either rs)),some (aP b m),some (.str "either"),none]) gW (bG (aA (bB (aB 0)) (aA (bB (aB 1)) aE))) (rowsD rs)=some ((rs.map fun r=>(r,b,m)).map eE):=e
   rw [e4];rfl
  have s1:aU 2 (aI (bB (f2 dIx (aB 0) (fC (.int 0))))) [some (pcD (.either rs)),some (aP b m),none,none]=some (.nx,[some (pcD (.either rs)),some (aP b m),some (.str "either"),none]):=by simp! [dIn,inB,nL,D.flat,D.flats,inV,eqV,zd5,fOr,nV,eC,mK,pcD]
  have s2:∀F:tz1,fIf (aV (fB (f2 dEq (aB 2) (fC (.str "hang"))))) F bH [some (pcD (.either rs)),some (aP b m),some (.str "either"),none]=some (.nx,[some (pcD (.either rs)),some (aP b m),some (.str "either"),none]):=fun F=>by simp! [dIn,inB,nL,D.flat,D.flats,inV,eqV,zd5,fOr,nV,eC,mK]
  have s3:∀F:tz1,fIf (aV (fB (f2 dEq (aB 2) (fC (.str "either"))))) F bH [some (pcD (.either rs)),some (aP b m),some (.str "either"),none]=F [some (pcD (.either rs)),some (aP b m),some (.str "either"),none]:=fun F=>by simp! [dIn,inB,nL,D.flat,D.flats,inV,eqV,zd5,fOr,nV,eC,mK]
  refine fS rfl ?_ (p:=[some (pcD (.either rs)),some (aP b m),some (.str "either"),none])
  unfold mM
  exact(aN s1).trans ((aN (s2 _)).trans (dR ((s3 _).trans (cI e2))))
abbrev gNl:tz6:=gP 1 0 za1
theorem yd4(m:Int)(h0: -1000<=m)(h1:m<=1000):iK (.str " ") (.int m)=some (.str (Txt.mul " " m)):=by
 rw [iK,if_pos]
 simp only [Zx,ZK]
 exact⟨⟨by decide+kernel,by omega⟩,by omega⟩
theorem xx9(m:Int)(h0:0<=m)(h1:m<=200):gNl [.int m]=some (.str (nlw m)):=by
 have q:=yd4 m (by omega) (by omega)
 have hl:1+(Txt.mul " " m).length<=sizeLine:=by rw [iQ];exact sz (by omega)
 have e:((⟨#[10]⟩:Str)++Txt.mul " " m)=nlw m:=rfl
 have e1:cD (.str "\n") (.str (Txt.mul " " m))=some (.str (nlw m)):=by
  rw [zn8,cD,if_pos (by exact hl)];rfl
 exact fS rfl (cI (aR rfl (aR rfl rfl q) e1))
abbrev qZ:tz6:=gP 3 1 (pV gNl)
def wrD:Option Str->D
 |some w=> .str w
 |none=> .non
theorem kd3{p:PSt}{k w:String}{b:Bool}(hp:p[3]? =some (some (.str k)))(h:decide (k=w)=b):fB (f2 dEq (aB 3) (fC (.str w))) p=some b:=by
 refine dI (aR (oZ hp) rfl ?_)
 show some (D.bl (decide ((k:Str)=(w:Str))))=_
 rw [<-h]
 congr 2
 exact Yz.mpr (by rw [gD])
theorem zo1(l:Leaf)(b:Bool)(m:Int)(k:Nat)(hl:eV l)(h0:0<=m)(h1:m<=200)(hk:k<=1000000):qZ [bF l,aP b m,.int k]=some (wrD (wr b m k l)):=by
 suffices h:∃q,pV gNl [some (bF l),some (aP b m),some (.int k),none]=some (.ret (wrD (wr b m k l)),q) from by
  obtain⟨q,hq⟩:=h;exact fS rfl hq
 have br:∀d x,fT (cQ "Place" "broken" (aB 1)) [some d,some (aP b m),some (.int k),x]=some b:=fun d x=>vP (by kernel_rfl)
 have mg:∀d x,aG gNl (aA (cQ "Place" "margin" (aB 1)) aE) [some d,some (aP b m),some (.int k),x]=some (.str (nlw m)):=fun d x=>aS (ds:=[.int m]) (aD (by kernel_rfl) rfl) (xx9 m h0 h1)
 have s1:∀(w:String) (ds:List D),aU 3 (aI (bB (f2 dIx (aB 0) (fC (.int 0))))) [some (.tup (.str w::ds)),some (aP b m),some (.int k),none]=some (.nx,[some (.tup (.str w::ds)),some (aP b m),some (.int k),some (.str w)]):=fun w ds=>bD (cB (aR rfl rfl (mG _ _)) rfl)
 unfold pV
 cases l with
 |word x=>exact⟨_,(aN (s1 "word" [.str x])).trans (dR ((bM (kd3 rfl (by decide))).trans (cI (cB (aR rfl rfl (iD _ _ _)) rfl))))⟩
 |gap x=>
  show ∃q,aT _ _ [some (.tup [.str "gap",.str x]),some (aP b m),some (.int k),none]=_
  rw [aN (s1 "gap" [.str x]),aN (bE (kd3 rfl (by decide)))]
  cases b with
  |false=>exact⟨_,dR ((bM (iV (kd3 rfl (by decide)) (nI (br _ _)))).trans (cI (cB (aR rfl rfl (iD _ _ _)) rfl)))⟩
  |true=>exact⟨_,(aN (bE (iV (kd3 rfl (by decide)) (nI (br _ _))))).trans ((aN (bE (kD (kd3 rfl (by decide))))).trans ((aN (bE (nI (br _ _)))).trans ((aN (bE (kd3 rfl (by decide)))).trans (cI (mg _ _)))))⟩
 |fin=>
  show ∃q,aT _ _ [some (.tup [.str "end"]),some (aP b m),some (.int k),none]=_
  rw [aN (s1 "end" []),aN (bE (kd3 rfl (by decide))),aN (bE (kD (kd3 rfl (by decide)))),aN (bE (kD (kd3 rfl (by decide))))]
  cases b with
  |false=>exact⟨_,dR ((bM (nI (br _ _))).trans (cI rfl))⟩
  |true=>exact⟨_,(aN (bE (nI (br _ _)))).trans ((aN (bE (kd3 rfl (by decide)))).trans (cI (mg _ _)))⟩
 | stop c=>
  have hc:0<=c/\c<=40:=hl
  show ∃q,aT _ _ [some (.tup [.str "stop",.int c]),some (aP b m),some (.int k),none]=_
  have le:fB (f2 dLe (aB 2) (f2 dIx (aB 0) (fC (.int 1)))) [some (.tup [.str "stop",.int c]),some (aP b m),some (.int k),some (.str "stop")]=some (decide ((k:Int)<=c)):=dI (aR rfl (aR rfl rfl (iD _ _ _)) rfl)
  rw [aN (s1 "stop" [.int c]),aN (bE (kd3 rfl (by decide))),aN (bE (kD (kd3 rfl (by decide))))]
  by_cases hkc:(k:Int)<=c
  ·rw [Zk hkc] at le
   rw [show wr b m k (.stop c)=some (Txt.mul " " (c-k)) from if_pos hkc]
   exact⟨_,dR ((bM (iV (kd3 rfl (by decide)) le)).trans (cI (aR rfl (aR (aR rfl rfl (iD _ _ _)) rfl rfl) (yd4 (c-k) (by omega) (by omega)))))⟩
  ·rw [Za hkc] at le
   rw [aN (bE (iV (kd3 rfl (by decide)) le))]
   cases b with
   |false=>
    rw [show wr false m k (.stop c)=none from(if_neg hkc).trans rfl]
    exact⟨_,dR ((bM (nI (br _ _))).trans (cI rfl))⟩
   |true=>
    rw [show wr true m k (.stop c)=some (nlw c) from(if_neg hkc).trans rfl]
    exact⟨_,(aN (bE (nI (br _ _)))).trans (dR ((bM (kd3 rfl (by decide))).trans (cI (aS (aD (aR rfl rfl (iD _ _ _)) rfl) (xx9 c hc.1 (by omega))))))⟩
theorem xj2{w:Str}:Txt.startswith w ⟨#[10]⟩=decide (w.cps.toList[0]? =some 10):=by
 rw [Yn,ZK,<-yd3 (t:=w) (i:=0)]
 unfold Txt.startswith StrLaws.At
 simp only [Zx,ZK]
abbrev tU:tz6:=gP 1 0 qW
theorem zu3(w:Str):tU [.str w]=some (.bl (decide (w.cps.toList[0]? =some 10))):=by
 rw [<-xj2,<-zn8]
 simp! [qW,rJ,zh2]
abbrev rA:tz6:=gP 2 0 (eG tU)
theorem xj3{t w:Str}(hw:Wr w)(hz:w.length<=1000):rA [.int (col t),.str w]=some (.int (col (t++w))):=by
 have q:=zu3 w
 have hz':w.length<=sizeLine:=sz hz
 show gP 2 0 (eG tU) _=_
 rcases hw with h|⟨m,rfl⟩
 ·have e:decide (w.cps.toList[0]? =some 10)=false:=Za fun h'=>h (ZG h')
  rw [e] at q
  rw [zu1 h]
  generalize tU=G at q|-
  simp! [eG,q,hz']
 ·have e:decide ((nlw m).cps.toList[0]? =some 10)=true:=Zk (by unfold nlw;rw [cF];rfl)
  rw [e] at q
  have e2:col (t++nlw m)=(nlw m).length-1:=by
   unfold nlw
   rw [zn9 (zc4 m),dC];show _=1+_-1;omega
  have e3:1<=(nlw m).length:=by unfold nlw;rw [dC];show 1<=1+_;omega
  rw [e2]
  generalize tU=G at q|-
  generalize nlw m=w at hz' q e3|-
  simp! [eG,q,hz']
  omega
def cat:List Str->Str
 |[]=>⟨#[]⟩
 |x::xs=>x++cat xs
theorem zu4(t:Str):t++(⟨#[]⟩:Str)=t:=qQ (by rw [cF];simp! [Yp])
theorem yr8(t:Str):(⟨#[]⟩:Str)++t=t:=qQ (by rw [cF];simp! [Yp])
theorem yr9(a b c:Str):(a++b)++c=a++(b++c):=qQ (by simp only [cF,Zh])
theorem yJ:∀(ps:List Str) (w:Str),cat (ps++[w])=cat ps++w
 |[],w=>by show w++(⟨#[]⟩:Str)=(⟨#[]⟩:Str)++w;rw [zu4,yr8]
 |x::ps,w=>by show x++cat (ps++[w])=(x++cat ps)++w;rw [yJ ps w,yr9]
abbrev nsS:List Str:=["choices","used","column","parts"]
def aY(C:List Int):List D:=C.map .int
theorem zc5(a b:List Int):aY (a++b)=aY a++aY b:=by simp! [aY]
theorem sE(a:List Int):(aY a).length=a.length:=by simp! [aY]
theorem zo2:∀C:List Int,D.ints (aY C)=some C
 |[]=>rfl
 |c::C=>by show D.ints (.int c::aY C)=_;rw [D.ints,zo2 C];rfl
def stD(C:List Int)(u:Nat)(ps:List Str):D:= .obj true "Setter" nsS [.tup (aY C),.int u,.int (col (cat ps)),.lst true (bZ ps)]
theorem kM:∀C,D.imms (aY C)=true
 |[]=>rfl
 |c::C=>by show(D.imm (.int c)&&D.imms (aY C))=true;rw [kM C];rfl
abbrev lJ:tz7:=gE 3 1 (bI [true,false,false]) (jF qZ rA)
theorem xs8{C:List Int}{u:Nat}{ps:List Str}{l:Leaf}{b:Bool}{m:Int}{w:Str}(hl:eV l)(h0:0<=m)(h1:m<=200)(hw:wr b m (col (cat ps)) l=some w)(hp:ps.length<=900)(hc:(cat ps).length<=1000000):
  lJ [stD C u ps,bF l,aP b m]=some (.non,[stD C u (ps++[w]),bF l,aP b m]):=by
 obtain⟨hW,hz⟩:=zo0 hl h0 h1 hw
 have q1:=zo1 l b m (col (cat ps)) hl h0 h1 (Zr (wk3 _) hc)
 rw [hw] at q1
 have q2:=xj3 (t:=cat ps) hW (by omega)
 have hi:(bZ ps).length<sizeLine:=by rw [xi6];exact sz1 (by omega)
 have es:bZ (ps++[w])=bZ ps++[.str w]:=by rw [xi5];rfl
 show gE 3 1 _ (jF qZ rA) _=_
 unfold stD
 rw [yJ,es]
 generalize bF l=dl at q1|-
 generalize aP b m=dp at q1|-
 generalize qZ=G1 at q1|-
 generalize rA=G2 at q2|-
 simp only [wrD] at q1
 simp! [jF,q1,q2,hi]
abbrev qF:tz7:=gE 2 1 (bI [true,false]) jT
theorem jY{α:Type}{xs:List α}{n:Nat}{v:α}(h:xs[n]? =some v):atI xs (n:Int)=some v:=zr9 h
theorem xs9{C:List Int}{u n:Nat}{c:Int}{ps:List Str}(hc:C[u]? =some c)(h0:0<=c)(h1:c<n):qF [stD C u ps,.int n]=some (.int c,[stD C (u+1) ps,.int n]):=by
 obtain⟨hu,_⟩:=Z8.mp hc
 have hl:(aY C).length=C.length:=Zd _
 have e:atI (aY C) (u:Int)=some (.int c):=jY (by unfold aY;rw [Zc,hc];rfl)
 have g1:¬((C.length:Int)<=(u:Int)):=by omega
 have g2:¬(c<0):=by omega
 have g3:¬((n:Int)<=c):=by omega
 unfold stD
 simp! [jT,hl,e,g1,g2,g3]
abbrev zM(GR:tz7):tz7:=gE 3 3 (bI [true,false,false]) (iM wI mY qF GR)
theorem zg4{GR:tz7}{p:Pc}{b:Bool}{m:Int}{C:List Int}{u u1 i:Nat}{ps:List Str}{x:List Pc×Bool×Int}{N:D}(hp:oF p=true)(hn:zh7 p<=1000)(hi:(cX b m p)[i]? =some x)
  (hc:(dF b p=true/\C[u]? =some (i:Int)/\u1=u+1)\/(dF b p=false/\i=0/\u1=u)) (hR:GR [stD C u1 ps,.tup (pcsD x.1),aP x.2.1 x.2.2]=some (.non,[N,.tup (pcsD x.1),aP x.2.1 x.2.2])):
  zM GR [stD C u ps,pcD p,aP b m]=some (.non,[N,pcD p,aP b m]):=by
 have q1:=yr7 p b m hp hn
 have q2:=yj1 p b m hp
 have hil:i<((cX b m p).map eE).length:=by rw [Zd];exact(Z8.mp hi).1
 have e1:atI ((cX b m p).map eE) (i:Int)=some (eE x):=jY (by rw [Zc,hi];rfl)
 have hw:=zg3 x
 have p1:=pcs_imm x.1
 have p2:=sC x.2.1 x.2.2
 generalize hW:(cX b m p).map eE=W at q1 hil e1
 have st1:∀v ps',stD C v ps'= .obj true "Setter" nsS [.tup (aY C),.int v,.int (col (cat ps')),.lst true (bZ ps')]:=fun _ _=>rfl
 have hm:∀v,eD "Setter" "set_row" GR [.tup (pcsD x.1),aP x.2.1 x.2.2] (stD C v ps)=(GR [stD C v ps,.tup (pcsD x.1),aP x.2.1 x.2.2]).bind fun r=>match r.2 with
   |d'::ds=>if ds.length=2 then some (r.1,d') else none
   |[]=>none:=fun v=>by
  rw [st1]
  show(if (("Setter":Str)="Setter"/\cW nsS "set_row"=none) then _ else none)=_
  exact if_pos ⟨rfl,by simp! [Yp]⟩
 have hm1:eD "Setter" "set_row" GR [.tup (pcsD x.1),aP x.2.1 x.2.2] (stD C u1 ps)=some (.non,N):=by rw [hm,hR];rfl
 have body:∀f4:Int,aT (aU 5 (aI (bB (f2 dIx (aB 3) (aB 4))))) (cE (dA 0 bK (cJ [.im (f2 dIx (aB 5) (fC (.int 0))),.im (f2 dIx (aB 5) (fC (.int 1)))]) (eD "Setter" "set_row" GR))) [some (stD C u1 ps),some (pcD p),some (aP b m),some (.lst true W),some (.int (i:Int)),none]=some (.nx,[some N,some (pcD p),some (aP b m),some (.lst true W),some (.int (i:Int)),some (eE x)]):=fun _=>by
  have s1:aU 5 (aI (bB (f2 dIx (aB 3) (aB 4)))) [some (stD C u1 ps),some (pcD p),some (aP b m),some (.lst true W),some (.int (i:Int)),none]=some (.nx,[some (stD C u1 ps),some (pcD p),some (aP b m),some (.lst true W),some (.int (i:Int)),some (eE x)]):=by
   refine bD ?_
   simp! [e1,hw]
  refine(aN s1).trans ?_
  unfold eE at*
  generalize aP x.2.1 x.2.2=PX at*
  generalize stD C u1 ps=ST at*
  simp! [p1,p2,hm1]
 show gE 3 3 _ (iM wI mY qF GR) _=_
 have s1:aU 3 (aI (aG wI (aA (aB 1) (aA (aB 2) aE)))) [some (stD C u ps),some (pcD p),some (aP b m),none,none,none]=some (.nx,[some (stD C u ps),some (pcD p),some (aP b m),some (.lst true W),none,none]):=bD (aS (aD rfl (aD rfl rfl)) q1)
 have s2:aU 4 (aI (fC (.int 0))) [some (stD C u ps),some (pcD p),some (aP b m),some (.lst true W),none,none]=some (.nx,[some (stD C u ps),some (pcD p),some (aP b m),some (.lst true W),some (.int 0),none]):=rfl
 have t1:∀B,dF b p=B->aV (fT (aG mY (aA (aB 1) (aA (aB 2) aE)))) [some (stD C u ps),some (pcD p),some (aP b m),some (.lst true W),some (.int 0),none]=some (B,[some (stD C u ps),some (pcD p),some (aP b m),some (.lst true W),some (.int 0),none]):=fun B hB=>by
  have e:aG mY (aA (aB 1) (aA (aB 2) aE)) [some (stD C u ps),some (pcD p),some (aP b m),some (.lst true W),some (.int 0),none]=some (.bl B):=aS (aD rfl (aD rfl rfl)) (hB▸q2)
  unfold aV fT
  rw [e];rfl
 have s3:fIf (aV (fT (aG mY (aA (aB 1) (aA (aB 2) aE))))) (aU 4 (dA 0 bK (cJ [.im (aG cM (aA (aB 3) aE))]) (eD "Setter" "choice_below" qF))) bH [some (stD C u ps),some (pcD p),some (aP b m),some (.lst true W),some (.int 0),none]=some (.nx,[some (stD C u1 ps),some (pcD p),some (aP b m),some (.lst true W),some (.int (i:Int)),none]):=by
  rcases hc with ⟨hT,hC,rfl⟩|⟨hT,rfl,rfl⟩
  ·refine(yd2 (t1 _ hT)).trans ?_
   have qb:=xs9 (ps:=ps) hC (by omega) (show(i:Int)<(W.length:Nat) by omega)
   have hb:eD "Setter" "choice_below" qF [.int (W.length:Nat)] (stD C u ps)=some (.int (i:Int),stD C (u+1) ps):=by
    have e:eD "Setter" "choice_below" qF [.int (W.length:Nat)] (stD C u ps)=(qF [stD C u ps,.int (W.length:Nat)]).bind fun r=>match r.2 with
      |d'::ds=>if ds.length=1 then some (r.1,d') else none
      |[]=>none:=by
     rw [st1]
     show(if (("Setter":Str)="Setter"/\cW nsS "choice_below"=none) then _ else none)=_
     exact if_pos ⟨rfl,by simp! [Yp]⟩
    rw [e,qb];rfl
   generalize qF=G at hb|-
   generalize stD C u ps=S0 at hb|-
   generalize stD C (u+1) ps=S1 at hb|-
   generalize pcD p=d1
   generalize aP b m=d2
   simp! [hb]
  ·exact(gH (t1 _ hT)).trans rfl
 have z:=(aN s1).trans ((aN s2).trans ((aN s3).trans (body 0)))
 unfold gE
 refine(if_pos rfl).trans ?_
 have z':iM wI mY qF GR ([stD C u ps,pcD p,aP b m].map some++List.replicate 3 none)=some (.nx,[some N,some (pcD p),some (aP b m),some (.lst true W),some (.int (i:Int)),some (eE x)]):=z
 rw [z']
 rfl
def zN(GH GPl:tz7):tz1:=
   (fIf (aV (fT (aG lI (aA (aB 3) aE))))
   (cE (dA 0 bK (cJ [.im (aB 3),.im (aB 2)]) (eD "Setter" "set_holder" GH)))
   (cE (dA 0 bK (cJ [.im (aB 3),.im (aB 2)]) (eD "Setter" "set_plain" GPl))))
theorem zu5{g:tz7}{m:Str}{C:List Int}{u:Nat}{ps:List Str}{d1 d2 N v:D}(hm:cW nsS m=none)(h:g [stD C u ps,d1,d2]=some (v,[N,d1,d2])):eD "Setter" m g [d1,d2] (stD C u ps)=some (v,N):=by
 show(if (("Setter":Str)="Setter"/\cW nsS m=none) then(g [stD C u ps,d1,d2]).bind _ else none)=_
 rw [if_pos ⟨rfl,hm⟩,h];rfl
theorem zg5{GH:tz7}{C:List Int}{u:Nat}{ps:List Str}{p:Pc}{b:Bool}{m:Int}{R:Option D}{N:D}(hp:oF p=true)(h:GH [stD C u ps,pcD p,aP b m]=some (.non,[N,pcD p,aP b m])):
  zN GH lJ [some (stD C u ps),R,some (aP b m),some (pcD p)]=some (.nx,[some N,R,some (aP b m),some (pcD p)]):=by
 have q:=zk3 p
 rw [hp] at q
 have hm:=zu5 (m:="set_holder") (by simp! [Yp]) h
 have i1:=xF p
 have i2:=sC b m
 unfold zN
 generalize lI=G1 at q|-
 generalize lJ=G2
 generalize stD C u ps=S at hm|-
 generalize pcD p=d1 at*
 generalize aP b m=d2 at*
 refine(yd2 (p':=[some S,R,some d2,some d1]) (by simp! [q])).trans ?_
 simp! [i1,i2,hm]
theorem xt0{GH:tz7}{C:List Int}{u:Nat}{ps:List Str}{l:Leaf}{b:Bool}{m:Int}{R:Option D}{N:D}(h:lJ [stD C u ps,bF l,aP b m]=some (.non,[N,bF l,aP b m])):
  zN GH lJ [some (stD C u ps),R,some (aP b m),some (bF l)]=some (.nx,[some N,R,some (aP b m),some (bF l)]):=by
 have q:lI [bF l]=some (.bl false):=zk3 (.leaf l)
 have hm:=zu5 (m:="set_plain") (by simp! [Yp]) h
 have i1:=yG l
 have i2:=sC b m
 unfold zN
 generalize lI=G1 at q|-
 generalize lJ=G2 at hm|-
 generalize stD C u ps=S at hm|-
 generalize bF l=d1 at*
 generalize aP b m=d2 at*
 refine(gH (p':=[some S,R,some d2,some d1]) (by simp! [q])).trans ?_
 simp! [i1,i2,hm]
def tW:Nat->tz7
 |0=>fun _=>none
 |n+1=>gE 3 1 (bI [true,false,false]) (jW lI (zM (tW n)) lJ)
def zO(a l w:Nat):Prop:=a+w<=900/\l+201*w<=1000000
def lW(a a' l l' w:Nat):Prop:=a'<=a+w/\l'<=l+201*w
theorem zg6{a l w w':Nat}(h:zO a l w)(hw:w'<=w):zO a l w':=by unfold zO at*;omega
theorem yK{a a' l l' w w':Nat}(h:lW a a' l l' w)(hw:w<=w'):lW a a' l l' w':=by unfold lW at*;omega
theorem xj4{a a' l l' v w:Nat}(h:zO a l (v+w))(g:lW a a' l l' v):zO a' l' w:=by unfold zO lW at*;omega
theorem yp0{a a1 a2 l l1 l2 v w:Nat}(g:lW a a1 l l1 v)(h:lW a1 a2 l1 l2 w):lW a a2 l l2 (v+w):=by unfold lW at*;omega
theorem xj5{m:Int}{x:Nat}(h:m+12*((x+1:Nat):Int)<=200):m+12*(x:Int)<=200:=by omega
theorem zu6{m:Int}{x y:Nat}(h:m+12*(y:Int)<=200)(hx:x<=y):m+12*(x:Int)<=200:=by omega
theorem wk5{m k:Int}{x:Nat}(h:m+12*((x+1:Nat):Int)<=200)(hk:k<=12):m+k+12*(x:Int)<=200:=by omega
theorem xt1{ps:List Str}{w:Str}(hw:w.length<=201):lW ps.length (ps++[w]).length (cat ps).length (cat (ps++[w])).length 1:=by
 rw [yJ,dC,Z2]
 unfold lW
 show _+1<=_/\_
 omega
def xa9(GR:tz7)(r:List Pc):Prop:=∀(b:Bool) (m:Int) (C:List Int) (u:Nat) (ps:List Str) (cs':List Int) (t':Str),0<=m->m+12*depR r<=200->setR b m r (C.drop u) (cat ps)=some (cs',t')->u<=C.length->
 zO ps.length (cat ps).length (toksR r).length->
 ∃u' ps',GR [stD C u ps,.tup (pcsD r),aP b m]=some (.non,[stD C u' ps',.tup (pcsD r),aP b m])/\C.drop u'=cs'/\cat ps'=t'/\u'<=C.length/\lW ps.length ps'.length (cat ps).length (cat ps').length (toksR r).length
theorem zz7{C:List Int}{u:Nat}{c:Int}{cs:List Int}(h:C.drop u=c::cs):C[u]? =some c/\C.drop (u+1)=cs/\u+1<=C.length:=by
 have hu:u<C.length:=by
  rcases Nat.lt_or_ge u C.length with h1|h1
  ·exact h1
  ·rw [List.drop_eq_nil_of_le h1] at h;cases h
 rw [ZT hu] at h
 cases h
 exact⟨Zo hu,rfl,hu⟩
theorem sF:∀{rs:List (List Pc)} {i:Nat} {r:List Pc},rs[i]? =some r->depR r<=depRs rs
 |[],i,_,h=>by simp! [Yp] at h
 |q::rs,0,_,h=>by simp! [Yp] at h;subst h;rw [depRs];omega
 |q::rs,i+1,_,h=>by have:=sF (rs:=rs) (i:=i) (by simpa using h);rw [depRs];omega
theorem yL:∀{rs:List (List Pc)} {i:Nat} {r:List Pc},okRs rs->rs[i]? =some r->okR r
 |[],i,_,_,h=>by simp! [Yp] at h
 |q::rs,0,_,o,h=>by simp! [Yp] at h;subst h;rw [okRs] at o;exact o.1
 |q::rs,i+1,_,o,h=>by rw [okRs] at o;exact yL (rs:=rs) (i:=i) o.2 (by simpa using h)
def zl3(GR:tz7)(p:Pc)(b:Bool)(m:Int)(C:List Int)(u:Nat)(ps:List Str)(cs':List Int)(t':Str)(R:Option D):Prop:=∃u' ps',zN (zM GR) lJ [some (stD C u ps),R,some (aP b m),some (pcD p)]=some (.nx,[some (stD C u' ps'),R,some (aP b m),some (pcD p)])/\C.drop u'=cs'/\cat ps'=t'/\u'<=C.length/\lW ps.length ps'.length (cat ps).length (cat ps').length (cU p).length
theorem xj6{GR:tz7}{p:Pc}{k:Nat}(hG:∀r,depR r<k->okR r->xa9 GR r)(hd:dJ p<=k)(ho:okP p){b:Bool}{m:Int}{C:List Int}{u:Nat}{ps:List Str}{cs':List Int}{t':Str}{R:Option D}(h0:0<=m)(h1:m+12*dJ p<=200)
  (h:cL b m p (C.drop u) (cat ps)=some (cs',t')) (hu:u<=C.length) (hp:zO ps.length (cat ps).length (cU p).length):zl3 GR p b m C u ps cs' t' R:=by
 cases p with
 | leaf l=>
  rw [cL] at h
  cases e:wr b m (col (cat ps)) l with
  |none=>rw [e] at h;cases h
  |some w=>
   rw [e] at h
   cases h
   have hl:eV l:=ho
   have h1':m<=200:=by rw [dJ] at h1;omega
   obtain⟨_,hz⟩:=zo0 hl h0 h1' e
   rw [show(cU (.leaf l)).length=1 from rfl] at hp
   have q:=xs8 (C:=C) (u:=u) hl h0 h1' e (by have:=hp.1;omega) (by have:=hp.2;omega)
   delta zl3
   exact⟨u,ps++[w],xt0 q,rfl,yJ ps w,hu,(show(cU (.leaf l)).length=1 from rfl)▸xt1 hz⟩
 | group r=>
  have ho':okR r:=ho
  rw [dJ] at hd h1
  have hd':depR r<k:=hd
  have h1':m+12*depR r<=200:=xj5 h1
  have ht:(cU (.group r)).length=(toksR r).length+2:=by simp! [cU]
  rw [ht] at hp
  have hp':=zg6 hp (ZC _ 2)
  rw [cL.eq_def] at h
  simp only at h
  cases b with
  |false=>
   simp only [ZQ,Ym] at h
   obtain⟨u',ps',q,e1,e2,e3,e4⟩:=hG r hd' ho' false m C u ps cs' t' h0 h1' h hu hp'
   delta zl3
   exact⟨u',ps',zg5 rfl (zg4 (i:=0) (x:=(r,false,m)) rfl (by simp! [zh7]) rfl (.inr ⟨rfl,rfl,rfl⟩) q),e1,e2,e3,ht▸yK e4 (ZC _ 2)⟩
  | true=>
   cases hC:C.drop u with
   |nil=>rw [hC] at h;simp! [Yp] at h
   | cons c cs=>
    obtain⟨g1,g2,g3⟩:=zz7 hC
    rw [hC] at h
    simp only [Y2] at h
    have go:∀(i:Nat) (bb:Bool),(i:Int)=c->(cX true m (.group r))[i]? =some (r,bb,m)->setR bb m r cs (cat ps)=some (cs',t')->zl3 GR (.group r) true m C u ps cs' t' R:=fun i bb hi hw hs=>by
     rw [<-g2] at hs
     obtain⟨u',ps',q,e1,e2,e3,e4⟩:=hG r hd' ho' bb m C (u+1) ps cs' t' h0 h1' hs g3 hp'
     delta zl3
     exact⟨u',ps',zg5 rfl (zg4 (i:=i) (x:=(r,bb,m)) rfl (by simp! [zh7]) hw (.inl ⟨rfl,by rw [hi];exact g1,rfl⟩) q),e1,e2,e3,ht▸yK e4 (ZC _ 2)⟩
    by_cases c0:c=0
    ·subst c0
     rw [if_pos rfl] at h
     exact go 0 false rfl rfl h
    ·rw [if_neg c0] at h
     by_cases c1:c=1
     ·subst c1
      rw [if_pos rfl] at h
      exact go 1 true rfl rfl h
     ·rw [if_neg c1] at h;cases h
 |hang n r=>
  have ho':(0<=n/\n<=12)/\okR r:=ho
  rw [dJ] at hd h1
  have ht:(cU (.hang n r)).length=(toksR r).length+2:=by simp! [cU]
  rw [ht] at hp
  rw [cL] at h
  obtain⟨u',ps',q,e1,e2,e3,e4⟩:=hG r hd ho'.2 b (m+n) C u ps cs' t' (Int.add_nonneg h0 ho'.1.1) (wk5 h1 ho'.1.2) h hu (zg6 hp (ZC _ 2))
  delta zl3
  exact⟨u',ps',zg5 rfl (zg4 (i:=0) (x:=(r,b,m+n)) rfl (by simp! [zh7]) rfl (.inr ⟨rfl,rfl,rfl⟩) q),e1,e2,e3,ht▸yK e4 (ZC _ 2)⟩
 | either rs=>
  have ho':(2<=rs.length/\rs.length<=4)/\okRs rs:=ho
  rw [cL.eq_def] at h
  simp only at h
  cases hC:C.drop u with
  |nil=>rw [hC] at h;cases h
  | cons c cs=>
   obtain⟨g1,g2,g3⟩:=zz7 hC
   rw [hC] at h
   simp only at h
   by_cases c0:0<=c
   ·rw [if_pos c0] at h
    cases hr:rs[c.toNat]? with
    |none=>rw [yI hr] at h;cases h
    |some r=>
     rw [sB hr,<-g2] at h
     have hdr:=sF hr
     have hor:=yL ho'.2 hr
     have htr:=wO (ZG hr)
     have ht:(cU (.either rs)).length=(toksRows rs).length+2:=by simp! [cU]
     rw [dJ] at hd h1
     rw [ht] at hp
     obtain⟨u',ps',q,e1,e2,e3,e4⟩:=hG r (Ys hdr hd) hor b m C (u+1) ps cs' t' h0 (zu6 (xj5 h1) hdr) h g3 (zg6 hp (Zr htr (ZC _ 2)))
     delta zl3
     refine⟨u',ps',zg5 rfl (zg4 (i:=c.toNat) (x:=(r,b,m)) rfl (Zr ho'.1.2 (by decide)) (by show(rs.map _)[c.toNat]? =_;rw [Zc,hr];rfl) (.inl ⟨rfl,by rw [Wm c0];exact g1,rfl⟩) q),e1,e2,e3,ht▸yK e4 (Zr htr (ZC _ 2))⟩
   ·rw [if_neg c0] at h;cases h
theorem yj3{GR:tz7}{k:Nat}(hG:∀r,depR r<k->okR r->xa9 GR r){b:Bool}{m:Int}{C:List Int}{R:Option D}(h0:0<=m):∀(r:List Pc) (u:Nat) (ps:List Str) (cs':List Int) (t':Str) (x:Option D),depR r<=k->okR r->m+12*depR r<=200->
  setR b m r (C.drop u) (cat ps)=some (cs',t')->u<=C.length->zO ps.length (cat ps).length (toksR r).length->
  ∃u' ps' y,cO 3 (zN (zM GR) lJ) (pcsD r) [some (stD C u ps),R,some (aP b m),x]=some (.nx,[some (stD C u' ps'),R,some (aP b m),y])/\C.drop u'=cs'/\cat ps'=t'/\u'<=C.length/\lW ps.length ps'.length (cat ps).length (cat ps').length (toksR r).length
 |[],u,ps,cs',t',x,_,_,_,h,hu,_=>by
  rw [setR] at h;cases h
  exact⟨u,ps,x,rfl,rfl,rfl,hu,⟨Z7 _,Z7 _⟩⟩
 | p::r,u,ps,cs',t',x,hd,ho,h1,h,hu,hp=>by
  rw [okR] at ho
  rw [depR] at hd h1
  have ht:(toksR (p::r)).length=(cU p).length+(toksR r).length:=by rw [toksR,Z2]
  rw [ht] at hp|-
  rw [setR] at h
  cases e:cL b m p (C.drop u) (cat ps) with
  |none=>rw [e] at h;cases h
  |some s=>
   obtain⟨c1,t1⟩:=s
   rw [e] at h
   obtain⟨u1,ps1,q1,a1,a2,a3,a4⟩:=xj6 (R:=R) hG (Zr (X8 _ _) hd) ho.1 h0 (zu6 h1 (X8 _ _)) e hu (zg6 hp (ZC _ _))
   have h':setR b m r (C.drop u1) (cat ps1)=some (cs',t'):=by rw [a1,a2];exact h
   obtain⟨u2,ps2,y,q2,b1,b2,b3,b4⟩:=yj3 hG h0 r u1 ps1 cs' t' (some (pcD p)) (Zr (YX _ _) hd) ho.2 (zu6 h1 (YX _ _)) h' a3 (xj4 hp a4)
   refine⟨u2,ps2,y,?_,b1,b2,b3,yp0 a4 b4⟩
   show cO 3 _ (pcD p::pcsD r) _=_
   rw [cO]
   show((zN (zM GR) lJ [some (stD C u ps),R,some (aP b m),some (pcD p)]).bind _)=_
   rw [q1];exact q2
theorem zu7:∀(n:Nat) (r:List Pc),depR r<n->okR r->xa9 (tW n) r
 |0,_,h,_=>absurd h (Yq _)
 |n+1,r,hd,ho=>fun b m C u ps cs' t' h0 h1 h hu hp=>by
  obtain⟨u',ps',y,q,e1,e2,e3,e4⟩:=yj3 (GR:=tW n) (k:=n) (R:=some (.tup (pcsD r))) (fun s hs hk=>zu7 n s hs hk) h0 r u ps cs' t' none (Ww hd) ho h1 h hu hp
  refine⟨u',ps',?_,e1,e2,e3,e4⟩
  show gE 3 1 _ (jW lI (zM (tW n)) lJ) _=_
  unfold gE
  refine(if_pos rfl).trans ?_
  have z:jW lI (zM (tW n)) lJ ([stD C u ps,.tup (pcsD r),aP b m].map some++List.replicate 1 none)=some (.nx,[some (stD C u' ps'),some (.tup (pcsD r)),some (aP b m),y]):=q
  rw [z];rfl
abbrev zq7:tz6:=gP 1 0 lB
theorem yj4:∀ps:List Str,(Str.join "" ps)=cat ps
 |[]=>by decide+kernel
 |[x]=>by show x=x++(⟨#[]⟩:Str);rw [zu4]
 |x::y::r=>by
  have ih:=yj4 (y::r)
  show(x++("":Str))++Str.join "" (y::r)=x++cat (y::r)
  rw [ih,show("":Str)=⟨#[]⟩ from by decide+kernel,zu4]
theorem ys0:∀ps:List Str,(ps.map (·.length)).sum=(cat ps).length
 |[]=>rfl
 |x::ps=>by rw [Zb,List.sum_cons,ys0 ps];show _=(x++cat ps).length;rw [dC]
theorem wZ:∀ps:List Str,D.strs (bZ ps)=some ps
 |[]=>rfl
 |x::ps=>by show D.strs (.str x::bZ ps)=_;rw [D.strs,wZ ps];rfl
theorem xt2{C:List Int}{u:Nat}{ps:List Str}(hu:C.length<=u)(hp:ps.length<=1000)(hc:(cat ps).length<=1000000):zq7 [stD C u ps]=some (.str (cat ps)):=by
 have hl:(aY C).length=C.length:=Zd _
 have g:¬((u:Int)<(C.length:Int)):=by omega
 have e:zq0 (.str "") [.lst true (bZ ps)]=some (.str (cat ps)):=by
  rw [zq0,wZ,Z4,if_pos]
  ·rw [show Txt.join ("":Str) ps=Str.join "" ps from StrLaws.glued_eq_join _ _,yj4]
  ·rw [ys0]
   exact⟨by decide+kernel,by omega⟩
 unfold stD
 simp! [lB,hl,g,e,zh2]
abbrev zq8:tz7:=gE 2 0 (bI [true,false]) qY
theorem wk6(C:List Int):zq8 [.obj true "Setter" [] [],.tup (aY C)]=some (.non,[stD C 0 [],.tup (aY C)]):=by
 have hi:=kM C
 have e:stD C 0 []= .obj true "Setter" nsS [.tup (aY C),.int 0,.int 0,.lst true []]:=rfl
 rw [e]
 simp! [qY,hi]
abbrev vG(n:Nat):tz6:=gP 2 1 (wS zq8 (tW n) ze8 zq7)
theorem zz8{n:Nat}{r:List Pc}{C:List Int}{t:Str}(hd:depR r<n)(h8:depR r<=16)(ho:okR r)(hl:(toksR r).length<=800)(h:setR true 0 r C ⟨#[]⟩=some ([],t)):vG n [.tup (pcsD r),.tup (aY C)]=some (.str t):=by
 obtain⟨u',ps',q,e1,e2,e3,e4,e5⟩:=zu7 n r hd ho true 0 C 0 [] [] t (Yf _) (by omega) h (ZL _) ⟨by show 0+_<=_;omega,by show 0+_<=_;omega⟩
 have e5':(cat ps').length<=0+201*(toksR r).length:=e5
 have e4':ps'.length<=0+(toksR r).length:=e4
 have hu:C.length<=u':=by
  have:=ZV List.length e1
  rw [Xv] at this
  simp! [Yp] at this;omega
 have w:=xt2 (C:=C) (ps:=ps') hu (by omega) (by omega)
 rw [e2] at w
 have i:=wk6 C
 have f:=yj2
 have hm:=zu5 (m:="set_row") (by simp! [Yp]) q
 have p1:=pcs_imm r
 have p2:=kM C
 have p3:=sC true 0
 have w':zq1 "Setter" "whole_text" (aB 2) [some (.tup (pcsD r)),some (.tup (aY C)),some (stD C u' ps')]=some (stD C u' ps'):=by
  unfold stD
  simp! [Yp]
 show gP 2 1 (wS zq8 (tW n) ze8 zq7) _=_
 generalize zq8=G1 at i|-
 generalize tW n=G2 at hm|-
 generalize ze8=G3 at f|-
 generalize zq7=G4 at w|-
 generalize stD C u' ps'=S1 at*
 generalize stD C 0 []=S0 at*
 generalize aP true 0=pl at*
 have s1:aU 2 (aI (fA "Setter" (cJ [.im (aB 1)]) G1)) [some (.tup (pcsD r)),some (.tup (aY C)),none]=some (.nx,[some (.tup (pcsD r)),some (.tup (aY C)),some S0]):=by
  refine bD ?_
  simp! [p2,i]
 have s2:cE (dA 2 bK (cJ [.im (aB 0),.im (aG G3 aE)]) (eD "Setter" "set_row" G2)) [some (.tup (pcsD r)),some (.tup (aY C)),some S0]=some (.nx,[some (.tup (pcsD r)),some (.tup (aY C)),some S1]):=by
  simp! [p1,p3,f,hm]
 exact fS rfl ((aN s1).trans ((aN s2).trans (cI (aS (aD w' rfl) w))))
def lns(t:Str):List Str:=Txt.split t ⟨#[10]⟩
theorem zc6(t:Str):lns t≠[]:=fun z=>by
 have:=split_pos t ⟨#[10]⟩
 rw [show Txt.split t ⟨#[10]⟩=[] from z] at this
 exact absurd this (by decide)
theorem yM(t:Str):∀p∈lns t,(10:Nat)∉p.cps.toList:=StrLaws.split_free _ 10
theorem qR(t:Str):Str.join ⟨#[10]⟩ (lns t)=t:=StrLaws.join_split _ _
theorem yj5{t:Str}{ys:List Str}(hne:ys≠[])(hy:∀p∈ys,(10:Nat)∉p.cps.toList)(e:Str.join ⟨#[10]⟩ ys=t):lns t=ys:=
 yi9 _ _ (zc6 t) hne (yM t) hy ((qR t).trans e.symm)
theorem yj6(t:Str):∃xs y,lns t=xs++[y]:=⟨(lns t).dropLast,(lns t).getLast (zc6 t),(List.dropLast_concat_getLast _).symm⟩
theorem sG:∀(x:Str) (xs:List Str) (y:Str),Str.join ⟨#[10]⟩ (x::xs++[y])=Str.join ⟨#[10]⟩ (x::xs)++((⟨#[10]⟩:Str)++y)
 |x,[],y=>uF (by rw [ZN,ZR,mH,cF,cF];rfl)
 |x,x'::xs,y=>uF (by
  rw [ZN,ZN,mH,cF,mH,<-ZN,sG x' xs y,cF]
  simp [cF])
theorem xj7:∀(xs:List Str) (y w:Str),Str.join ⟨#[10]⟩ (xs++[y++w])=Str.join ⟨#[10]⟩ (xs++[y])++w
 |[],y,w=>rfl
 |x::xs,y,w=>uF (by
  rw [sG,sG]
  simp [cF])
theorem ys1{t w y:Str}{xs:List Str}(h:lns t=xs++[y])(hw:(10:Nat)∉w.cps.toList):lns (t++w)=xs++[y++w]:=by
 have hf:=yM t
 rw [h] at hf
 refine yj5 (by simp) (fun p hp=> ?_) (by rw [xj7,<-h,qR])
 rcases Zp.mp hp with z|z
 ·exact hf p (Zq _ z)
 ·rw [Zg.mp z,cF]
  exact fun m=>(Zp.mp m).elim (hf y (by simp)) hw
theorem xj8{t w:Str}(hw:(10:Nat)∉w.cps.toList):lns (t++((⟨#[10]⟩:Str)++w))=lns t++[w]:=by
 obtain⟨x,xs,h⟩:=List.exists_cons_of_ne_nil (zc6 t)
 refine yj5 (by simp) (fun p hp=> ?_) ?_
 ·rcases Zp.mp hp with z|z
  ·exact yM t p z
  ·rw [Zg.mp z];exact hw
 ·rw [h,sG,<-h,qR]
theorem yj7{t y:Str}{xs:List Str}(h:lns t=xs++[y]):col t=y.length:=by
 have hf:=yM t
 rw [h] at hf
 have hy:=hf y (by simp)
 cases xs with
 |nil=>
  have e:y=t:=by have:=qR t;rw [h] at this;exact this
  have:=zu1 (t:=⟨#[]⟩) hy
  rw [yr8] at this
  rw [<-e,this]
  show 0+_=_
  omega
 |cons x xs=>
  have:=qR t
  rw [h,sG] at this
  rw [<-this,zn9 hy]
def lR(W:Int)(ls:List Str):Int:=(ls.map fun l=>(W-(l.length:Int))*(W-(l.length:Int))).sum
def kI(W:Int)(t:Str)(k:Nat)(ln rg:Int):Prop:=∃xs y,lns t=xs++[y]/\(∀l∈xs++[y],((l:Str).length:Int)<=W)/\k=y.length/\ln=(xs.length:Int)+1/\rg=lR W xs
theorem kI.col{W:Int}{t:Str}{k:Nat}{ln rg:Int}(h:kI W t k ln rg):My.col t=k:=by
 obtain⟨xs,y,h1,_,h3,_⟩:=h
 rw [yj7 h1,h3]
theorem zk5{W:Int}(h:0<=W):kI W ⟨#[]⟩ 0 1 0:=⟨[],⟨#[]⟩,yj5 (by simp) (fun p hp=>by rw [Zg.mp hp];simp) rfl,fun l hl=>by
 rw [ZR] at hl
 rw [Zg.mp hl];exact h,rfl,rfl,rfl⟩
theorem xt3{W:Int}{t w:Str}{k:Nat}{ln rg:Int}(h:kI W t k ln rg)(hw:(10:Nat)∉w.cps.toList)(hk:((k+w.length:Nat):Int)<=W):kI W (t++w) (k+w.length) ln rg:=by
 obtain⟨xs,y,h1,h2,h3,h4,h5⟩:=h
 refine⟨xs,y++w,ys1 h1 hw,fun l hl=> ?_,by rw [dC,h3],h4,h5⟩
 rcases Zp.mp hl with z|z
 ·exact h2 l (Zq _ z)
 ·rw [Zg.mp z,dC,<-h3];exact hk
theorem ys2{W:Int}{t:Str}{k:Nat}{ln rg m:Int}(h:kI W t k ln rg)(h0:0<=m)(hm:m<=W):kI W (t++nlw m) m.toNat (ln+1) (rg+(W-(k:Int))*(W-(k:Int))):=by
 obtain⟨xs,y,h1,h2,h3,h4,h5⟩:=h
 refine⟨xs++[y],Txt.mul " " m,?_,fun l hl=> ?_,by rw [iQ],by rw [Z2,h4];simp,?_⟩
 ·unfold nlw
  rw [xj8 (zc4 m),h1]
 ·rcases Zp.mp hl with z|z
  ·exact h2 l z
  ·rw [Zg.mp z,iQ];omega
 ·unfold lR
  rw [Y7,List.sum_append,h5,h3]
  simp [lR]
abbrev Way:=(Int×Int)×List Int
abbrev Frt:=List (Nat×Way)
def ltW(x y:Way):Bool:=L2.zd8 [[x.1.1,x.1.2],x.2] [[y.1.1,y.1.2],y.2]
def nW:Frt->Nat->Option Way
 |[],_=>none
 |p::F,j=>if p.1=j then some p.2 else nW F j
def mZ:Frt->Nat->Way->Frt
 |[],_,_=>[]
 |p::F,j,y=>(if p.1=j then(p.1,y) else p)::mZ F j y
def iF(F:Frt)(k:Nat)(x:Way):Frt:=match nW F k with
 |none=>F++[(k,x)]
 |some y=>if ltW x y=true then mZ F k x else F
def kJ(F G:Frt):Frt:=G.foldl (fun F p=>iF F p.1 p.2) F
def yn2(n:Int)(p:Nat×Way):Nat×Way:=(p.1,(p.2.1,p.2.2++[n]))
def lC(F:Frt)(n:Int):Frt:=kJ [] (F.map (yn2 n))
def lfB(w:Str):Bool:=decide (w.cps.toList[0]? =some 10)
def jQ(W:Int)(b:Bool)(m:Int)(l:Leaf)(k:Nat)(c:Int×Int):Option (Nat×(Int×Int)):=(wr b m k l).bind fun w=>
 if W<((if lfB w=true then w.length-1 else k+w.length:Nat):Int) then none
 else some (if lfB w=true then w.length-1 else k+w.length,if lfB w=true then(c.1+1,c.2+(W-(k:Int))*(W-(k:Int))) else c)
def kK(W:Int)(b:Bool)(m:Int)(l:Leaf)(F G:Frt):Frt:=F.foldl (fun G p=>match jQ W b m l p.1 p.2.1 with
 |none=>G
 |some s=>iF G s.1 (s.2,p.2.2)) G
def frW(GR:Bool->Int->List Pc->Frt->Frt)(tk:Bool)(F:Frt):Nat->List (List Pc×Bool×Int)->Frt->Frt
 |_,[],A=>A
 |n,x::xs,A=>frW GR tk F (n+1) xs (kJ A (GR x.2.1 x.2.2 x.1 (if tk=true then lC F n else F)))
def frP(W:Int)(GR:Bool->Int->List Pc->Frt->Frt)(b:Bool)(m:Int)(F:Frt):Pc->Frt
 | .leaf l=>kK W b m l F []
 |p=>frW GR (dF b p) F 0 (cX b m p) []
def frN(W:Int):Nat->Bool->Int->List Pc->Frt->Frt
 |0,_,_,_,F=>F
 |n+1,b,m,r,F=>r.foldl (fun F p=>frP W (frN W n) b m F p) F
def Hit(W:Int)(R:List Int->Str->Prop)(p:Nat×Way):Prop:=∃t,R p.2.2 t/\kI W t p.1 p.2.1.1 p.2.1.2
structure Good(W:Int)(R:List Int->Str->Prop)(F:Frt):Prop where
 nd:(F.map (·.1)).Nodup
 hit:∀p∈F,Hit W R p
theorem Good.nil{W:Int}{R:List Int->Str->Prop}:Good W R []:=⟨Zn,fun _ h=>nomatch h⟩
theorem Good.mono{W:Int}{R R':List Int->Str->Prop}{F:Frt}(h:Good W R F)(k:∀c t,R c t->R' c t):Good W R' F:=⟨h.nd,fun p hp=>by
 obtain⟨t,h1,h2⟩:=h.hit p hp
 exact⟨t,k _ _ h1,h2⟩⟩
theorem zc7:∀{F:Frt} {k:Nat},nW F k=none->k∉F.map (·.1)
 |[],_,_=>by simp
 | p::F,k,h=>by
  rw [nW] at h
  by_cases e:p.1=k
  ·rw [if_pos e] at h;cases h
  ·rw [if_neg e] at h
   simp only [Zb,Z5,not_or]
   exact⟨fun z=>e z.symm,zc7 h⟩
theorem vR:∀(F:Frt) (k:Nat) (y:Way),(mZ F k y).map (·.1)=F.map (·.1)
 |[],_,_=>rfl
 |p::F,k,y=>by
  rw [mZ,Zb,Zb,vR F]
  by_cases e:p.1=k
  ·rw [if_pos e]
  ·rw [if_neg e]
theorem yj8:∀{F:Frt} {k:Nat} {y:Way} {p:Nat×Way},p∈mZ F k y->p=(k,y)\/p∈F
 |[],_,_,_,h=>by cases h
 | q::F,k,y,p,h=>by
  rw [mZ] at h
  rcases Z5.mp h with e|e
  ·by_cases z:q.1=k
   ·rw [if_pos z,z] at e;exact .inl e
   ·rw [if_neg z] at e;exact .inr (by rw [e];exact Z0)
  ·exact(yj8 e).imp id (Z1 _)
theorem zz9{W:Int}{R:List Int->Str->Prop}{F:Frt}{k:Nat}{x:Way}(h:Good W R F)(hx:Hit W R (k,x)):Good W R (iF F k x):=by
 unfold iF
 cases e:nW F k with
 | none=>
  simp only
  refine⟨?_,fun p hp=> ?_⟩
  ·rw [Y7,ZB]
   refine⟨h.nd,by simp,fun a ha b hb z=> ?_⟩
   simp only [Zb,X1,Zg] at hb
   subst hb
   subst z
   exact zc7 e ha
  ·rcases Zp.mp hp with z|z
   ·exact h.hit p z
   ·rw [Zg.mp z];exact hx
 | some y=>
  simp only
  by_cases c:ltW x y=true
  ·rw [if_pos c]
   refine⟨by rw [vR];exact h.nd,fun p hp=> ?_⟩
   rcases yj8 hp with z|z
   ·rw [z];exact hx
   ·exact h.hit p z
  ·rw [if_neg c];exact h
theorem wP{W:Int}{R:List Int->Str->Prop}:∀{G F:Frt},Good W R F->(∀p∈G,Hit W R p)->Good W R (kJ F G)
 |[],F,h,_=>h
 |p::G,F,h,hG=>wP (G:=G) (zz9 h (hG p Z0)) fun q hq=>hG q (Z1 _ hq)
def ye3(R:List Int->Str->Prop)(n:Int):List Int->Str->Prop:=fun cs t=>∃c0,R c0 t/\cs=c0++[n]
theorem yN{W:Int}{R:List Int->Str->Prop}{F:Frt}(h:Good W R F)(n:Int):Good W (ye3 R n) (lC F n):=wP .nil fun p hp=>by
 obtain⟨q,hq,rfl⟩:=Yl.mp hp
 obtain⟨t,h1,h2⟩:=h.hit q hq
 exact⟨t,⟨_,h1,rfl⟩,h2⟩
def Aft(R:List Int->Str->Prop)(set:List Int->Str->Option (List Int×Str)):List Int->Str->Prop:=fun cs t=>∃c0 t0 c1,R c0 t0/\cs=c0++c1/\set c1 t0=some ([],t)
theorem xj9(m:Int):lfB (nlw m)=true:=by
 unfold lfB nlw
 rw [cF]
 exact Zk rfl
theorem xy0{w:Str}(h:(10:Nat)∉w.cps.toList):lfB w=false:=by
 unfold lfB
 refine Za fun e=>h (ZG e)
theorem ys3(m:Int):(nlw m).length-1=m.toNat:=by
 unfold nlw
 rw [dC,iQ]
 show 1+m.toNat-1=_
 omega
theorem xt4{W:Int}{b:Bool}{m:Int}{l:Leaf}{k:Nat}{c:Int×Int}{s:Nat×(Int×Int)}{t:Str}(hl:eV l)(h0:0<=m)(h1:m<=200)(hc:kI W t k c.1 c.2)(h:jQ W b m l k c=some s):∃w,wr b m (col t) l=some w/\kI W (t++w) s.1 s.2.1 s.2.2:=by
 unfold jQ at h
 rw [hc.col]
 cases e:wr b m k l with
 |none=>rw [e] at h;cases h
 | some w=>
  rw [e,Z4] at h
  refine⟨w,rfl,?_⟩
  rcases(zo0 hl h0 h1 e).1 with hw|⟨m',hw⟩
  ·rw [xy0 hw] at h
   simp only [ZQ,Ym] at h
   by_cases z:W<((k+w.length:Nat):Int)
   ·rw [if_pos z] at h;cases h
   ·rw [if_neg z] at h
    cases h
    exact xt3 hc hw (by omega)
  ·subst hw
   rw [xj9] at h
   simp only [Y2] at h
   rw [ys3] at h
   by_cases z:W<((m'.toNat:Nat):Int)
   ·rw [if_pos z] at h;cases h
   ·rw [if_neg z] at h
    cases h
    by_cases hm:0<=m'
    ·exact ys2 hc hm (by omega)
    ·have e0:nlw m'=nlw 0:=by unfold nlw;rw [uF (x:=Txt.mul " " m') (y:=Txt.mul " " 0) (by rw [uX,uX];congr 1;omega)]
     have:=ys2 hc (m:=0) (Yf _) (by omega)
     rw [e0,show m'.toNat=(0:Int).toNat by omega]
     exact this
theorem zo3{W:Int}{R:List Int->Str->Prop}{b:Bool}{m:Int}{l:Leaf}(hl:eV l)(h0:0<=m)(h1:m<=200):∀{F G:Frt},(∀p∈F,Hit W R p)->Good W (Aft R (cL b m (.leaf l))) G->Good W (Aft R (cL b m (.leaf l))) (kK W b m l F G)
 |[],G,_,hG=>hG
 | p::F,G,hF,hG=>by
  have key:Good W (Aft R (cL b m (.leaf l))) (match jQ W b m l p.1 p.2.1 with|none=>G|some s=>iF G s.1 (s.2,p.2.2)):=by
   cases e:jQ W b m l p.1 p.2.1 with
   |none=>exact hG
   |some s=>
    obtain⟨t,r1,r2⟩:=hF p Z0
    obtain⟨w,e1,e2⟩:=xt4 hl h0 h1 r2 e
    exact zz9 (x:=(s.2,p.2.2)) hG ⟨t++w,⟨_,t,[],r1,by simp,by rw [cL,e1];rfl⟩,e2⟩
  exact zo3 (F:=F) hl h0 h1 (fun q hq=>hF q (Z1 _ hq)) key
theorem we0{b:Bool}{m:Int}{p:Pc}{i:Nat}{x:List Pc×Bool×Int}(hx:(cX b m p)[i]? =some x)(c:List Int)(t:Str):cL b m p ((if dF b p=true then [(i:Int)] else [])++c) t=setR x.2.1 x.2.2 x.1 c t:=by
 cases p with
 |leaf l=>simp [cX] at hx
 | group r=>
  rw [cL.eq_def]
  cases b with
  | false=>
   have e:i=0:=by
    cases i with
    |zero=>rfl
    |succ i=>simp [cX] at hx
   subst e
   simp [cX] at hx
   subst hx
   simp [dF]
  |true=>
   match i,hx with
   |0,hx=>simp [cX] at hx;subst hx;simp [dF]
   |1,hx=>simp [cX] at hx;subst hx;simp [dF]
   |i+2,hx=>simp [cX] at hx
 | hang n r=>
  have e:i=0:=by
   cases i with
   |zero=>rfl
   |succ i=>simp [cX] at hx
  subst e
  simp [cX] at hx
  subst hx
  simp [dF,cL]
 |either rs=>
  have hx':(rs.map fun r=>(r,b,m))[i]? =some x:=hx
  rw [Zc] at hx'
  obtain⟨r,hr,rfl⟩:=Zt.mp hx'
  rw [cL.eq_def]
  simp only [dF,Y2,ZN,ZR]
  rw [if_pos (by omega)]
  exact sB (by simpa using hr)
def rB(W:Int)(GR:Bool->Int->List Pc->Frt->Frt)(r:List Pc):Prop:=∀(b:Bool) (m:Int) (R:List Int->Str->Prop) (F:Frt),0<=m->m+12*depR r<=200->Good W R F->Good W (Aft R (setR b m r)) (GR b m r F)
theorem ya0{W:Int}{GR:Bool->Int->List Pc->Frt->Frt}{R:List Int->Str->Prop}{b:Bool}{m:Int}{p:Pc}{F:Frt}(hF:Good W R F):∀(xs:List (List Pc×Bool×Int)) (n:Nat) (A:Frt),(∀(i:Nat) x,xs[i]? =some x->(cX b m p)[n+i]? =some x)->(∀x∈xs,0<=x.2.2/\x.2.2+12*depR x.1<=200/\rB W GR x.1)->
  Good W (Aft R (cL b m p)) A->Good W (Aft R (cL b m p)) (frW GR (dF b p) F n xs A)
 |[],n,A,_,_,hA=>hA
 | x::xs,n,A,hi,hx,hA=>by
  rw [frW]
  refine ya0 hF xs (n+1) _ (fun i y hy=>by have:=hi (i+1) y (by simpa using hy);rwa [show n+1+i=n+(i+1) by omega]) (fun y hy=>hx y (Z1 _ hy)) (wP hA ?_)
  obtain⟨h0,h1,hG⟩:=hx x Z0
  have hw:=fun c t=>we0 (hi 0 x rfl) c t
  rw [Xr] at hw
  by_cases tk:dF b p=true
  ·rw [if_pos tk]
   simp only [tk,Y2] at hw
   intro q hq
   obtain⟨t,⟨c0,t0,c1,⟨c,r1,rfl⟩,e1,e2⟩,hc⟩:=(hG x.2.1 x.2.2 _ _ h0 h1 (yN hF n)).hit q hq
   exact⟨t,⟨c,t0,n::c1,r1,by rw [e1];simp,by rw [<-e2,<-hw];rfl⟩,hc⟩
  ·rw [if_neg tk]
   simp only [tk,ZQ,Ym,ZR] at hw
   intro q hq
   obtain⟨t,⟨c0,t0,c1,r1,e1,e2⟩,hc⟩:=(hG x.2.1 x.2.2 _ _ h0 h1 hF).hit q hq
   exact⟨t,⟨c0,t0,c1,r1,e1,by rw [<-e2,<-hw]⟩,hc⟩
theorem zk6{b:Bool}{m:Int}{p:Pc}{x:List Pc×Bool×Int}{k:Nat}(ho:okP p)(h0:0<=m)(h1:m+12*dJ p<=200)(hk:dJ p<=k)(hx:x∈cX b m p):0<=x.2.2/\x.2.2+12*depR x.1<=200/\depR x.1<k/\okR x.1:=by
 cases p with
 |leaf l=>simp [cX] at hx
 | group r=>
  rw [dJ] at h1 hk
  have hr:okR r:=ho
  have:x.1=r/\x.2.2=m:=by
   cases b<;>simp [cX] at hx
   ·subst hx;exact⟨rfl,rfl⟩
   ·rcases hx with e|e<;>subst e<;>exact⟨rfl,rfl⟩
  rw [this.1,this.2]
  exact⟨h0,by omega,by omega,hr⟩
 |hang n r=>
  rw [dJ] at h1 hk
  have hr:(0<=n/\n<=12)/\okR r:=ho
  simp [cX] at hx
  subst hx
  exact⟨by show 0<=m+n;omega,by show m+n+12*(depR r:Int)<=200;omega,by show depR r<k;omega,hr.2⟩
 |either rs=>
  rw [dJ] at h1 hk
  have hr:(2<=rs.length/\rs.length<=4)/\okRs rs:=ho
  obtain⟨r,hm,rfl⟩:=Yl.mp (show x∈rs.map fun r=>(r,b,m) from hx)
  obtain⟨i,hi⟩:=YC hm
  have:=sF hi
  exact⟨h0,by show m+12*(depR r:Int)<=200;omega,by show depR r<k;omega,yL hr.2 hi⟩
theorem yO{W:Int}{GR:Bool->Int->List Pc->Frt->Frt}{k:Nat}(hG:∀r,depR r<k->okR r->rB W GR r){R:List Int->Str->Prop}{b:Bool}{m:Int}{p:Pc}{F:Frt}(hk:dJ p<=k)(ho:okP p)(h0:0<=m)(h1:m+12*dJ p<=200)(hF:Good W R F):Good W (Aft R (cL b m p)) (frP W GR b m F p):=by
 have hold:Good W (Aft R (cL b m p)) (frW GR (dF b p) F 0 (cX b m p) []):=ya0 hF _ 0 [] (fun i x h=>by rwa [YF]) (fun x hx=>by
  obtain⟨a1,a2,a3,a4⟩:=zk6 ho h0 h1 hk hx
  exact⟨a1,a2,hG x.1 a3 a4⟩) .nil
 cases p with
 |leaf l=>exact zo3 ho h0 (by rw [dJ] at h1;omega) hF.hit .nil
 |group r=>exact hold
 |hang n r=>exact hold
 |either rs=>exact hold
theorem ya1{W:Int}{GR:Bool->Int->List Pc->Frt->Frt}{k:Nat}(hG:∀r,depR r<k->okR r->rB W GR r){b:Bool}{m:Int}(h0:0<=m):∀{r:List Pc} {R:List Int->Str->Prop} {F:Frt},depR r<=k->okR r->m+12*depR r<=200->Good W R F->Good W (Aft R (setR b m r)) (r.foldl (fun F p=>frP W GR b m F p) F)
 |[],R,F,_,_,_,hF=>hF.mono fun c t h=>⟨c,t,[],h,by simp,by rw [setR]⟩
 |p::r,R,F,hk,ho,h1,hF=>by
  rw [depR] at hk h1
  have hp:=yO hG (b:=b) (show dJ p<=k by omega) ho.1 h0 (by omega) hF
  refine(ya1 hG h0 (r:=r) (by omega) ho.2 (by omega) hp).mono fun c t=> ?_
  rintro⟨c0,t0,c2,⟨d0,s0,c1,r1,rfl,e1⟩,rfl,e2⟩
  refine⟨d0,s0,c1++c2,r1,by simp,?_⟩
  rw [setR,vQ c2 e1]
  exact e2
theorem yP{W:Int}:∀(n:Nat) (r:List Pc),depR r<n->okR r->rB W (frN W n) r
 |0,_,h,_=>absurd h (Yq _)
 |n+1,r,h,ho=>fun b m R F h0 h1 hF=>by
  rw [frN]
  exact ya1 (fun q h1 h2=>yP n q h1 h2) h0 (by omega) ho h1 hF
theorem yy6{W:Int}{n:Nat}{r:List Pc}(hW:0<=W)(hd:depR r<n)(ho:okR r)(h1:12*(depR r:Int)<=200):Good W (fun cs t=>setR true 0 r cs ⟨#[]⟩=some ([],t)) (frN W n true 0 r [(0,((1,0),[]))]):=by
 have g0:Good W (fun cs t=>cs=[]/\t=⟨#[]⟩) [(0,((1,0),[]))]:=⟨by simp,fun p hp=>by
  rw [Zg.mp hp];exact⟨_,⟨rfl,rfl⟩,zk5 hW⟩⟩
 refine(yP n r hd ho true 0 _ _ (Yf _) (by omega) g0).mono fun c t=> ?_
 rintro⟨c0,t0,c1,⟨rfl,rfl⟩,rfl,e⟩
 exact e
abbrev nsF:List Str:=["steps","best"]
def cG(W:Int):D:= .obj false "WithinWidth" ["width"] [.int W]
def wyD(x:Way):D:= .tup [.tup [.int x.1.1,.int x.1.2],.tup (aY x.2)]
def fN(F:Frt):List Key:=F.map fun p=> .inl (p.1:Int)
def gI(F:Frt):List D:=F.map fun p=>wyD p.2
def aO(o:Bool)(W:Int)(F:Frt):D:= .obj o "Front" nsF [cG W,.dic o (fN F) (gI F)]
theorem uY(x:Way):(wyD x).imm=true:=by
 have:=kM x.2
 simp! [lL,lO,D.key,tR,rK,tN,wyD,this]
theorem uZ:∀F:Frt,D.imms (gI F)=true
 |[]=>rfl
 |p::F=>by
  show(D.imm (wyD p.2)&&D.imms (gI F))=true
  rw [uY,uZ F];rfl
theorem zc8(W:Int)(F:Frt):(aO false W F).imm=true:=by
 have:=uZ F
 simp! [lL,lO,D.key,tR,rK,tN,aO,cG,this]
theorem xt5(F:Frt):(fN F).length=F.length:=Zd _
theorem yQ:∀(F:Frt) (k:Nat),pT (fN F) (gI F) (.inl (k:Int))=(nW F k).map wyD
 |[],_=>rfl
 |p::F,k=>by
  show pT (.inl (p.1:Int)::fN F) (wyD p.2::gI F) _=_
  rw [pT,nW]
  by_cases e:p.1=k
  ·rw [if_pos e,if_pos (by rw [e])];rfl
  ·rw [if_neg e,if_neg (fun z=>e (by have:=Wf z;omega)),yQ F k]
theorem zo4:∀(F:Frt) (k:Nat) (x:Way),zG (fN F) (gI F) (.inl (k:Int)) (wyD x)=gI (mZ F k x)
 |[],_,_=>rfl
 |p::F,k,x=>by
  show zG (.inl (p.1:Int)::fN F) (wyD p.2::gI F) _ _=_
  rw [zG,zo4 F,mZ]
  by_cases e:p.1=k
  ·rw [if_pos e,if_pos (by rw [e])];rfl
  ·rw [if_neg e,if_neg (fun z=>e (by have:=Wf z;omega))];rfl
theorem xk0(F:Frt)(k:Nat)(x:Way):fN (mZ F k x)=fN F:=by
 unfold fN
 have:=ZV (List.map fun(k:Nat)=>(Sum.inl (k:Int):Key)) (vR F k x)
 rw [Yv,Yv] at this
 exact this
theorem we1(x y:Way):ym6 (wyD x) (wyD y)=some (.bl (ltW x y)):=by
 unfold wyD ym6 ltW
 simp! [lL,lO,D.key,tR,rK,tN,D.intss,D.ints,zo2]
abbrev nA:tz7:=gE 2 0 (bI [true,false]) tD
theorem wk7(W:Int):nA [.obj true "Front" [] [],cG W]=some (.non,[aO true W [],cG W]):=by
 have e:aO true W []= .obj true "Front" nsF [cG W,.dic true [] []]:=rfl
 have h:(cG W).imm=true:=rfl
 rw [e]
 generalize cG W=w at h|-
 simp! [lL,lO,D.key,tR,rK,tN,tD,h]
theorem yR{p:PSt}{f:tz2}{W:Int}(h:f p=some (cG W)):fA "Front" (cJ [.im f]) nA p=some (aO true W []):=by
 have hi:(cG W).imm=true:=rfl
 have i:=wk7 W
 generalize nA=G at i|-
 generalize aO true W []=X at i|-
 generalize cG W=w at h hi i|-
 unfold fA
 rw [dU h hi gM,Z4,i]
 rfl
abbrev oO:tz7:=gE 3 0 (bI [true,false,false]) mX
theorem wk8{W:Int}{F:Frt}{k:Nat}{x:Way}(hl:F.length<=900):oO [aO true W F,.int (k:Int),wyD x]=some (.non,[aO true W (iF F k x),.int (k:Int),wyD x]):=by
 have g:=yQ F k
 have hx:=uY x
 have hv:=uZ F
 have hz:(fN F).length<sizeLine:=by rw [xt5];exact sz1 (by omega)
 unfold iF
 cases e:nW F k with
 | none=>
  rw [e] at g
  have e1:aO true W (F++[(k,x)])= .obj true "Front" nsF [cG W,.dic true (fN F++[.inl (k:Int)]) (gI F++[wyD x])]:=by
   unfold aO fN gI
   rw [Y7,Y7];rfl
  simp only
  rw [e1]
  unfold aO
  generalize fN F=ks at*
  generalize gI F=vs at*
  generalize wyD x=X at*
  generalize cG W=w at*
  simp only [Option.map_none] at g
  simp! [lL,lO,D.key,tR,rK,tN,mX,g,hx,hv,hz]
 | some y=>
  rw [e] at g
  have l:=we1 x y
  have pv:=zo4 F k x
  have ks:=xk0 F k x
  simp only [Option.map_some] at g
  by_cases c:ltW x y=true
  ·rw [c] at l
   simp only [c,Y2]
   have e1:aO true W (mZ F k x)= .obj true "Front" nsF [cG W,.dic true (fN F) (gI (mZ F k x))]:=by unfold aO;rw [ks]
   rw [e1,<-pv]
   unfold aO
   generalize fN F=ks at*
   generalize gI F=vs at*
   generalize wyD x=X at*
   generalize wyD y=Y at*
   generalize cG W=w at*
   simp! [lL,lO,D.key,tR,rK,tN,mX,g,hx,hv,hz,l]
  ·rw [Xy] at c
   rw [c] at l
   simp only [c,ZQ,Ym]
   unfold aO
   generalize fN F=ks at*
   generalize gI F=vs at*
   generalize wyD x=X at*
   generalize wyD y=Y at*
   generalize cG W=w at*
   simp! [lL,lO,D.key,tR,rK,tN,mX,g,hx,hv,hz,l]
theorem xk1{g:tz7}{m:Str}{W:Int}{F:Frt}{ys:List D}{N v:D}(hm:cW nsF m=none)(h:g (aO true W F::ys)=some (v,N::ys)):eD "Front" m g ys (aO true W F)=some (v,N):=by
 show(if (("Front":Str)="Front"/\cW nsF m=none) then(g (aO true W F::ys)).bind _ else none)=_
 rw [if_pos ⟨rfl,hm⟩,h]
 show(if ys.length=ys.length then some (v,N) else none)=_
 rw [if_pos rfl]
theorem yj9:∀(F:Frt) (k:Nat) (x:Way),(mZ F k x).length=F.length
 |[],_,_=>rfl
 |p::F,k,x=>by rw [mZ,Z6,Z6,yj9 F]
theorem yS(F:Frt)(k:Nat)(x:Way):(iF F k x).length<=F.length+1:=by
 unfold iF
 cases nW F k with
 |none=>simp
 |some y=>
  simp only
  split
  ·rw [yj9];omega
  ·omega
theorem zo5:∀(G F:Frt),(kJ F G).length<=F.length+G.length
 |[],F=>Z7 _
 |p::G,F=>by
  have h1:=zo5 G (iF F p.1 p.2)
  have h2:=yS F p.1 p.2
  show(kJ (iF F p.1 p.2) G).length<=_
  rw [Z6];omega
theorem yT:∀{F:Frt} {p:Nat×Way},(F.map (·.1)).Nodup->p∈F->nW F p.1=some p.2
 |[],_,_,h=>by cases h
 | q::F,p,nd,h=>by
  rw [Zb,Zu] at nd
  rw [nW]
  rcases Z5.mp h with e|e
  ·rw [e,if_pos rfl]
  ·rw [if_neg (fun z=>nd.1 (by rw [z];exact YE e))]
   exact yT nd.2 e
theorem zk7{p:PSt}{f:tz2}{o:Bool}{W:Int}{F:Frt}(h:f p=some (aO o W F)):cQ "Front" "best" f p=some (.dic o (fN F) (gI F)):=by
 unfold cQ
 rw [h,Z4]
 unfold aO
 generalize cG W=w
 simp [ym5,cW,gD]
theorem vS{p:PSt}{f:tz2}{o:Bool}{W:Int}{F:Frt}(h:f p=some (aO o W F)):cQ "Front" "steps" f p=some (cG W):=by
 unfold cQ
 rw [h,Z4]
 unfold aO
 generalize cG W=w
 simp [ym5,cW,gD]
def zq9(F:Frt):List D:=F.map fun q=> .int (q.1:Int)
theorem xk2(F:Frt):(fN F).map xa6=zq9 F:=by
 unfold fN zq9
 rw [Yv];rfl
theorem we2(F:Frt):(D.dic false (fN F) (gI F)).imm=true:=by
 have:=uZ F
 simp [D.imm,this]
theorem zu8{p:PSt}{f:tz2}{W:Int}{F:Frt}(h:f p=some (aO false W F)):xQ (bB (cQ "Front" "best" f)) p=some (zq9 F):=by
 unfold xQ
 rw [cB (zk7 h) (we2 F),Z4,<-xk2];rfl
theorem yk0{p:PSt}{f g:tz2}{W:Int}{F:Frt}{k:Nat}{x:Way}(h:f p=some (aO false W F))(hg:g p=some (.int (k:Int)))(hx:nW F k=some x):f2 lO (cQ "Front" "best" f) g p=some (wyD x):=by
 refine aR (zk7 h) hg ?_
 show(some (Sum.inl (k:Int):Key)).bind _=_
 rw [Z4,yQ,hx];rfl
theorem zu9{j:Nat}{g:tz3}{h:List D->D->Option (D×D)}{p:PSt}{d0 d0' r:D}{ys:List D}(h0:p[j]? =some (some d0))(hg:g p=some ys)(hh:h ys d0=some (r,d0')):dA j bK g h p=some (r,p.set j (some d0')):=by
 unfold dA bK
 rw [h0]
 simp only [YA,Z4,hg,fO,hh]
theorem zg7{j:Nat}{p:PSt}{f g:tz2}{W:Int}{F:Frt}{k:Nat}{x:Way}(h0:p[j]? =some (some (aO true W F)))(hf:f p=some (.int (k:Int)))(hg:g p=some (wyD x))(hl:F.length<=900):
  cE (dA j bK (cJ [.im f,.im g]) (eD "Front" "add" oO)) p=some (.nx,p.set j (some (aO true W (iF F k x)))):=
 kW (zu9 h0 (dU hf rfl (dU hg (uY x) gM)) (xk1 (by simp [cW,gD]) (wk8 hl)))
theorem zg8{i N:Nat}{f:tz1}(S:Nat->Frt->PSt->Prop)(st:Frt->Nat×Way->Frt):∀{L:Frt} {p:PSt} {n:Nat} {A:Frt},n+L.length<=N->S n A p->(∀n A p q,n<N->q∈L->S n A p->∃p',f (p.set i (some (.int (q.1:Int))))=some (.nx,p')/\S (n+1) (st A q) p')->∃p',cO i f (zq9 L) p=some (.nx,p')/\S (n+L.length) (L.foldl st A) p'
 |[],p,n,A,_,h,_=>⟨p,rfl,h⟩
 |q::L,p,n,A,hn,h,hs=>by
  rw [Z6] at hn
  obtain⟨p1,e1,h1⟩:=hs n A p q (by omega) Z0 h
  obtain⟨p2,e2,h2⟩:=zg8 S st (L:=L) (n:=n+1) (by omega) h1 fun n A p r h1 hr=>hs n A p r h1 (Z1 _ hr)
  refine⟨p2,?_,by rw [Z6,show n+(L.length+1)=n+1+L.length by omega];exact h2⟩
  show cO i f (.int (q.1:Int)::zq9 L) p=_
  rw [cO,e1]
  exact e2
theorem uG{i:Nat}{fi:tz3}{f:tz1}{p p':PSt}{ds:List D}(h:fi p=some ds)(e:cO i f ds p=some (.nx,p')):eP i fi f p=some (.nx,p'):=by
 unfold eP
 rw [h];exact e
abbrev xb0:tz7:=gE 2 1 (bI [true,false]) (lA oO)
theorem wk9{W:Int}{F G:Frt}(nd:(G.map (·.1)).Nodup)(hl:F.length+G.length<=800):xb0 [aO true W F,aO false W G]=some (.non,[aO true W (kJ F G),aO false W G]):=by
 obtain⟨p',e,_,z,rfl⟩:=zg8 (i:=2) (N:=G.length) (f:=cE (dA 0 bK (cJ [.im (aB 2),.im (f2 lO (cQ "Front" "best" (aB 1)) (aB 2))]) (eD "Front" "add" oO)))
  (fun n A p=>A.length<=F.length+n/\∃z,p=[some (aO true W A),some (aO false W G),z]) (fun A q=>iF A q.1 q.2) (L:=G) (p:=[some (aO true W F),some (aO false W G),none]) (n:=0) (A:=F) (by omega) ⟨Z7 _,none,rfl⟩
  (by
   rintro n A p q hn hq ⟨hA,z,rfl⟩
   refine⟨_,zg7 (j:=0) (F:=A) (W:=W) (k:=q.1) (x:=q.2) rfl rfl (yk0 (F:=G) (W:=W) rfl rfl (yT nd hq)) (by omega),?_,_,rfl⟩
   have:=yS A q.1 q.2
   omega)
 have e2:=uG (i:=2) (zu8 (f:=aB 1) (W:=W) (F:=G) (p:=[some (aO true W F),some (aO false W G),none]) rfl) e
 show gE 2 1 _ (lA oO) _=_
 have e3:lA oO ([aO true W F,aO false W G].map some++List.replicate 1 none)=some (.nx,[some (aO true W (kJ F G)),some (aO false W G),z]):=e2
 unfold gE
 rw [if_pos (show [aO true W F,aO false W G].length=2 from rfl),e3]
 rfl
theorem jM{np n:Nat}{f:tz1}{ds:List D}{d:D}(hl:ds.length=np)(h:∃q,f (ds.map some++List.replicate n none)=some (.ret d,q)):gP np n f ds=some d:=h.elim fun _ e=>fS hl e
theorem zo6{f g:tz1}{p:PSt}{d:D}(h:∃q,f p=some (.ret d,q)):∃q,aT f g p=some (.ret d,q):=h.elim fun q e=>⟨q,dR e⟩
theorem yy7(F:Frt)(n:Int):lC F n=F.foldl (fun A q=>iF A q.1 (q.2.1,q.2.2++[n])) []:=by
 unfold lC kJ
 rw [List.foldl_map];rfl
theorem ys4{p:PSt}{i:Nat}{x:Way}(h:p[i]? =some (some (wyD x))):f2 dIx (aB i) (fC (.int 0)) p=some (.tup [.int x.1.1,.int x.1.2]):=aR (oZ h) rfl (mG _ _)
theorem ys5{p:PSt}{i:Nat}{x:Way}(h:p[i]? =some (some (wyD x))):f2 dIx (aB i) (fC (.int 1)) p=some (.tup (aY x.2)):=aR (oZ h) rfl (iD _ _ _)
theorem zk8{p:PSt}{f g:tz2}{x:Way}(h1:f p=some (.tup [.int x.1.1,.int x.1.2]))(h2:g p=some (.tup (aY x.2))):bG (aA f (aA g aE)) p=some (wyD x):=
 dM (aD h1 (aD h2 rfl)) (uY x) (by simp)
theorem xt6{p:PSt}{i j:Nat}{x:Way}{n:Int}(h:p[i]? =some (some (wyD x)))(hn:p[j]? =some (some (.int n)))(hl:x.2.length<=900):bG (aA (bB (f2 dIx (aB i) (fC (.int 0)))) (aA (f2 cD (f2 dIx (aB i) (fC (.int 1))) (bG (aA (bB (aB j)) aE))) aE)) p=some (wyD (x.1,x.2++[n])):=by
 refine zk8 (x:=(x.1,x.2++[n])) (cB (ys4 (x:=x) h) rfl) (aR (ys5 (x:=x) h) (dM (aD (cB (oZ hn) rfl) rfl) rfl (by simp)) ?_)
 show(if (aY x.2).length+[D.int n].length<=sizeLine then some (D.tup (aY x.2++[.int n])) else none)=_
 rw [if_pos (by rw [sE];exact sz (by show x.2.length+1<=1000;omega)),zc5];rfl
abbrev zr0:tz6:=gP 2 3 (vD nA oO)
theorem xt7{W:Int}{F:Frt}{n:Int}(nd:(F.map (·.1)).Nodup)(hl:F.length<=800)(hc:∀q∈F,q.2.2.length<=900):zr0 [aO false W F,.int n]=some (aO true W (lC F n)):=by
 have s1:aU 2 (aI (fA "Front" (cJ [.im (cQ "Front" "steps" (aB 0))]) nA)) [some (aO false W F),some (.int n),none,none,none]=some (.nx,[some (aO false W F),some (.int n),some (aO true W []),none,none]):=bD (yR (vS (f:=aB 0) (F:=F) rfl))
 obtain⟨p',e,_,y,z,rfl⟩:=zg8 (i:=3) (N:=F.length) (f:=aT (aU 4 (aI (bB (f2 lO (cQ "Front" "best" (aB 0)) (aB 3))))) (cE (dA 2 bK (cJ [.im (aB 3),.im (bG (aA (bB (f2 dIx (aB 4) (fC (.int 0)))) (aA (f2 cD (f2 dIx (aB 4) (fC (.int 1))) (bG (aA (bB (aB 1)) aE))) aE)))]) (eD "Front" "add" oO))))
  (fun k A p=>A.length<=k/\∃y z,p=[some (aO false W F),some (.int n),some (aO true W A),y,z]) (fun A q=>iF A q.1 (q.2.1,q.2.2++[n])) (L:=F) (p:=[some (aO false W F),some (.int n),some (aO true W []),none,none]) (n:=0) (A:=[]) (by omega) ⟨Z7 _,none,none,rfl⟩
  (by
   rintro k A p q hk hq ⟨hA,y,z,rfl⟩
   refine⟨_,(aN (bD (cB (yk0 (F:=F) (W:=W) (k:=q.1) rfl rfl (yT nd hq)) (uY q.2)))).trans (zg7 (j:=2) (F:=A) (W:=W) (k:=q.1) (x:=(q.2.1,q.2.2++[n])) rfl rfl (xt6 rfl rfl (hc q hq)) (by omega)),?_,_,_,rfl⟩
   have:=yS A q.1 (q.2.1,q.2.2++[n])
   omega)
 refine jM rfl (dE s1 (dE (uG (i:=3) (zu8 (f:=aB 0) (W:=W) (F:=F) rfl) e) ?_))
 rw [yy7]
 exact⟨_,rfl⟩
theorem wl0{i j:Int}(h1: -100000<=i)(h2:i<=100000):L2.pO i j=true:=by
 unfold L2.pO
 rw [Zk (show-(2^64)<i by omega),Zk (show i<2^64 by omega)];rfl
abbrev xw8:tz6:=gP 2 0 pC
theorem ya2{p:PSt}{f:tz2}{W:Int}(h:f p=some (cG W)):cQ "WithinWidth" "width" f p=some (.int W):=by
 unfold cQ
 rw [h,Z4]
 simp [cG,ym5,cW]
theorem wl1{W:Int}{k:Nat}(hW0:0<=W)(hW:W<=40)(hk:k<=1000):xw8 [cG W,.int (k:Int)]=some (.int ((W-k)*(W-k))):=by
 have e:f2 jH (cQ "WithinWidth" "width" (aB 0)) (aB 1) [some (cG W),some (.int (k:Int))]=some (.int (W-k)):=aR (ya2 rfl) rfl rfl
 exact fS (p:=[some (cG W),some (.int (k:Int))]) rfl (cI (aR e e (if_pos (wl0 (by omega) (by omega)))))
theorem xt8(k:Nat)(w:Str)(hz:w.length<=1000):rA [.int (k:Int),.str w]=some (.int ((if lfB w=true then w.length-1 else k+w.length:Nat):Int)):=by
 have q:=zu3 w
 have hs:w.length<=sizeLine:=sz hz
 show gP 2 0 (eG tU) _=_
 unfold lfB
 generalize tU=G at q|-
 by_cases c:w.cps.toList[0]? =some 10
 ·rw [Zk c] at q|-
  have h1:1<=w.length:=by
   rw [mI]
   have:=(Z8.mp c).1
   omega
  rw [if_pos rfl,show((w.length-1:Nat):Int)=(w.length:Int)-1 by omega]
  simp! [eG,q,hs]
 ·rw [Za c] at q|-
  rw [if_neg Z9]
  simp! [eG,q,hs]
def ye4:Option (Nat×(Int×Int))->D
 |none=> .non
 |some s=> .tup [.int (s.1:Int),.tup [.int s.2.1,.int s.2.2]]
abbrev ye5:tz6:=gP 5 2 (kN qZ rA tU xw8)
theorem we3{W:Int}{b:Bool}{m:Int}{l:Leaf}{k:Nat}{c:Int×Int}(hW0:0<=W)(hW1:W<=40)(hl:eV l)(h0:0<=m)(h1:m<=200)(hk:k<=1000):ye5 [cG W,.int (k:Int),.tup [.int c.1,.int c.2],bF l,aP b m]=some (ye4 (jQ W b m l k c)):=by
 have q1:=zo1 l b m k hl h0 h1 (by omega)
 have s1:∀P5 P6,aU 5 (aI (aG qZ (aA (aB 3) (aA (aB 4) (aA (aB 1) aE))))) [some (cG W),some (.int (k:Int)),some (.tup [.int c.1,.int c.2]),some (bF l),some (aP b m),P5,P6]=some (.nx,[some (cG W),some (.int (k:Int)),some (.tup [.int c.1,.int c.2]),some (bF l),some (aP b m),some (wrD (wr b m k l)),P6]):=fun _ _=>bD (aS (aD rfl (aD rfl (aD rfl rfl))) q1)
 unfold jQ
 cases e:wr b m k l with
 |none=>
  rw [e] at s1
  exact jM rfl (dE (s1 none none) (zo6 ⟨_,(bM (dI (aR rfl rfl rfl))).trans (cI rfl)⟩))
 | some w=>
  rw [e] at s1
  obtain⟨_,hz⟩:=zo0 hl h0 h1 e
  have q2:=xt8 k w (by omega)
  have q3:=zu3 w
  have q4:=wl1 hW0 hW1 hk
  rw [Z4]
  generalize hK:(if lfB w=true then w.length-1 else k+w.length:Nat)=K at q2|-
  have s2:∀P6,fIf (aV (fB (f2 dIs (aB 5) (fC .non)))) (bX (aI (fC .non))) bH [some (cG W),some (.int (k:Int)),some (.tup [.int c.1,.int c.2]),some (bF l),some (aP b m),some (.str w),P6]=some (.nx,[some (cG W),some (.int (k:Int)),some (.tup [.int c.1,.int c.2]),some (bF l),some (aP b m),some (.str w),P6]):=fun _=>bE (dI (aR rfl rfl rfl))
  have s3:aU 6 (aI (aG rA (aA (aB 1) (aA (aB 5) aE)))) [some (cG W),some (.int (k:Int)),some (.tup [.int c.1,.int c.2]),some (bF l),some (aP b m),some (.str w),none]=some (.nx,[some (cG W),some (.int (k:Int)),some (.tup [.int c.1,.int c.2]),some (bF l),some (aP b m),some (.str w),some (.int (K:Int))]):=bD (aS (aD rfl (aD rfl rfl)) q2)
  refine jM rfl (dE (s1 none none) (dE (s2 none) (dE s3 ?_)))
  ·have c1:fB (f2 dGt (aB 6) (cQ "WithinWidth" "width" (aB 0))) [some (cG W),some (.int (k:Int)),some (.tup [.int c.1,.int c.2]),some (bF l),some (aP b m),some (.str w),some (.int (K:Int))]=some (decide (W<(K:Int))):=dI (aR rfl (ya2 rfl) rfl)
   by_cases hW:W<(K:Int)
   ·rw [if_pos hW]
    rw [Zk hW] at c1
    exact zo6 ⟨_,(bM c1).trans (cI rfl)⟩
   ·rw [if_neg hW]
    rw [Za hW] at c1
    refine dE (bE c1) ?_
    have c2:fT (aG tU (aA (aB 5) aE)) [some (cG W),some (.int (k:Int)),some (.tup [.int c.1,.int c.2]),some (bF l),some (aP b m),some (.str w),some (.int (K:Int))]=some (lfB w):=vP (aS (aD rfl rfl) q3)
    have x0:f2 dIx (aB 2) (fC (.int 0)) [some (cG W),some (.int (k:Int)),some (.tup [.int c.1,.int c.2]),some (bF l),some (aP b m),some (.str w),some (.int (K:Int))]=some (.int c.1):=aR rfl rfl (mG _ _)
    have x1:f2 dIx (aB 2) (fC (.int 1)) [some (cG W),some (.int (k:Int)),some (.tup [.int c.1,.int c.2]),some (bF l),some (aP b m),some (.str w),some (.int (K:Int))]=some (.int c.2):=aR rfl rfl (iD _ _ _)
    cases lf:lfB w with
    | true=>
     rw [lf] at c2
     have x2:sI "WithinWidth" "rag_of" (aB 0) [some (cG W),some (.int (k:Int)),some (.tup [.int c.1,.int c.2]),some (bF l),some (aP b m),some (.str w),some (.int (K:Int))]=some (cG W):=by
      show zh3 "WithinWidth" "rag_of" (cG W)=_
      unfold zh3 cG
      exact if_pos ⟨rfl,by simp [cW,gD]⟩
     have x3:=aS (h:=xw8) (aD x2 (aD (f:=aB 1) (g:=aE) (d:= .int (k:Int)) rfl rfl)) q4
     refine zo6 ⟨_,(bM c2).trans (cI (dM (aD (cB rfl rfl) (aD (dM (aD (aR x0 rfl rfl) (aD (aR x1 x3 rfl) rfl)) rfl (by simp)) rfl)) rfl (by simp)))⟩
    |false=>
     rw [lf] at c2
     exact dE (bE c2) ⟨_,cI (dM (aD (cB rfl rfl) (aD (cB rfl rfl) rfl)) rfl (by simp))⟩
abbrev zh8:tz6:=gP 3 4 (tH nA ye5 oO)
theorem xk3{W:Int}{F:Frt}{b:Bool}{m:Int}{l:Leaf}(hW0:0<=W)(hW1:W<=40)(hl:eV l)(h0:0<=m)(h1:m<=200)(nd:(F.map (·.1)).Nodup)(hF:F.length<=800)(hk:∀q∈F,q.1<=1000):
  zh8 [aO false W F,bF l,aP b m]=some (aO true W (kK W b m l F [])):=by
 have s1:aU 3 (aI (fA "Front" (cJ [.im (cQ "Front" "steps" (aB 0))]) nA)) [some (aO false W F),some (bF l),some (aP b m),none,none,none,none]=some (.nx,[some (aO false W F),some (bF l),some (aP b m),some (aO true W []),none,none,none]):=bD (yR (vS (f:=aB 0) (F:=F) rfl))
 obtain⟨p',e,_,x,y,z,rfl⟩:=zg8 (i:=4) (N:=F.length) (f:=aT (aU 5 (aI (bB (f2 lO (cQ "Front" "best" (aB 0)) (aB 4)))))
  (aT (aU 6 (aI (aG ye5 (aA (sI "WithinWidth" "state_behind" (cQ "Front" "steps" (aB 0))) (aA (aB 4) (aA (f2 dIx (aB 5) (fC (.int 0))) (aA (aB 1) (aA (aB 2) aE))))))))
  (fIf (aV (fB (f2 nZ (aB 6) (fC .non)))) (cE (dA 3 bK (cJ [.im (f2 dIx (aB 6) (fC (.int 0))),.im (bG (aA (bB (f2 dIx (aB 6) (fC (.int 1)))) (aA (bB (f2 dIx (aB 5) (fC (.int 1)))) aE)))]) (eD "Front" "add" oO))) bH)))
  (fun k A p=>A.length<=k/\∃x y z,p=[some (aO false W F),some (bF l),some (aP b m),some (aO true W A),x,y,z]) (fun G p=>match jQ W b m l p.1 p.2.1 with
   |none=>G
   |some s=>iF G s.1 (s.2,p.2.2)) (L:=F) (p:=[some (aO false W F),some (bF l),some (aP b m),some (aO true W []),none,none,none]) (n:=0) (A:=[]) (by omega) ⟨Z7 _,none,none,none,rfl⟩
  (by
   rintro k A p q hn hq ⟨hA,x,y,z,rfl⟩
   have t1:aU 5 (aI (bB (f2 lO (cQ "Front" "best" (aB 0)) (aB 4)))) [some (aO false W F),some (bF l),some (aP b m),some (aO true W A),some (.int (q.1:Int)),y,z]=some (.nx,[some (aO false W F),some (bF l),some (aP b m),some (aO true W A),some (.int (q.1:Int)),some (wyD q.2),z]):=bD (cB (yk0 (F:=F) (W:=W) (k:=q.1) rfl rfl (yT nd hq)) (uY q.2))
   have r1:sI "WithinWidth" "state_behind" (cQ "Front" "steps" (aB 0)) [some (aO false W F),some (bF l),some (aP b m),some (aO true W A),some (.int (q.1:Int)),some (wyD q.2),z]=some (cG W):=by
    unfold sI
    rw [vS (f:=aB 0) (o:=false) (W:=W) (F:=F) rfl,Z4]
    unfold zh3 cG
    exact if_pos ⟨rfl,by simp [cW,gD]⟩
   have t2:aU 6 (aI (aG ye5 (aA (sI "WithinWidth" "state_behind" (cQ "Front" "steps" (aB 0))) (aA (aB 4) (aA (f2 dIx (aB 5) (fC (.int 0))) (aA (aB 1) (aA (aB 2) aE))))))) [some (aO false W F),some (bF l),some (aP b m),some (aO true W A),some (.int (q.1:Int)),some (wyD q.2),z]=some (.nx,[some (aO false W F),some (bF l),some (aP b m),some (aO true W A),some (.int (q.1:Int)),some (wyD q.2),some (ye4 (jQ W b m l q.1 q.2.1))]):=
    bD (aS (aD r1 (aD rfl (aD (ys4 rfl) (aD rfl (aD rfl rfl))))) (we3 hW0 hW1 hl h0 h1 (hk q hq)))
   cases es:jQ W b m l q.1 q.2.1 with
   |none=>
    rw [es] at t2
    exact⟨_,(aN t1).trans ((aN t2).trans (bE (dI (aR rfl rfl rfl)))),Wx hA,_,_,_,rfl⟩
   |some s=>
    rw [es] at t2
    have w0:f2 dIx (aB 6) (fC (.int 0)) [some (aO false W F),some (bF l),some (aP b m),some (aO true W A),some (.int (q.1:Int)),some (wyD q.2),some (ye4 (some s))]=some (.int (s.1:Int)):=aR rfl rfl (mG _ _)
    have w1:f2 dIx (aB 6) (fC (.int 1)) [some (aO false W F),some (bF l),some (aP b m),some (aO true W A),some (.int (q.1:Int)),some (wyD q.2),some (ye4 (some s))]=some (.tup [.int s.2.1,.int s.2.2]):=aR rfl rfl (iD _ _ _)
    refine⟨_,(aN t1).trans ((aN t2).trans ((bM (dI (aR rfl rfl rfl))).trans (zg7 (j:=3) (F:=A) (W:=W) (k:=s.1) (x:=(s.2,q.2.2)) rfl w0 (zk8 (x:=(s.2,q.2.2)) (cB w1 rfl) (cB (ys5 (x:=q.2) rfl) (kM q.2.2))) (by omega)))),?_,_,_,_,rfl⟩
    have:=yS A s.1 (s.2,q.2.2)
    show(iF A s.1 (s.2,q.2.2)).length<=_
    omega)
 exact jM rfl (dE s1 (dE (uG (i:=4) (zu8 (f:=aB 0) (W:=W) (F:=F) rfl) e) ⟨_,rfl⟩))
mutual
theorem yk1:∀{p:Pc} {b:Bool} {m:Int} {cs cs':List Int} {t t':Str},cL b m p cs t=some (cs',t')->cs.length<=cs'.length+(cU p).length
 | .leaf l,b,m,cs,cs',t,t',h=>by
  rw [cL] at h
  cases e:wr b m (col t) l with
  |none=>rw [e] at h;cases h
  |some w=>rw [e] at h;cases h;omega
 | .group r,b,m,cs,cs',t,t',h=>by
  rw [cL.eq_def] at h
  simp only at h
  have hl:(cU (.group r)).length=(toksR r).length+2:=by simp [cU]
  cases b with
  |false=>
   simp only [ZQ,Ym] at h
   have:=setR_len h
   omega
  | true=>
   cases cs with
   |nil=>simp at h
   | cons c cs=>
    simp only [Y2] at h
    rw [Z6]
    by_cases c0:c=0
    ·simp only [c0,Y2] at h;have:=setR_len h;omega
    ·by_cases c1:c=1
     ·simp only [c1,Y2] at h;have:=setR_len h;omega
     ·simp [c0,c1] at h
 | .hang n r,b,m,cs,cs',t,t',h=>by
  rw [cL] at h
  have hl:(cU (.hang n r)).length=(toksR r).length+2:=by simp [cU]
  have:=setR_len h
  omega
 | .either rs,b,m,cs,cs',t,t',h=>by
  rw [cL.eq_def] at h
  have hl:(cU (.either rs)).length=(toksRows rs).length+2:=by simp [cU]
  cases cs with
  |nil=>cases h
  |cons c cs=>
   simp only at h
   rw [Z6]
   by_cases c0:0<=c
   ·simp only [c0,Y2] at h;have:=setAt_len h;omega
   ·simp [c0] at h
theorem setR_len:∀{r:List Pc} {b:Bool} {m:Int} {cs cs':List Int} {t t':Str},setR b m r cs t=some (cs',t')->cs.length<=cs'.length+(toksR r).length
 |[],b,m,cs,cs',t,t',h=>by rw [setR] at h;cases h;omega
 | p::r,b,m,cs,cs',t,t',h=>by
  rw [setR] at h
  cases e:cL b m p cs t with
  |none=>rw [e] at h;cases h
  |some s=>
   obtain⟨c1,t1⟩:=s
   rw [e] at h
   have h1:=yk1 e
   have h2:=setR_len (cs:=c1) (t:=t1) h
   rw [toksR,Z2]
   omega
theorem setAt_len:∀{rs:List (List Pc)} {i:Nat} {b:Bool} {m:Int} {cs cs':List Int} {t t':Str},setAt b m rs i cs t=some (cs',t')->cs.length<=cs'.length+(toksRows rs).length
 |[],i,b,m,cs,cs',t,t',h=>by rw [setAt] at h;cases h
 |r::rs,0,b,m,cs,cs',t,t',h=>by
  rw [setAt] at h
  have:=setR_len h
  rw [toksRows,Z2]
  omega
 | r::rs,i+1,b,m,cs,cs',t,t',h=>by
  rw [setAt] at h
  have h1:=setAt_len h
  rw [toksRows,Z2]
  cases rs with
  |nil=>rw [setAt] at h;cases h
  |cons q qs=>
   rw [toksRows,Z2] at h1
   rw [toksMore,Z6,Z2]
   omega
end
def Few(N:Nat)(R:List Int->Str->Prop):Prop:=∀c t,R c t->c.length<=N
theorem xt9{N:Nat}{R:List Int->Str->Prop}{b:Bool}{m:Int}{p:Pc}(h:Few N R):Few (N+(cU p).length) (Aft R (cL b m p)):=by
 rintro c t ⟨c0,t0,c1,r,rfl,e⟩
 have h1:=h c0 t0 r
 have h2:=yk1 e
 rw [ZX] at h2
 rw [Z2];omega
theorem xk4{N:Nat}{R:List Int->Str->Prop}{n:Int}(h:Few N R):Few (N+1) (ye3 R n):=by
 rintro c t ⟨c0,r,rfl⟩
 have:=h c0 t r
 rw [Z2]
 show c0.length+1<=_
 omega
theorem yk2:∀{n:Nat} {l:List Nat},l.Nodup->(∀x∈l,x<n)->l.length<=n
 |0,l,_,h=>by
  cases l with
  |nil=>exact Z7 _
  |cons a l=>exact absurd (h a Z0) (Yq _)
 | n+1,l,nd,h=>by
  have h2:=yk2 (n:=n) (nd.erase n) fun x hx=>by
   have h3:=h x (List.mem_of_mem_erase hx)
   have h4:x≠n:=fun z=>by
    rw [z] at hx
    exact absurd hx nd.not_mem_erase
   omega
  by_cases hm:n∈l
  ·rw [List.length_erase_of_mem hm] at h2;omega
  ·rw [List.erase_of_not_mem hm] at h2;omega
theorem Good.key{W:Int}{R:List Int->Str->Prop}{F:Frt}(h:Good W R F)(hW:W<=40){q:Nat×Way}(hq:q∈F):q.1<=40:=by
 obtain⟨t,_,xs,y,_,h2,h3,_⟩:=h.hit q hq
 have:=h2 y (by simp)
 omega
theorem Good.len{W:Int}{R:List Int->Str->Prop}{F:Frt}(h:Good W R F)(hW:W<=40):F.length<=41:=by
 have:=yk2 (n:=41) h.nd fun x hx=>by
  obtain⟨q,hq,rfl⟩:=Yl.mp hx
  have:=h.key hW hq
  omega
 rwa [Zd] at this
theorem Good.few{W:Int}{R:List Int->Str->Prop}{F:Frt}{N:Nat}(h:Good W R F)(hN:Few N R){q:Nat×Way}(hq:q∈F):q.2.2.length<=N:=by
 obtain⟨t,r,_⟩:=h.hit q hq
 exact hN _ _ r
theorem xk5(W:Int)(F:Frt):xa8 (aO true W F)=some (aO false W F):=by
 have h:=uZ F
 unfold aO xa8
 exact if_pos ⟨rfl,h⟩
theorem xH{f:tz2}{p:PSt}{W:Int}{F:Frt}(h:f p=some (aO true W F)):kY f p=some (aO false W F):=by
 unfold kY
 rw [h,Z4,xk5]
abbrev sW(GR:tz6):tz6:=gP 3 4 (sK nA wI mY zr0 xb0 GR)
def ye6(GR:tz6):tz1:=aT (aU 6 (aI (bB (aB 0))))
 (aT (fIf (aV (fT (aG mY (aA (aB 1) (aA (aB 2) aE))))) (aU 6 (aI (kY (aG zr0 (aA (aB 0) (aA (aB 4) aE)))))) bH)
 (cE (dA 3 bK (cJ [.im (aG GR (aA (aB 6) (aA (f2 dIx (aB 5) (fC (.int 0))) (aA (f2 dIx (aB 5) (fC (.int 1))) aE))))]) (eD "Front" "add_all" xb0))))
theorem xk6{GR:tz6}{W:Int}{F A Z:Frt}{p:Pc}{b:Bool}{m:Int}{n:Nat}{x:List Pc×Bool×Int}{y:Option D}(hp:oF p=true)(nd:(F.map (·.1)).Nodup)(hF:F.length<=41)(hc:∀q∈F,q.2.2.length<=900)
  (hG:GR [aO false W (if dF b p=true then lC F n else F),.tup (pcsD x.1),aP x.2.1 x.2.2]=some (aO false W Z)) (ndZ:(Z.map (·.1)).Nodup) (hZ:A.length+Z.length<=800):
  ∃z,ye6 GR [some (aO false W F),some (pcD p),some (aP b m),some (aO true W A),some (.int (n:Int)),some (eE x),y]=some (.nx,[some (aO false W F),some (pcD p),some (aP b m),some (aO true W (kJ A Z)),some (.int (n:Int)),some (eE x),z]):=by
 have t1:aU 6 (aI (bB (aB 0))) [some (aO false W F),some (pcD p),some (aP b m),some (aO true W A),some (.int (n:Int)),some (eE x),y]=some (.nx,[some (aO false W F),some (pcD p),some (aP b m),some (aO true W A),some (.int (n:Int)),some (eE x),some (aO false W F)]):=bD (cB rfl (zc8 W F))
 have q2:=yj1 p b m hp
 have c2:fT (aG mY (aA (aB 1) (aA (aB 2) aE))) [some (aO false W F),some (pcD p),some (aP b m),some (aO true W A),some (.int (n:Int)),some (eE x),some (aO false W F)]=some (dF b p):=vP (aS (aD rfl (aD rfl rfl)) q2)
 have t2:fIf (aV (fT (aG mY (aA (aB 1) (aA (aB 2) aE))))) (aU 6 (aI (kY (aG zr0 (aA (aB 0) (aA (aB 4) aE)))))) bH [some (aO false W F),some (pcD p),some (aP b m),some (aO true W A),some (.int (n:Int)),some (eE x),some (aO false W F)]=some (.nx,[some (aO false W F),some (pcD p),some (aP b m),some (aO true W A),some (.int (n:Int)),some (eE x),some (aO false W (if dF b p=true then lC F n else F))]):=by
  cases tk:dF b p with
  |true=>
   rw [tk] at c2
   exact(bM c2).trans (bD (xH (aS (aD rfl (aD rfl rfl)) (xt7 nd (by omega) hc))))
  |false=>
   rw [tk] at c2
   exact bE c2
 generalize (if dF b p=true then lC F n else F)=F' at hG t2
 have x0:f2 dIx (aB 5) (fC (.int 0)) [some (aO false W F),some (pcD p),some (aP b m),some (aO true W A),some (.int (n:Int)),some (eE x),some (aO false W F')]=some (.tup (pcsD x.1)):=aR rfl rfl (mG _ _)
 have x1:f2 dIx (aB 5) (fC (.int 1)) [some (aO false W F),some (pcD p),some (aP b m),some (aO true W A),some (.int (n:Int)),some (eE x),some (aO false W F')]=some (aP x.2.1 x.2.2):=aR rfl rfl (iD _ _ _)
 have x2:=aS (h:=GR) (aD (f:=aB 6) (d:=aO false W F') rfl (aD x0 (aD (g:=aE) x1 rfl))) hG
 exact⟨_,(aN t1).trans ((aN t2).trans (kW (zu9 (j:=3) rfl (dU x2 (zc8 W Z) gM) (xk1 (by simp [cW,gD]) (wk9 ndZ hZ)))))⟩
theorem ya3{GR:tz6}{GA:Bool->Int->List Pc->Frt->Frt}{W:Int}{F:Frt}{p:Pc}{b:Bool}{m:Int}(hp:oF p=true)(nd:(F.map (·.1)).Nodup)(hF:F.length<=41)(hc:∀q∈F,q.2.2.length<=900):∀(xs:List (List Pc×Bool×Int)) (n:Nat) (A:Frt) (y4 y5 y6:Option D),
  (∀(i:Nat) x,xs[i]? =some x->∃Z,Z=GA x.2.1 x.2.2 x.1 (if dF b p=true then lC F (n+i:Nat) else F)/\GR [aO false W (if dF b p=true then lC F (n+i:Nat) else F),.tup (pcsD x.1),aP x.2.1 x.2.2]=some (aO false W Z)/\(Z.map (·.1)).Nodup/\Z.length<=41)->A.length+41*xs.length<=400->
  ∃z4 z5 z6,oA [4,5] (ye6 GR) (nM n (xs.map eE)) [some (aO false W F),some (pcD p),some (aP b m),some (aO true W A),y4,y5,y6]=some (.nx,[some (aO false W F),some (pcD p),some (aP b m),some (aO true W (frW GA (dF b p) F n xs A)),z4,z5,z6])
 |[],n,A,y4,y5,y6,_,_=>⟨y4,y5,y6,rfl⟩
 | x::xs,n,A,y4,y5,y6,hG,hA=>by
  rw [Z6] at hA
  obtain⟨Z,e1,e2,e3,e4⟩:=hG 0 x rfl
  rw [Xr] at e1 e2
  obtain⟨z,t⟩:=xk6 (m:=m) (A:=A) (y:=y6) hp nd hF hc e2 e3 (by omega)
  have hl:=zo5 Z A
  obtain⟨z4,z5,z6,ih⟩:=ya3 (m:=m) hp nd hF hc xs (n+1) (kJ A Z) (some (.int (n:Int))) (some (eE x)) z (fun i y hy=>by
   have:=hG (i+1) y (by simpa using hy)
   rwa [show n+(i+1)=n+1+i by omega] at this) (by omega)
  refine⟨z4,z5,z6,?_⟩
  rw [Zb,nM,oA]
  show(some [D.int (n:Int),eE x]).bind _=_
  rw [Z4,if_pos (show [D.int (n:Int),eE x].length=[4,5].length from rfl)]
  show(ye6 GR [some (aO false W F),some (pcD p),some (aP b m),some (aO true W A),some (.int (n:Int)),some (eE x),y6]).bind _=_
  rw [frW,<-e1]
  rw [t,Z4]
  exact ih
theorem xu0{GR:tz6}{GA:Bool->Int->List Pc->Frt->Frt}{W:Int}{F:Frt}{p:Pc}{b:Bool}{m:Int}(hp:oF p=true)(ho:okP p)(nd:(F.map (·.1)).Nodup)(hF:F.length<=41)(hc:∀q∈F,q.2.2.length<=900)
  (hG:∀(i:Nat) x,(cX b m p)[i]? =some x->∃Z,Z=GA x.2.1 x.2.2 x.1 (if dF b p=true then lC F i else F)/\GR [aO false W (if dF b p=true then lC F i else F),.tup (pcsD x.1),aP x.2.1 x.2.2]=some (aO false W Z)/\(Z.map (·.1)).Nodup/\Z.length<=41):
  sW GR [aO false W F,pcD p,aP b m]=some (aO true W (frW GA (dF b p) F 0 (cX b m p) [])):=by
 have h4:(cX b m p).length<=4:=by
  cases p with
  |leaf l=>simp [cX]
  |group r=>cases b<;>simp [cX]
  |hang k r=>simp [cX]
  |either rs=>have:=ho.1.2;simpa [cX] using this
 have hn:zh7 p<=1000:=by
  cases p with
  |either rs=>have:=ho.1.2;show rs.length<=1000;omega
  |_=>exact ZL _
 have q1:=yr7 p b m hp hn
 have him:D.imms ((cX b m p).map eE)=true:=by
  generalize cX b m p=xs
  induction xs with
  |nil=>rfl
  |cons x xs ih=>
   show(D.imm (eE x)&&D.imms (xs.map eE))=true
   rw [zg3,ih];rfl
 have s1:aU 3 (aI (fA "Front" (cJ [.im (cQ "Front" "steps" (aB 0))]) nA)) [some (aO false W F),some (pcD p),some (aP b m),none,none,none,none]=some (.nx,[some (aO false W F),some (pcD p),some (aP b m),some (aO true W []),none,none,none]):=bD (yR (vS (f:=aB 0) (F:=F) rfl))
 obtain⟨z4,z5,z6,e⟩:=ya3 (m:=m) hp nd hF hc (cX b m p) 0 [] none none none (fun i x hx=>by rw [YF];exact hG i x hx) (by show 0+_<=_;omega)
 have s2:yd9 [4,5] (ye0 (aG wI (aA (aB 1) (aA (aB 2) aE)))) (ye6 GR) [some (aO false W F),some (pcD p),some (aP b m),some (aO true W []),none,none,none]=some (.nx,[some (aO false W F),some (pcD p),some (aP b m),some (aO true W (frW GA (dF b p) F 0 (cX b m p) [])),z4,z5,z6]):=by
  unfold yd9 ye0
  rw [aS (h:=wI) (aD (f:=aB 1) (d:=pcD p) rfl (aD (f:=aB 2) (d:=aP b m) (g:=aE) rfl rfl)) q1,Z4]
  show((if D.imms ((cX b m p).map eE)=true then some ((cX b m p).map eE) else none).map (nM 0)).bind _=_
  rw [if_pos him]
  exact e
 exact jM rfl (dE s1 (dE s2 ⟨_,rfl⟩))
def zP:Nat->tz6
 |0=>fun _=>none
 |n+1=>gP 3 2 (pW lI (sW (zP n)) zh8)
def ze9(GH:tz6):tz1:=fIf (aV (fT (aG lI (aA (aB 4) aE))))
 (aU 3 (aI (kY (aG GH (aA (aB 3) (aA (aB 4) (aA (aB 2) aE)))))))
 (aU 3 (aI (kY (aG zh8 (aA (aB 3) (aA (aB 4) (aA (aB 2) aE)))))))
def xw9(W:Int)(GR:tz6)(GA:Bool->Int->List Pc->Frt->Frt)(r:List Pc):Prop:=∀(b:Bool) (m:Int) (R:List Int->Str->Prop) (F:Frt) (N:Nat),0<=m->m+12*depR r<=200->Good W R F->Few N R->N+(toksR r).length<=900->
 GR [aO false W F,.tup (pcsD r),aP b m]=some (aO false W (GA b m r F))
theorem yy8{b:Bool}{m:Int}{p:Pc}{x:List Pc×Bool×Int}(hx:x∈cX b m p):(toksR x.1).length+1<=(cU p).length:=by
 cases p with
 |leaf l=>simp [cX] at hx
 | group r=>
  have:x.1=r:=by
   cases b<;>simp [cX] at hx
   ·subst hx;rfl
   ·rcases hx with e|e<;>subst e<;>rfl
  rw [this];simp [cU]
 |hang n r=>
  simp [cX] at hx
  subst hx;simp [cU]
 |either rs=>
  obtain⟨r,hm,rfl⟩:=Yl.mp (show x∈rs.map fun r=>(r,b,m) from hx)
  have:=wO hm
  simp [cU];omega
theorem we4{W:Int}{GR:tz6}{GA:Bool->Int->List Pc->Frt->Frt}{k:Nat}(hW0:0<=W)(hW1:W<=40)(hG:∀r,depR r<k->okR r->rB W GA r)(hD:∀r,depR r<k->okR r->xw9 W GR GA r)
  {b:Bool} {m:Int} {R:List Int->Str->Prop} {F:Frt} {N:Nat} {p:Pc} {Y0 Y1:Option D} (hk:dJ p<=k) (ho:okP p) (h0:0<=m) (h1:m+12*dJ p<=200) (hF:Good W R F) (hN:Few N R) (hT:N+(cU p).length<=900):
  ze9 (sW GR) [Y0,Y1,some (aP b m),some (aO false W F),some (pcD p)]=some (.nx,[Y0,Y1,some (aP b m),some (aO false W (frP W GA b m F p)),some (pcD p)]):=by
 have c1:fT (aG lI (aA (aB 4) aE)) [Y0,Y1,some (aP b m),some (aO false W F),some (pcD p)]=some (oF p):=vP (aS (aD rfl rfl) (zk3 p))
 have hl:=hF.len hW1
 have hc:∀q∈F,q.2.2.length<=900:=fun q hq=>by have:=hF.few hN hq;omega
 have hold:oF p=true->ze9 (sW GR) [Y0,Y1,some (aP b m),some (aO false W F),some (pcD p)]=some (.nx,[Y0,Y1,some (aP b m),some (aO false W (frW GA (dF b p) F 0 (cX b m p) [])),some (pcD p)]):=fun hp=>by
  rw [hp] at c1
  refine(bM c1).trans (bD (xH (aS (aD rfl (aD rfl (aD rfl rfl))) (xu0 (GA:=GA) hp ho hF.nd hl hc fun i x hx=> ?_))))
  have hm:=ZG hx
  obtain⟨a1,a2,a3,a4⟩:=zk6 ho h0 h1 hk hm
  have ht:=yy8 hm
  have gg:∀(R':List Int->Str->Prop) (F':Frt),Good W R' F'->Few (N+1) R'->∃Z,Z=GA x.2.1 x.2.2 x.1 F'/\GR [aO false W F',.tup (pcsD x.1),aP x.2.1 x.2.2]=some (aO false W Z)/\(Z.map (·.1)).Nodup/\Z.length<=41:=fun R' F' hR hf=>by
   have g:=hG x.1 a3 a4 x.2.1 x.2.2 R' F' a1 a2 hR
   exact⟨_,rfl,hD x.1 a3 a4 x.2.1 x.2.2 R' F' (N+1) a1 a2 hR hf (by omega),g.nd,g.len hW1⟩
  by_cases tk:dF b p=true
  ·rw [if_pos tk]
   exact gg _ _ (yN hF i) (xk4 hN)
  ·rw [if_neg tk]
   exact gg _ _ hF fun c t h=>Wx (hN c t h)
 cases p with
 |leaf l=>
  have hm:m<=200:=by rw [dJ] at h1;omega
  exact(gH (eB c1)).trans (bD (xH (aS (aD rfl (aD rfl (aD rfl rfl))) (xk3 hW0 hW1 ho h0 hm hF.nd (by omega) fun q hq=>by have:=hF.key hW1 hq;omega))))
 |group r=>exact hold rfl
 |hang n r=>exact hold rfl
 |either rs=>exact hold rfl
theorem xk7{W:Int}{GR:tz6}{GA:Bool->Int->List Pc->Frt->Frt}{k:Nat}(hW0:0<=W)(hW1:W<=40)(hG:∀r,depR r<k->okR r->rB W GA r)(hD:∀r,depR r<k->okR r->xw9 W GR GA r){b:Bool}{m:Int}{Y0 Y1:Option D}(h0:0<=m):∀(r:List Pc) (R:List Int->Str->Prop) (F:Frt) (N:Nat) (y:Option D),depR r<=k->okR r->m+12*depR r<=200->Good W R F->Few N R->N+(toksR r).length<=900->
  ∃z,cO 4 (ze9 (sW GR)) (pcsD r) [Y0,Y1,some (aP b m),some (aO false W F),y]=some (.nx,[Y0,Y1,some (aP b m),some (aO false W (r.foldl (fun F p=>frP W GA b m F p) F)),z])
 |[],R,F,N,y,_,_,_,_,_,_=>⟨y,rfl⟩
 |p::r,R,F,N,y,hk,ho,h1,hF,hN,hT=>by
  rw [depR] at hk h1
  rw [toksR,Z2] at hT
  have q1:=we4 hW0 hW1 hG hD (b:=b) (Y0:=Y0) (Y1:=Y1) (show dJ p<=k by omega) ho.1 h0 (by omega) hF hN (by omega)
  obtain⟨z,e⟩:=xk7 hW0 hW1 hG hD h0 r _ _ _ (some (pcD p)) (by omega) ho.2 (by omega) (yO hG (b:=b) (show dJ p<=k by omega) ho.1 h0 (by omega) hF) (xt9 hN) (by omega)
  refine⟨z,?_⟩
  show cO 4 _ (pcD p::pcsD r) _=_
  rw [cO]
  show((ze9 (sW GR) [Y0,Y1,some (aP b m),some (aO false W F),some (pcD p)]).bind _)=_
  rw [q1];exact e
theorem ys6{W:Int}(hW0:0<=W)(hW1:W<=40):∀(n:Nat) (r:List Pc),depR r<n->okR r->xw9 W (zP n) (frN W n) r
 |0,_,h,_=>absurd h (Yq _)
 |n+1,r,hd,ho=>fun b m R F N h0 h1 hF hN hT=>by
  obtain⟨z,e⟩:=xk7 (GR:=zP n) (GA:=frN W n) (k:=n) (Y0:=some (aO false W F)) (Y1:=some (.tup (pcsD r))) hW0 hW1 (fun q h2 h3=>yP n q h2 h3) (fun q h2 h3=>ys6 hW0 hW1 n q h2 h3) h0 r R F N none (by omega) ho h1 hF hN hT
  have s1:aU 3 (aI (bB (aB 0))) [some (aO false W F),some (.tup (pcsD r)),some (aP b m),none,none]=some (.nx,[some (aO false W F),some (.tup (pcsD r)),some (aP b m),some (aO false W F),none]):=bD (cB rfl (zc8 W F))
  have s2:eP 4 (eC (aB 1)) (ze9 (sW (zP n))) [some (aO false W F),some (.tup (pcsD r)),some (aP b m),some (aO false W F),none]=some (.nx,[some (aO false W F),some (.tup (pcsD r)),some (aP b m),some (aO false W (frN W (n+1) b m r F)),z]):=uG rfl e
  show gP 3 2 (pW lI (sW (zP n)) zh8) _=_
  exact jM rfl (dE s1 (dE s2 ⟨_,rfl⟩))
abbrev zf0:tz7:=gE 2 0 (bI [true,false]) lP
theorem wl2(W:Int):zf0 [.obj true "WithinWidth" [] [],.int W]=some (.non,[.obj true "WithinWidth" ["width"] [.int W],.int W]):=by
 simp [gE,lP,iB,xP,cW,bB,aB,bK,fO,zl1,bI,D.imm]
theorem xk8{p:PSt}{f:tz2}{W:Int}(h:f p=some (.int W)):nV (fA "WithinWidth" (cJ [.im f]) zf0) p=some (cG W):=by
 have i:=wl2 W
 unfold nV
 have e:fA "WithinWidth" (cJ [.im f]) zf0 p=some (.obj true "WithinWidth" ["width"] [.int W]):=by
  unfold fA
  rw [dU h rfl gM,Z4,i];rfl
 rw [e];rfl
abbrev vH:tz6:=gP 1 0 za2
abbrev ye7:tz6:=gP 2 0 (vY vH)
abbrev yn3:tz6:=gP 2 2 (zI ye7 vH)
theorem xk9:vH [.str ""]=some (.lst true [.str ""]):=by kernel_rfl
theorem wr1{W:Int}(hW:0<=W):ye7 [.str "",.int W]=some (.bl true):=by
 have q:=xk9
 have e:("":Str).length=0:=by decide+kernel
 show gP 2 0 (vY vH) _=_
 generalize vH=G at q|-
 have z:(0:Nat)<=sizeLine:=ZL _
 have z1:1<=sizeLine:=sz (by decide)
 simp! [vY,iL,eC,q,mK,fY,qU,gW,xa4,D.bools,e,hW,z,z1]
theorem wl3{W:Int}(hW:0<=W):yn3 [.str "",.int W]=some (.tup [.int 1,.int 0]):=by
 have q:=xk9
 have f:=wr1 hW
 show gP 2 2 (zI ye7 vH) _=_
 generalize ye7=G1 at f|-
 generalize vH=G2 at q|-
 have s1:fIf (aV (jE (fT (aG G1 (aA (aB 0) (aA (aB 1) aE)))))) (bX (aI (fC .non))) bH [some (.str ""),some (.int W),none,none]=some (.nx,[some (.str ""),some (.int W),none,none]):=bE (nI (vP (aS (aD rfl (aD rfl rfl)) f)))
 have s2:aU 2 (aI (aG G2 (aA (aB 0) aE))) [some (.str ""),some (.int W),none,none]=some (.nx,[some (.str ""),some (.int W),some (.lst true [.str ""]),none]):=bD (aS (aD rfl rfl) q)
 have e3:fSl (aB 2) iA (lU (dX (fC (.int 1)))) [some (.str ""),some (.int W),some (.lst true [.str ""]),none]=some (.lst true []):=by rfl
 have s3:aU 3 (aI (aG xa5 (aA (iL [none,some 1] (eC (fSl (aB 2) iA (lU (dX (fC (.int 1)))))) gW (f2 iK (f2 jH (aB 1) (aG cM (aA (aB 0) aE))) (f2 jH (aB 1) (aG cM (aA (aB 0) aE))))) aE))) [some (.str ""),some (.int W),some (.lst true [.str ""]),none]=some (.nx,[some (.str ""),some (.int W),some (.lst true [.str ""]),some (.int 0)]):=by
  refine bD (aS (aD (d:= .lst true []) ?_ rfl) rfl)
  unfold iL eC
  rw [e3]
  rfl
 refine jM rfl (dE s1 (dE s2 (dE s3 ⟨_,cI (dM (aD (d:= .int 1) ?_ (aD (cB rfl rfl) rfl)) rfl (by simp))⟩)))
 exact aS (aD (g:=aE) rfl rfl) rfl
abbrev xS:tz6:=gP 1 2 (vE nA zf0 yn3 oO)
theorem zk9{W:Int}(hW:0<=W):xS [.int W]=some (aO true W [(0,((1,0),[]))]):=by
 have p0:=wl3 hW
 have s1:aU 1 (aI (fA "Front" (cJ [.im (nV (fA "WithinWidth" (cJ [.im (aB 0)]) zf0))]) nA)) [some (.int W),none,none]=some (.nx,[some (.int W),some (aO true W []),none]):=bD (yR (xk8 rfl))
 have s2:aU 2 (aI (aG yn3 (aA (fC (.str "")) (aA (aB 0) aE)))) [some (.int W),some (aO true W []),none]=some (.nx,[some (.int W),some (aO true W []),some (.tup [.int 1,.int 0])]):=bD (aS (aD rfl (aD rfl rfl)) p0)
 have s3:fIf (aV (fB (f2 nZ (aB 2) (fC .non)))) (cE (dA 1 bK (cJ [.im (fC (.int 0)),.im (bG (aA (bB (aB 2)) (aA (bG aE) aE)))]) (eD "Front" "add" oO))) bH [some (.int W),some (aO true W []),some (.tup [.int 1,.int 0])]=some (.nx,[some (.int W),some (aO true W [(0,((1,0),[]))]),some (.tup [.int 1,.int 0])]):=
  (bM (dI (aR rfl rfl rfl))).trans (zg7 (j:=1) (F:=[]) (W:=W) (k:=0) (x:=((1,0),[])) rfl rfl (zk8 (x:=((1,0),[])) (cB rfl rfl) (dM rfl rfl (ZL _))) (by simp))
 exact jM rfl (dE s1 (dE s2 (dE s3 ⟨_,rfl⟩)))
abbrev uJ(n:Nat):tz6:=gP 2 0 (sL (zP n) ze8)
def lD(W:Int)(n:Nat)(r:List Pc):Frt:=frN W n true 0 r [(0,((1,0),[]))]
theorem zo7{W:Int}(hW:0<=W):Good W (fun cs t=>cs=[]/\t=⟨#[]⟩) [(0,((1,0),[]))]:=⟨by simp,fun p hp=>by
 rw [Zg.mp hp];exact⟨_,⟨rfl,rfl⟩,zk5 hW⟩⟩
theorem zc9{W:Int}{n:Nat}{r:List Pc}(hW0:0<=W)(hW1:W<=40)(hd:depR r<n)(h8:depR r<=16)(ho:okR r)(hl:(toksR r).length<=800):uJ n [aO false W [(0,((1,0),[]))],.tup (pcsD r)]=some (aO false W (lD W n r)):=by
 have q:=ys6 hW0 hW1 n r hd ho true 0 _ _ 0 (Yf _) (by omega) (zo7 hW0) (fun c t h=>by rw [h.1];exact Z7 _) (by omega)
 exact jM rfl ⟨_,cI (aS (aD rfl (aD rfl (aD (aS rfl yj2) rfl))) q)⟩
def sD(t:Str)(cs:List Int)(n:Nat):D:= .lst true [.str t,.lst true (aY cs),.int n]
theorem wr2:ixN 3 0=some 0:=by decide
abbrev tY:tz7:=gE 2 0 (bI [true,false]) ze5
theorem ys7{t:Str}{cs:List Int}{n:Nat}{m:Int}(h0:0<=m)(h1:m<=200)(ht:t.length<=1000000):tY [sD t cs n,.int m]=some (.non,[sD (t++nlw m) cs n,.int m]):=by
 have q:=yd4 m (by omega) (by omega)
 have hs:sizeLine=16777216:=ZP
 have e1:cD (.str t) (.str "\n")=some (.str (t++(⟨#[10]⟩:Str))):=by
  rw [zn8,cD,if_pos]
  show t.length+1<=_;omega
 have e2:cD (.str (t++(⟨#[10]⟩:Str))) (.str (Txt.mul " " m))=some (.str (t++nlw m)):=by
  rw [cD,if_pos,yr9];rfl
  rw [dC,iQ];show t.length+1+_<=_;omega
 have i0:=wr2
 simp only [gE,ze5,sD]
 simp only [Z6,ZX,if_pos,Zb,X1,ZN,ZR,List.replicate_zero,dL,f2,aB,fC,dIx,mG,Z4,List.getElem?_cons_zero,Ye,YA,e1,q,e2]
 simp! [fKs,zh2,dL,eU,yy2,xx7,cS,dP,fE2,fTE,oJ,i0]
abbrev zv8:tz6:=gP 1 0 wT
theorem ya4{t:Str}{cs:List Int}{n:Nat}(ht:t.length<=1000000):zv8 [sD t cs n]=some (.int (col t)):=by
 have hs:sizeLine=16777216:=ZP
 have hz:t.length<=sizeLine:=by omega
 have e:=xj1 t
 rw [<-zn8] at e
 simp! [fKs,zh2,dL,eU,yy2,xx7,cS,dP,fE2,fTE,oJ,wT,sD,hz,zq2,e]
theorem xu1(n:Nat):∃s:Int,atI [D.int 1,.int 12,.int 144,.int 1728,.int 20736,.int 248832,.int 2985984,.int 35831808] ((n:Int) % 8)=some (.int s)/\0<s/\s<1073741824:=by
 have h0:=Zv (n:Int) (show(8:Int)≠0 by decide)
 have h1:=Zs (n:Int) (show(0:Int)<8 by decide)
 obtain⟨d,hd,e⟩:=uD [D.int 1,.int 12,.int 144,.int 1728,.int 20736,.int 248832,.int 2985984,.int 35831808] ((n:Int) % 8) h0 (by simpa using h1)
 simp only [Z5,ZJ,YW] at hd
 rcases hd with rfl|rfl|rfl|rfl|rfl|rfl|rfl|rfl<;>exact⟨_,e,by decide,by decide⟩
abbrev qG(GM GC:tz6):tz7:=gE 4 2 (bI [false,true,false,false]) (wB GM GC)
section
variable{GM GC:tz6}{S:D}
theorem we5{t:Str}{cs:List Int}{n many:Nat}{salt:Int}(hM:MxH GM S)(hC:∀j:Int,0<=j->j<1000->∃a,GC [S,.int j]=some (.int a))(hn:n<=900)(h0:0<=salt)(h1:salt<1000)(hm:0<many)(hl:cs.length<=900):
  ∃d:Int,qG GM GC [S,sD t cs n,.int salt,.int many]=some (.int d,[S,sD t (cs++[d]) (n+1),.int salt,.int many])/\0<=d/\d<many:=by
 obtain⟨a,qa,ha⟩:=hM ((n:Int)+40) salt (by omega) (by omega) h0 h1
 obtain⟨b,qb⟩:=hC (40+(n:Int)/8) (by omega) (by omega)
 obtain⟨s,qs,s0,s1⟩:=xu1 n
 have hm':(0:Int)<(many:Int):=by omega
 have hz:(aY cs).length<sizeLine:=by rw [sE];exact sz1 (by omega)
 have r:=fun x:Int=>And.intro (Zv x (show(many:Int)≠0 by omega)) (Zs x hm')
 have i1:∀d:Int,aY [d]=[.int d]:=fun _=>rfl
 have v2:∀x4 x5,f2 dIx (aB 1) (fC (.int 2)) [some S,some (sD t cs n),some (.int salt),some (.int many),x4,x5]=some (.int n):=fun _ _=>aR rfl rfl (yi8 _ _ _ _)
 have s1':aU 4 (aI (aG GM (aA (aB 0) (aA (f2 cD (f2 dIx (aB 1) (fC (.int 2))) (fC (.int 40))) (aA (aB 2) aE))))) [some S,some (sD t cs n),some (.int salt),some (.int many),none,none]=some (.nx,[some S,some (sD t cs n),some (.int salt),some (.int many),some (.int a),none]):=bD (aS (aD rfl (aD (aR (v2 _ _) rfl rfl) (aD rfl rfl))) qa)
 have fin:∀(x:Int) (x5:Option D),∃q,aT (dL 1 bK (fC (.int 2)) (f2 cD (f2 dIx (aB 1) (fC (.int 2))) (fC (.int 1)))) (aT (cE (dA 1 (fP 1 bK (fC (.int 1))) (aA (f2 cR (aB 4) (aB 3)) aE) cT)) (bX (aI (f2 cR (aB 4) (aB 3))))) [some S,some (sD t cs n),some (.int salt),some (.int many),some (.int x),x5]=some (.ret (.int (x % many)),[some S,some (sD t (cs++[x % many]) (n+1)),some (.int salt),some (.int many),some (.int x),x5])/\q=x5:=fun x x5=>by
  have md:∀s,f2 cR (aB 4) (aB 3) [some S,s,some (.int salt),some (.int many),some (.int x),x5]=some (.int (x % many)):=fun s=>aR rfl rfl ((cS _ _).trans (if_pos hm'))
  have a1:dL 1 bK (fC (.int 2)) (f2 cD (f2 dIx (aB 1) (fC (.int 2))) (fC (.int 1))) [some S,some (sD t cs n),some (.int salt),some (.int many),some (.int x),x5]=some (.nx,[some S,some (sD t cs (n+1)),some (.int salt),some (.int many),some (.int x),x5]):=by
   unfold dL
   rw [aR (v2 _ _) rfl rfl]
   rfl
  have a2:cE (dA 1 (fP 1 bK (fC (.int 1))) (aA (f2 cR (aB 4) (aB 3)) aE) cT) [some S,some (sD t cs (n+1)),some (.int salt),some (.int many),some (.int x),x5]=some (.nx,[some S,some (sD t (cs++[x % many]) (n+1)),some (.int salt),some (.int many),some (.int x),x5]):=by
   refine kW (d:= .non) ?_
   unfold dA
   rw [aD (md _) rfl]
   show((fO (cT [.int (x % many)]) (sD t cs (n+1)) [.ix 1]).bind _)=_
   have e:fO (cT [.int (x % many)]) (sD t cs (n+1)) [.ix 1]=some (.non,sD t (cs++[x % many]) (n+1)):=by
    show((cT [.int (x % many)] (.lst true (aY cs))).bind _)=_
    rw [show cT [.int (x % many)] (.lst true (aY cs))=some (.non,.lst true (aY cs++[.int (x % many)])) from if_pos hz]
    unfold sD
    rw [zc5,i1];rfl
   rw [e];rfl
  exact⟨_,(aN a1).trans ((aN a2).trans (cI (md _))),rfl⟩
 have out:∀(d:Int) (p4 p5:Option D),wB GM GC [some S,some (sD t cs n),some (.int salt),some (.int many),none,none]=some (.ret (.int d),[some S,some (sD t (cs++[d]) (n+1)),some (.int salt),some (.int many),p4,p5])->qG GM GC [S,sD t cs n,.int salt,.int many]=some (.int d,[S,sD t (cs++[d]) (n+1),.int salt,.int many]):=fun d p4 p5 h=>by
  unfold qG gE
  refine(if_pos rfl).trans ?_
  show(wB GM GC [some S,some (sD t cs n),some (.int salt),some (.int many),none,none]).bind _=_
  rw [h];rfl
 have t1:fB (f2 dEq (aB 2) (fC (.int 1))) [some S,some (sD t cs n),some (.int salt),some (.int many),some (.int a),none]=some (decide (salt=1)):=dI (aR rfl rfl rfl)
 by_cases c:salt=1
 ·refine⟨(b/s) % many,out _ (some (.int (b/s))) (some (.int s)) ?_,(r _).1,(r _).2⟩
  rw [Zk c] at t1
  have s2:aU 5 (aI (f2 dIx (cZ (fKs [.int 1,.int 12,.int 144,.int 1728,.int 20736,.int 248832,.int 2985984,.int 35831808])) (f2 cR (f2 dIx (aB 1) (fC (.int 2))) (fC (.int 8))))) [some S,some (sD t cs n),some (.int salt),some (.int many),some (.int a),none]=some (.nx,[some S,some (sD t cs n),some (.int salt),some (.int many),some (.int a),some (.int s)]):=bD (aR (fJ rfl (Z3 rfl)) (aR (v2 _ _) rfl ((cS _ _).trans (if_pos (by decide)))) qs)
  have s3:aU 4 (aI (f2 eM (aG GC (aA (aB 0) (aA (f2 cD (fC (.int 40)) (f2 eM (f2 dIx (aB 1) (fC (.int 2))) (fC (.int 8)))) aE))) (aB 5))) [some S,some (sD t cs n),some (.int salt),some (.int many),some (.int a),some (.int s)]=some (.nx,[some S,some (sD t cs n),some (.int salt),some (.int many),some (.int (b/s)),some (.int s)]):=bD (aR (aS (aD rfl (aD (aR rfl (aR (v2 _ _) rfl ((dP _ _).trans (if_pos (by decide)))) rfl) rfl)) qb) rfl ((dP _ _).trans (if_pos ⟨s0,s1⟩)))
  obtain⟨_,f,_⟩:=fin (b/s) (some (.int s))
  exact(aN s1').trans ((aN ((bM t1).trans ((aN s2).trans s3))).trans f)
 ·refine⟨a % many,out _ (some (.int a)) none ?_,(r _).1,(r _).2⟩
  rw [Za c] at t1
  obtain⟨_,f,_⟩:=fin a none
  exact(aN s1').trans ((aN (bE t1)).trans f)
end
theorem xu2{f:tz8}{p p':PSt}{d:D}(h:f p=some (d,p')):bX f p=some (.ret d,p'):=by unfold bX;rw [h];rfl
theorem yk3{i:Nat}{f:tz8}{p p':PSt}{d:D}(h:f p=some (d,p')):aU i f p=some (.nx,p'.set i (some d)):=by unfold aU;rw [h];rfl
theorem xl0{i:Nat}{fe:tz2}{y a:D}{l:List D}{p:PSt}(h:fe p=some y)(hp:p[i]? =some (some (.lst true (a::l)))):dL i bK (fC (.int 0)) fe p=some (.nx,p.set i (some (.lst true (y::l)))):=by
 have e:ixN (l.length+1) 0=some 0:=nR _
 simp [dL,h,hp,bK,fC,fO,eU,e]
abbrev wJ:tz7:=gE 3 0 (bI [true,false,false]) (wD zv8 tY)
abbrev sX:tz7:=gE 4 0 (bI [false,false,false,true]) (oM wJ tY)
theorem zg9{t:Str}{c:Int}(c0:0<=c)(c1:c<=200):(t++nlw c).length<=t.length+201:=by
 unfold nlw
 rw [dC,dC,iQ];show _+(1+_)<=_;omega
def zv9(f:Option (D×List D))(g:Str->List D)(flat:Bool)(m:Int)(l:Leaf)(t:Str):Prop:=∃ok t',f=some (.bl ok,g t')/\(ok=true->∃w,wr (!flat) m (col t) l=some w/\t'=t++w)/\(ok=false->wr (!flat) m (col t) l=none/\flat=true)/\t'.length<=t.length+201
theorem xu3{t:Str}{cs:List Int}{n:Nat}{flat:Bool}{m c:Int}(hc:0<=c/\c<=40)(ht:t.length<=900000):zv9 (wJ [sD t cs n,.bl flat,.int c]) (fun t'=>[sD t' cs n,.bl flat,.int c]) flat m (.stop c) t:=by
 have hs:sizeLine=16777216:=ZP
 have past:fB (f2 dGt (aG zv8 (aA (aB 0) aE)) (aB 2)) [some (sD t cs n),some (.bl flat),some (.int c)]=some (decide (c<(col t:Int))):=dI (aR (aS (aD rfl rfl) (ya4 (by omega))) rfl rfl)
 have bl:∀t':Str,t'.length<=1000000->(col t':Int)<=c->dL 0 bK (fC (.int 0)) (f2 cD (f2 dIx (aB 0) (fC (.int 0))) (f2 iK (fC (.str " ")) (f2 jH (aB 2) (aG zv8 (aA (aB 0) aE))))) [some (sD t' cs n),some (.bl flat),some (.int c)]=some (.nx,[some (sD (t'++Txt.mul " " (c-(col t':Int))) cs n),some (.bl flat),some (.int c)]):=fun t' h hk=>
  xl0 (aR (aR rfl rfl (mG _ _)) (aR rfl (aR rfl (aS (aD rfl rfl) (ya4 h)) rfl) (yd4 _ (by omega) (by omega))) (by rw [cD,if_pos];rw [iQ];omega)) rfl
 have out:∀(ok:Bool) (t':Str),wD zv8 tY [some (sD t cs n),some (.bl flat),some (.int c)]=some (.ret (.bl ok),[some (sD t' cs n),some (.bl flat),some (.int c)])->wJ [sD t cs n,.bl flat,.int c]=some (.bl ok,[sD t' cs n,.bl flat,.int c]):=fun ok t' h=>by
  unfold wJ gE
  refine(if_pos rfl).trans ?_
  show(wD zv8 tY [some (sD t cs n),some (.bl flat),some (.int c)]).bind _=_
  rw [h];rfl
 delta zv9
 by_cases hk:(col t:Int)<=c
 ·rw [Za (by omega)] at past
  exact⟨true,t++Txt.mul " " (c-(col t:Int)),out _ _ ((aN (bE past)).trans ((aN (bl t (by omega) hk)).trans rfl)),fun _=>⟨_,if_pos hk,rfl⟩,(nomatch ·),by rw [dC,iQ];omega⟩
 ·rw [Zk (by omega)] at past
  cases flat with
  |true=>exact⟨false,t,out _ _ (dR ((bM past).trans (dR (bM rfl)))),(nomatch ·),fun _=>⟨(if_neg hk).trans rfl,rfl⟩,by omega⟩
  | false=>
   have l0:=zg9 (t:=t) (c:=0) (by omega) (by omega)
   have c0:col (t++nlw 0)=0:=by
    unfold nlw
    rw [zn9 (zc4 0),iQ];rfl
   have q:=bl (t++nlw 0) (by omega) (by rw [c0];exact hc.1)
   have e:t++nlw c=(t++nlw 0)++Txt.mul " " (c-((0:Nat):Int)):=by
    refine qQ ?_
    unfold nlw
    simp only [cF,uX]
    simp
   rw [c0,<-e] at q
   have ln:cE (fIO [.io 0,.im (fC (.int 0))] tY) [some (sD t cs n),some (.bl false),some (.int c)]=some (.nx,[some (sD (t++nlw 0) cs n),some (.bl false),some (.int c)]):=kW (sA (pA (j:=0) rfl (dU (f:=fC (.int 0)) rfl rfl gM)) (ys7 (Yf _) (by decide) (by omega)) rfl)
   exact⟨true,t++nlw c,out _ _ ((aN ((bM past).trans ((aN (bE rfl)).trans ln))).trans ((aN q).trans rfl)),fun _=>⟨nlw c,(if_neg hk).trans rfl,rfl⟩,(nomatch ·),zg9 hc.1 (by omega)⟩
theorem xl1{t:Str}{cs:List Int}{n:Nat}{flat:Bool}{m:Int}{l:Leaf}(hl:eV l)(h0:0<=m)(h1:m<=200)(ht:t.length<=900000):zv9 (sX [bF l,.bl flat,.int m,sD t cs n]) (fun t'=>[bF l,.bl flat,.int m,sD t' cs n]) flat m l t:=by
 have hs:sizeLine=16777216:=ZP
 have out:∀(ok:Bool) (t':Str),oM wJ tY [some (bF l),some (.bl flat),some (.int m),some (sD t cs n)]=some (.ret (.bl ok),[some (bF l),some (.bl flat),some (.int m),some (sD t' cs n)])->sX [bF l,.bl flat,.int m,sD t cs n]=some (.bl ok,[bF l,.bl flat,.int m,sD t' cs n]):=fun ok t' h=>by
  unfold sX gE
  refine(if_pos rfl).trans ?_
  show(oM wJ tY [some (bF l),some (.bl flat),some (.int m),some (sD t cs n)]).bind _=_
  rw [h];rfl
 have add:∀x:Str,x.length<=1000->cD (.str t) (.str x)=some (.str (t++x)):=fun x hx=>by rw [cD,if_pos];omega
 have wrote:∀(d0:D) (x:Str),x.length<=1000->f2 dIx (aB 0) (fC (.int 1)) [some d0,some (.bl flat),some (.int m),some (sD t cs n)]=some (.str x)->dL 3 bK (fC (.int 0)) (f2 cD (f2 dIx (aB 3) (fC (.int 0))) (f2 dIx (aB 0) (fC (.int 1)))) [some d0,some (.bl flat),some (.int m),some (sD t cs n)]=some (.nx,[some d0,some (.bl flat),some (.int m),some (sD (t++x) cs n)]):=fun d0 x hx h=>
  xl0 (aR (aR rfl rfl (mG _ _)) h (add x hx)) rfl
 have line:∀d0:D,cE (fIO [.io 3,.im (aB 2)] tY) [some d0,some (.bl flat),some (.int m),some (sD t cs n)]=some (.nx,[some d0,some (.bl flat),some (.int m),some (sD (t++nlw m) cs n)]):=fun d0=>kW (sA (pA (j:=3) rfl (dU (f:=aB 2) rfl rfl gM)) (ys7 h0 h1 (by omega)) rfl)
 cases l with
 |word x=>
  have hx:x.length<=12:=hl.2.1
  delta zv9
  exact⟨true,t++x,out _ _ ((aN (bE (fU (i:=0) (k:="word") rfl (by decide)))).trans ((aN ((bM (wr0 (fU (i:=0) (k:="word") rfl (by decide)))).trans (wrote (bF (.word x)) x (by omega) (aR rfl rfl (iD _ _ _))))).trans rfl)),fun _=>⟨x,rfl,rfl⟩,(nomatch ·),by rw [dC];omega⟩
 | gap x=>
  have hx:x.length<=1:=by
   rcases(hl:x=""\/x=" ") with rfl|rfl
   ·show(0:Nat)<=1;decide
   ·show(1:Nat)<=1;decide
  have e0:fIf (aV (kdT 0 "stop")) (bX (fIO [.io 3,.im (aB 1),.im (f2 dIx (aB 0) (fC (.int 1)))] wJ)) bH [some (bF (.gap x)),some (.bl flat),some (.int m),some (sD t cs n)]=some (.nx,[some (bF (.gap x)),some (.bl flat),some (.int m),some (sD t cs n)]):=bE (fU (k:="gap") rfl (by decide))
  have e1:kdT 0 "word" [some (bF (.gap x)),some (.bl flat),some (.int m),some (sD t cs n)]=some false:=fU (k:="gap") rfl (by decide)
  have e2:kdT 0 "gap" [some (bF (.gap x)),some (.bl flat),some (.int m),some (sD t cs n)]=some true:=fU (k:="gap") rfl (by decide)
  delta zv9
  cases flat with
  |true=>exact⟨true,t++x,out _ _ ((aN e0).trans ((aN ((bM (zn6 e1 (iV e2 rfl))).trans (wrote _ x (by omega) (aR rfl rfl (iD _ _ _))))).trans rfl)),fun _=>⟨x,rfl,rfl⟩,(nomatch ·),by rw [dC];omega⟩
  |false=>exact⟨true,t++nlw m,out _ _ ((aN e0).trans ((aN ((gH (eB (zn6 e1 (iV e2 rfl)))).trans ((gH (eB rfl)).trans (line _)))).trans rfl)),fun _=>⟨_,rfl,rfl⟩,(nomatch ·),zg9 h0 h1⟩
 |fin=>
  have e0:fIf (aV (kdT 0 "stop")) (bX (fIO [.io 3,.im (aB 1),.im (f2 dIx (aB 0) (fC (.int 1)))] wJ)) bH [some (bF .fin),some (.bl flat),some (.int m),some (sD t cs n)]=some (.nx,[some (bF .fin),some (.bl flat),some (.int m),some (sD t cs n)]):=bE (fU (k:="end") rfl (by decide))
  have e1:kdT 0 "word" [some (bF .fin),some (.bl flat),some (.int m),some (sD t cs n)]=some false:=fU (k:="end") rfl (by decide)
  have e2:kdT 0 "gap" [some (bF .fin),some (.bl flat),some (.int m),some (sD t cs n)]=some false:=fU (k:="end") rfl (by decide)
  delta zv9
  cases flat with
  |true=>exact⟨false,t,out _ _ ((aN e0).trans (dR ((gH (eB (zn6 e1 (kD e2)))).trans ((bM rfl).trans rfl)))),(nomatch ·),fun _=>⟨rfl,rfl⟩,by omega⟩
  |false=>exact⟨true,t++nlw m,out _ _ ((aN e0).trans ((aN ((gH (eB (zn6 e1 (kD e2)))).trans ((gH (eB rfl)).trans (line _)))).trans rfl)),fun _=>⟨_,rfl,rfl⟩,(nomatch ·),zg9 h0 h1⟩
 |stop c=>
  obtain⟨ok,t',q,e⟩:=xu3 (t:=t) (cs:=cs) (n:=n) (flat:=flat) (m:=m) (c:=c) hl ht
  refine⟨ok,t',out _ _ (dR ((bM (fU (i:=0) (k:="stop") rfl (by decide))).trans ?_)),e⟩
  have e1:f2 dIx (aB 0) (fC (.int 1)) [some (bF (.stop c)),some (.bl flat),some (.int m),some (sD t cs n)]=some (.int c):=aR rfl rfl (iD _ _ _)
  exact xu2 (sA (pA (j:=3) rfl (dU (f:=aB 1) rfl rfl (dU e1 rfl gM))) q rfl)
abbrev nxS(GS:tz7)(f1 f2 f3:tz2):tz1:=aU 7 (fIO [.im (aB 0),.im f1,.im f2,.im f3,.io 4,.im (aB 5)] GS)
abbrev grS(GN GS:tz7):tz1:=aT (aU 8 (aI (bB (aB 2))))
 (aT (fIf (aV (dS (jE (fT (aB 2))) (fB (f2 dGt (aB 5) (fC (.int 0))))))
  (aU 8 (fE2 dEq (fIO [.im (aB 0),.io 4,.im (aB 5),.im (fC (.int 2))] GN) (fC (.int 0))))
  (fIf (aV (jE (fT (aB 2)))) (cE (dA 4 (fP 4 bK (fC (.int 1))) (aA (fC (.int 1)) aE) cT)) bH))
 (nxS GS (f2 dIx (aB 6) (fC (.int 1))) (aB 8) (aB 3)))
abbrev eiS(GN GS:tz7):tz1:=aT (aU 9 (fIO [.im (aB 0),.io 4,.im (f2 cD (aB 5) (f2 iK (fC (.int 9)) (aG oJ (aA (f2 dEq (aB 5) (fC (.int 0))) aE)))),.im (aG cM (aA (f2 dIx (aB 6) (fC (.int 1))) aE))] GN))
 (nxS GS (f2 dIx (f2 dIx (aB 6) (fC (.int 1))) (aB 9)) (aB 2) (aB 3))
abbrev haS(GS:tz7):tz1:=nxS GS (f2 dIx (aB 6) (fC (.int 2))) (aB 2) (f2 cD (aB 3) (f2 dIx (aB 6) (fC (.int 1))))
abbrev ww6:tz1:=fIf (aV (jE (fT (aB 7)))) (bX (aI (fC (.bl false)))) bH
def rP(GN GS:tz7):tz1:=aT (aU 7 (aI (fC (.bl true))))
 (aT (fIf (aV (kdT 6 "group")) (grS GN GS) (fIf (aV (kdT 6 "hang")) (haS GS) (fIf (aV (kdT 6 "either")) (eiS GN GS) (aU 7 (fIO [.im (aB 6),.im (aB 2),.im (aB 3),.io 4] sX))))) ww6)
section
variable{GM GC:tz6}{S:D}
def Fit(n c l w:Nat):Prop:=n+w<=900/\c+w<=900/\l+201*w<=900000
def rC(n n' l l':Nat)(ds:List Int)(w:Nat):Prop:=(n'<=n+w/\l'<=l+201*w/\ds.length<=w)/\∀d∈ds,0<=d/\d<4
theorem zo8{n c l w w':Nat}(h:Fit n c l w)(hw:w'<=w):Fit n c l w':=by unfold Fit at*;omega
theorem zh0{n n' l l' w w':Nat}{ds:List Int}(h:rC n n' l l' ds w)(hw:w<=w'):rC n n' l l' ds w':=⟨by have:=h.1;omega,h.2⟩
theorem we6{n l w:Nat}{cs:List Int}(h:Fit n cs.length l (w+2))(d:Int):Fit n (cs++[d]).length l w:=by
 rw [Z2]
 unfold Fit at*
 show _/\_+1+_<=_/\_
 omega
theorem yk4{n l w:Nat}{cs:List Int}(h:Fit n cs.length l (w+2))(d:Int):Fit (n+1) (cs++[d]).length l w:=by
 rw [Z2]
 unfold Fit at*
 show _/\_+1+_<=_/\_
 omega
theorem zo9{n c l w:Nat}(h:Fit n c l w):n<=900/\c<=900:=by unfold Fit at h;omega
theorem xu4{n n' l l' w:Nat}{ds:List Int}(g:rC n n' l l' ds w)(d:Int)(hd:0<=d/\d<4):rC n n' l l' (d::ds) (w+2):=⟨by have:=g.1;rw [Z6];omega,Wi.mpr ⟨hd,g.2⟩⟩
theorem ya5{n n' l l' w:Nat}{ds:List Int}(g:rC (n+1) n' l l' ds w)(d:Int)(hd:0<=d/\d<4):rC n n' l l' (d::ds) (w+2):=⟨by have:=g.1;rw [Z6];omega,Wi.mpr ⟨hd,g.2⟩⟩
theorem xu5{n n1 l l1 a b:Nat}{cs ds:List Int}(h:Fit n cs.length l (a+b))(g:rC n n1 l l1 ds a):Fit n1 (cs++ds).length l1 b:=by
 have:=g.1
 rw [Z2]
 unfold Fit at*
 omega
theorem yy9{n n1 n2 l l1 l2 a b:Nat}{ds es:List Int}(g:rC n n1 l l1 ds a)(h:rC n1 n2 l1 l2 es b):rC n n2 l l2 (ds++es) (a+b):=
 ⟨by have:=g.1;have:=h.1;rw [Z2];omega,fun d hd=>(Zp.mp hd).elim (g.2 d) (h.2 d)⟩
theorem yd5{m:Int}{x:Nat}(h:m+12*((x+1:Nat):Int)<=200):m+12*(x:Int)<=200:=by omega
theorem yk5{m:Int}{x y:Nat}(h:m+12*(y:Int)<=200)(hx:x<=y):m+12*(x:Int)<=200:=by omega
def zl4(S:D)(GS:tz7)(r:List Pc):Prop:=∀(flat:Bool) (m:Int) (t:Str) (cs:List Int) (n:Nat) (salt:Int),0<=m->m+12*depR r<=200->0<=salt->salt<=900->Fit n cs.length t.length (toksR r).length->
 ∃ok t' ds n',GS [S,.tup (pcsD r),.bl flat,.int m,sD t cs n,.int salt]=some (.bl ok,[S,.tup (pcsD r),.bl flat,.int m,sD t' (cs++ds) n',.int salt])/\(ok=true->∀x,setR (!flat) m r (ds++x) t=some (x,t'))/\(ok=false->∀x,setR (!flat) m r (ds++x) t=none)/\(salt=0->flat=false->ok=true)/\rC n n' t.length t'.length ds (toksR r).length
def zl5(S:D)(GN GS:tz7)(p:Pc)(R:Option D)(flat:Bool)(m:Int)(t:Str)(cs:List Int)(n:Nat)(salt:Int)(x7 x8 x9:Option D):Prop:=∃ok t' ds n' y7 y8 y9,rP GN GS [some S,R,some (.bl flat),some (.int m),some (sD t cs n),some (.int salt),some (pcD p),x7,x8,x9]=some (if ok=true then .nx else .ret (.bl false),[some S,R,some (.bl flat),some (.int m),some (sD t' (cs++ds) n'),some (.int salt),some (pcD p),y7,y8,y9])/\
  (ok=true->∀x,cL (!flat) m p (ds++x) t=some (x,t'))/\(ok=false->∀x,cL (!flat) m p (ds++x) t=none)/\(salt=0->flat=false->ok=true)/\rC n n' t.length t'.length ds (cU p).length
def yn4(S:D)(GN GS:tz7)(p:Pc):Prop:=∀(R:Option D) (flat:Bool) (m:Int) (t:Str) (cs:List Int) (n:Nat) (salt:Int) (x7 x8 x9:Option D),0<=m->m+12*dJ p<=200->0<=salt->salt<=900->Fit n cs.length t.length (cU p).length->zl5 S GN GS p R flat m t cs n salt x7 x8 x9
def zQ(S:D)(GN:tz7):Prop:=∀(t:Str) (cs:List Int) (n many:Nat) (salt:Int),n<=900->0<=salt->salt<1000->0<many->cs.length<=900->∃d:Int,GN [S,sD t cs n,.int salt,.int many]=some (.int d,[S,sD t (cs++[d]) (n+1),.int salt,.int many])/\0<=d/\d<many
theorem xu6(cs ds:List Int)(d:Int):cs++[d]++ds=cs++(d::ds):=by simp
theorem uH{GN GS:tz7}{k:String}{ds:List D}{S m s0 s1 salt:D}{R x7 x8 x9 y8 y9 fl:Option D}{ok:Bool}{F:tz1}
  (hp:∀p:PSt,p[6]? =some (some (.tup (.str k::ds)))->fIf (aV (kdT 6 "group")) (grS GN GS) (fIf (aV (kdT 6 "hang")) (haS GS) (fIf (aV (kdT 6 "either")) (eiS GN GS) (aU 7 (fIO [.im (aB 6),.im (aB 2),.im (aB 3),.io 4] sX)))) p=F p)
  (h:F [some S,R,fl,some m,some s0,some salt,some (.tup (.str k::ds)),some (.bl true),x8,x9]=some (.nx,[some S,R,fl,some m,some s1,some salt,some (.tup (.str k::ds)),some (.bl ok),y8,y9])):
  rP GN GS [some S,R,fl,some m,some s0,some salt,some (.tup (.str k::ds)),x7,x8,x9]=some (if ok=true then .nx else .ret (.bl false),[some S,R,fl,some m,some s1,some salt,some (.tup (.str k::ds)),some (.bl ok),y8,y9]):=by
 refine(aN (bD rfl)).trans ((aN ((hp _ rfl).trans h)).trans ?_)
 cases ok<;>rfl
theorem vA{GS:tz7}{r:List Pc}{b flat ok:Bool}{m m' salt:Int}{s0 s1 d6:D}{R x7 x8 x9:Option D}{f1 f2 f3:tz2}(hS:S.imm=true)(e1:f1 [some S,R,some (.bl flat),some (.int m),some s0,some (.int salt),some d6,x7,x8,x9]=some (.tup (pcsD r)))(e2:f2 [some S,R,some (.bl flat),some (.int m),some s0,some (.int salt),some d6,x7,x8,x9]=some (.bl b))(e3:f3 [some S,R,some (.bl flat),some (.int m),some s0,some (.int salt),some d6,x7,x8,x9]=some (.int m'))
  (q:GS [S,.tup (pcsD r),.bl b,.int m',s0,.int salt]=some (.bl ok,[S,.tup (pcsD r),.bl b,.int m',s1,.int salt])):
  nxS GS f1 f2 f3 [some S,R,some (.bl flat),some (.int m),some s0,some (.int salt),some d6,x7,x8,x9]=some (.nx,[some S,R,some (.bl flat),some (.int m),some s1,some (.int salt),some d6,some (.bl ok),x8,x9]):=
 yk3 (sA (dU (f:=aB 0) rfl hS (dU e1 (pcs_imm r) (dU e2 rfl (dU e3 rfl (pA (j:=4) rfl (dU (f:=aB 5) rfl rfl gM)))))) q rfl)
theorem bit{d:Int}(h0:0<=d)(h1:d<((2:Nat):Int)):d=0\/d=1:=by omega
theorem xl2{GN GS:tz7}{r:List Pc}(hS:S.imm=true)(hN:zQ S GN)(hr:zl4 S GS r):yn4 S GN GS (.group r):=by
 intro R flat m t cs n salt x7 x8 x9 h0 h1 hs0 hs1 hft
 have hd:dJ (.group r)=depR r+1:=by rw [dJ]
 have htk:(cU (.group r)).length=(toksR r).length+2:=by simp [cU]
 have pi:=pcs_imm r
 rw [hd] at h1
 rw [htk] at hft
 have set_eq:∀cs' t0,cL true m (.group r) cs' t0=(match cs' with|[]=>none|c::cs=>if c=0 then setR false m r cs t0 else if c=1 then setR true m r cs t0 else none):=fun cs' t0=>by rw [cL.eq_def];cases cs'<;>simp
 cases flat with
 |true=>
  obtain⟨ok,t',ds,n',q,e1,e2,e3,e4⟩:=hr true m t cs n salt h0 (yd5 h1) hs0 hs1 (zo8 hft (ZC _ 2))
  have se:∀cs' t0,cL (!true) m (.group r) cs' t0=setR (!true) m r cs' t0:=fun cs' t0=>by rw [cL.eq_def];simp
  delta zl5
  rw [htk]
  refine⟨ok,t',ds,n',some (.bl ok),some (.bl true),x9,?_,fun h x=>by rw [se];exact e1 h x,fun h x=>by rw [se];exact e2 h x,fun _ h=>(by cases h),zh0 e4 (ZC _ 2)⟩
  refine uH (k:="group") (ds:=[.tup (pcsD r)]) (fun p hp=>bM (fU hp (by decide))) ?_
  exact(aN (bD (cB rfl rfl))).trans ((aN ((gH (eB (kD rfl))).trans (bE rfl))).trans (vA hS (aR rfl rfl (iD _ _ _)) rfl rfl q))
 | false=>
  by_cases hz:salt=0
  ·subst hz
   obtain⟨ok,t',ds,n',q,e1,e2,e3,e4⟩:=hr false m t (cs++[1]) n 0 h0 (yd5 h1) hs0 hs1 (we6 hft 1)
   have hok:=e3 rfl rfl
   subst hok
   delta zl5
   rw [htk]
   refine⟨true,t',1::ds,n',some (.bl true),some (.bl false),x9,?_,fun _ x=>by rw [show(!false)=true from rfl,set_eq];simpa using e1 rfl x,(nomatch ·),fun _ _=>rfl,xu4 e4 1 (by decide)⟩
   rw [xu6] at q
   have hl:(aY cs).length<sizeLine:=by rw [sE];exact sz1 (Zr (zo9 hft).2 (by decide))
   have ei:aY (cs++[1])=aY cs++[.int 1]:=by rw [zc5];rfl
   have ap:cE (dA 4 (fP 4 bK (fC (.int 1))) (aA (fC (.int 1)) aE) cT) [some S,R,some (.bl false),some (.int m),some (sD t cs n),some (.int 0),some (pcD (.group r)),some (.bl true),some (.bl false),x9]=some (.nx,[some S,R,some (.bl false),some (.int m),some (sD t (cs++[1]) n),some (.int 0),some (pcD (.group r)),some (.bl true),some (.bl false),x9]):=by
    unfold sD
    rw [ei]
    simp [cE,dA,fP,bK,fC,kF,yy2,aA,aE,fO,cT,hl]
   refine uH (ok:=true) (k:="group") (ds:=[.tup (pcsD r)]) (fun p hp=>bM (fU hp (by decide))) ?_
   exact(aN (bD (cB rfl rfl))).trans ((aN ((gH (eB (iV rfl rfl))).trans ((bM rfl).trans ap))).trans (vA hS (aR rfl rfl (iD _ _ _)) rfl rfl q))
  ·have hp:0<salt:=by omega
   obtain⟨d,qd,d0,d1⟩:=hN t cs n 2 salt (zo9 hft).1 hs0 (Int.lt_of_le_of_lt hs1 (by decide)) (by decide) (zo9 hft).2
   obtain⟨ok,t',ds,n',q,e1,e2,e3,e4⟩:=hr (decide (d=0)) m t (cs++[d]) (n+1) salt h0 (yd5 h1) hs0 hs1 (yk4 hft d)
   have se:∀x,cL (!false) m (.group r) (d::ds++x) t=setR (!decide (d=0)) m r (ds++x) t:=fun x=>by
    rw [show(!false)=true from rfl,set_eq]
    rcases(bit d0 d1) with rfl|rfl<;>simp
   delta zl5
   rw [htk]
   refine⟨ok,t',d::ds,n',some (.bl ok),some (.bl (decide (d=0))),x9,?_,fun h x=>by rw [se];exact e1 h x,fun h x=>by rw [se];exact e2 h x,fun h=>absurd h hz,ya5 e4 d ⟨d0,Int.lt_trans d1 (by decide)⟩⟩
   rw [xu6] at q
   have qd':GN [S,sD t cs n,.int salt,.int 2]=some (.int d,[S,sD t (cs++[d]) (n+1),.int salt,.int 2]):=qd
   have dr:aU 8 (fE2 dEq (fIO [.im (aB 0),.io 4,.im (aB 5),.im (fC (.int 2))] GN) (fC (.int 0))) [some S,R,some (.bl false),some (.int m),some (sD t cs n),some (.int salt),some (pcD (.group r)),some (.bl true),some (.bl false),x9]=some (.nx,[some S,R,some (.bl false),some (.int m),some (sD t (cs++[d]) (n+1)),some (.int salt),some (pcD (.group r)),some (.bl true),some (.bl (decide (d=0))),x9]):=by
    unfold aU fE2
    rw [sA (dU (f:=aB 0) rfl hS (pA (j:=4) rfl (dU (f:=aB 5) rfl rfl (dU (f:=fC (.int 2)) rfl rfl gM)))) qd' rfl]
    rfl
   have gt:dS (jE (fT (aB 2))) (fB (f2 dGt (aB 5) (fC (.int 0)))) [some S,R,some (.bl false),some (.int m),some (sD t cs n),some (.int salt),some (pcD (.group r)),some (.bl true),some (.bl false),x9]=some true:=iV rfl (dI (aR rfl rfl (show some (D.bl (decide (0<salt)))=_ by rw [Zk hp])))
   refine uH (k:="group") (ds:=[.tup (pcsD r)]) (fun p hp=>bM (fU hp (by decide))) ?_
   exact(aN (bD (cB rfl rfl))).trans ((aN ((bM gt).trans dr)).trans (vA hS (aR rfl rfl (iD _ _ _)) rfl rfl q))
theorem wr3{m k:Int}{x:Nat}(h:m+12*((x+1:Nat):Int)<=200)(hk:k<=12):m+k+12*(x:Int)<=200:=by omega
theorem xu7{GN GS:tz7}{k:Int}{r:List Pc}(hS:S.imm=true)(hk:0<=k/\k<=12)(hr:zl4 S GS r):yn4 S GN GS (.hang k r):=by
 intro R flat m t cs n salt x7 x8 x9 h0 h1 hs0 hs1 hft
 have hd:dJ (.hang k r)=depR r+1:=by rw [dJ]
 have htk:(cU (.hang k r)).length=(toksR r).length+2:=by simp [cU]
 have pi:=pcs_imm r
 rw [hd] at h1
 rw [htk] at hft
 obtain⟨ok,t',ds,n',q,e1,e2,e3,e4⟩:=hr flat (m+k) t cs n salt (Int.add_nonneg h0 hk.1) (wr3 h1 hk.2) hs0 hs1 (zo8 hft (ZC _ 2))
 have se:∀cs' t0,cL (!flat) m (.hang k r) cs' t0=setR (!flat) (m+k) r cs' t0:=fun cs' t0=>by rw [cL]
 delta zl5
 rw [htk]
 refine⟨ok,t',ds,n',some (.bl ok),x8,x9,?_,fun h x=>by rw [se];exact e1 h x,fun h x=>by rw [se];exact e2 h x,e3,zh0 e4 (ZC _ 2)⟩
 refine uH (k:="hang") (ds:=[.int k,.tup (pcsD r)]) (fun p hp=>(gH (eB (fU hp (by decide)))).trans (bM (fU hp (by decide)))) ?_
 exact vA hS (aR rfl rfl (yi8 _ _ _ _)) rfl (aR rfl (aR rfl rfl (iD _ _ _)) rfl) q
theorem yk6:∀{rs:List (List Pc)} {i:Nat} {r:List Pc},rs[i]? =some r->(rowsD rs)[i]? =some (.tup (pcsD r))
 |[],i,_,h=>by simp at h
 |q::rs,0,_,h=>by simp at h;subst h;rfl
 |q::rs,i+1,_,h=>by show(rowsD rs)[i]? =_;exact yk6 (by simpa using h)
theorem yz0{GN GS:tz7}{rs:List (List Pc)}(hS:S.imm=true)(hN:zQ S GN)(hl:0<rs.length/\rs.length<=4)(hr:∀r∈rs,zl4 S GS r):yn4 S GN GS (.either rs):=by
 intro R flat m t cs n salt x7 x8 x9 h0 h1 hs0 hs1 hft
 have hd:dJ (.either rs)=depRs rs+1:=by rw [dJ]
 have htk:(cU (.either rs)).length=(toksRows rs).length+2:=by simp [cU]
 rw [hd] at h1
 rw [htk] at hft
 obtain⟨s',hs',hs2,hs3⟩:∃s':Int,salt+9*(if decide (salt=0)=true then 1 else 0)=s'/\0<=s'/\s'<1000:=by
  refine⟨_,rfl,?_,?_⟩<;>by_cases h:salt=0<;>simp [h]<;>omega
 obtain⟨d,qd,d0,d1⟩:=hN t cs n rs.length s' (zo9 hft).1 hs2 hs3 hl.1 (zo9 hft).2
 obtain⟨r,hg⟩:∃r,rs[d.toNat]? =some r:=⟨_,Zo (by omega)⟩
 have hdr:=sF hg
 have htr:=wO (ZG hg)
 have pi:=pcs_imm r
 obtain⟨ok,t',ds,n',q,e1,e2,e3,e4⟩:=hr r (ZG hg) flat m t (cs++[d]) (n+1) salt h0 (yk5 (yd5 h1) hdr) hs0 hs1 (zo8 (yk4 hft d) htr)
 have se:∀x,cL (!flat) m (.either rs) (d::ds++x) t=setR (!flat) m r (ds++x) t:=fun x=>by
  rw [cL.eq_def]
  simp only [ZN]
  rw [if_pos d0,sB hg]
 delta zl5
 rw [htk]
 refine⟨ok,t',d::ds,n',some (.bl ok),x8,some (.int d),?_,fun h x=>by rw [se];exact e1 h x,fun h x=>by rw [se];exact e2 h x,e3,ya5 (zh0 e4 htr) d ⟨d0,Int.lt_of_lt_of_le d1 (Wa.mpr hl.2)⟩⟩
 rw [xu6] at q
 have qx:atI (rowsD rs) d=some (.tup (pcsD r)):=by
  have:=jY (yk6 hg)
  rwa [Wm d0] at this
 have hrl:(rowsD rs).length=rs.length:=kL rs
 have hmul:pO 9 (if decide (salt=0)=true then 1 else 0)=true:=by by_cases h:salt=0<;>simp [h]<;>decide
 have hmul':iK (.int 9) (.int (if decide (salt=0)=true then 1 else 0))=some (.int (9*(if decide (salt=0)=true then 1 else 0))):=by rw [iK,if_pos hmul]
 have hm2:f2 cD (aB 5) (f2 iK (fC (.int 9)) (aG oJ (aA (f2 dEq (aB 5) (fC (.int 0))) aE))) [some S,R,some (.bl flat),some (.int m),some (sD t cs n),some (.int salt),some (.tup [.str "either",.tup (rowsD rs)]),some (.bl true),x8,x9]=some (.int s'):=by
  rw [<-hs']
  refine aR rfl (aR rfl (d:= .int (9*(if decide (salt=0)=true then 1 else 0))) ?_ hmul') rfl
  exact aS (aD (aR rfl rfl rfl) rfl) rfl
 have ln:aG cM (aA (f2 dIx (aB 6) (fC (.int 1))) aE) [some S,R,some (.bl flat),some (.int m),some (sD t cs n),some (.int salt),some (.tup [.str "either",.tup (rowsD rs)]),some (.bl true),x8,x9]=some (.int rs.length):=by
  rw [<-hrl]
  exact aS (aD (aR rfl rfl (iD _ _ _)) rfl) rfl
 have dr:aU 9 (fIO [.im (aB 0),.io 4,.im (f2 cD (aB 5) (f2 iK (fC (.int 9)) (aG oJ (aA (f2 dEq (aB 5) (fC (.int 0))) aE)))),.im (aG cM (aA (f2 dIx (aB 6) (fC (.int 1))) aE))] GN) [some S,R,some (.bl flat),some (.int m),some (sD t cs n),some (.int salt),some (.tup [.str "either",.tup (rowsD rs)]),some (.bl true),x8,x9]=some (.nx,[some S,R,some (.bl flat),some (.int m),some (sD t (cs++[d]) (n+1)),some (.int salt),some (.tup [.str "either",.tup (rowsD rs)]),some (.bl true),x8,some (.int d)]):=by
  unfold aU
  rw [sA (dU (f:=aB 0) rfl hS (pA (j:=4) rfl (dU hm2 rfl (dU ln rfl gM)))) qd rfl]
  rfl
 refine uH (k:="either") (ds:=[.tup (rowsD rs)]) (fun p hp=>(gH (eB (fU hp (by decide)))).trans ((gH (eB (fU hp (by decide)))).trans (bM (fU hp (by decide))))) ?_
 exact(aN dr).trans (vA hS (aR (aR rfl rfl (iD _ _ _)) rfl qx) rfl rfl q)
theorem xl3{GN GS:tz7}{l:Leaf}(hl:eV l):yn4 S GN GS (.leaf l):=by
 intro R flat m t cs n salt x7 x8 x9 h0 h1 hs0 hs1 hft
 have hd:dJ (.leaf l)=0:=by rw [dJ]
 have htk:(cU (.leaf l)).length=1:=by simp [cU]
 rw [hd] at h1
 rw [htk] at hft
 obtain⟨ok,t',q,e1,e2,e3⟩:=xl1 (t:=t) (cs:=cs) (n:=n) (flat:=flat) hl h0 (by omega) (Zr (ZC _ _) hft.2.2)
 delta zl5
 rw [htk]
 refine⟨ok,t',[],n,some (.bl ok),x8,x9,?_,fun h x=> ?_,fun h x=> ?_,fun _ hf=> ?_,⟨⟨ZC _ _,e3,ZL _⟩,fun _ h=>absurd h (ZJ)⟩⟩
 ·rw [Zi]
  obtain⟨k,ds,el,ek⟩:∃k ds,bF l= .tup (.str (k:String)::ds)/\(decide (k="group")=false/\decide (k="hang")=false/\decide (k="either")=false):=by
   cases l with
   |word x=>exact⟨"word",_,rfl,by decide⟩
   |gap x=>exact⟨"gap",_,rfl,by decide⟩
   |fin=>exact⟨"end",_,rfl,by decide⟩
   |stop c=>exact⟨"stop",_,rfl,by decide⟩
  have li:=yG l
  show rP GN GS [some S,R,some (.bl flat),some (.int m),some (sD t cs n),some (.int salt),some (bF l),x7,x8,x9]=some (_,[some S,R,some (.bl flat),some (.int m),some (sD t' cs n),some (.int salt),some (bF l),some (.bl ok),x8,x9])
  rw [el] at q li|-
  exact uH (fun p hp=>(gH (eB (fU hp ek.1))).trans ((gH (eB (fU hp ek.2.1))).trans (gH (eB (fU hp ek.2.2))))) (yk3 (sA (dU (f:=aB 6) rfl li (dU (f:=aB 2) rfl rfl (dU (f:=aB 3) rfl rfl (pA (j:=4) rfl gM)))) q rfl))
 ·obtain⟨w,hw,rfl⟩:=e1 h
  rw [cL,hw];rfl
 ·rw [cL,(e2 h).1];rfl
 ·cases ok with
  |true=>rfl
  |false=>have:=(e2 rfl).2;rw [hf] at this;cases this
theorem xl4{GN GS:tz7}{k:Nat}(hS:S.imm=true)(hN:zQ S GN)(hG:∀r,depR r<k->okR r->zl4 S GS r){p:Pc}(hd:dJ p<=k)(ho:okP p):yn4 S GN GS p:=by
 cases p with
 |leaf l=>exact xl3 ho
 |group r=>rw [dJ] at hd;exact xl2 hS hN (hG r (by omega) ho)
 |hang n r=>rw [dJ] at hd;exact xu7 hS ho.1 (hG r (by omega) ho.2)
 |either rs=>
  rw [dJ] at hd
  have ho':(2<=rs.length/\rs.length<=4)/\okRs rs:=ho
  refine yz0 hS hN ⟨by omega,ho'.1.2⟩ fun r hr=> ?_
  obtain⟨i,hi⟩:=YC hr
  have:=sF hi
  exact hG r (by omega) (yL ho'.2 hi)
def yn5(S:D)(GN GS:tz7)(R:Option D)(flat:Bool)(m salt:Int)(r:List Pc)(t:Str)(cs:List Int)(n:Nat)(x6 x7 x8 x9:Option D):Prop:=∃ok t' ds n' y6 y7 y8 y9,cO 6 (rP GN GS) (pcsD r) [some S,R,some (.bl flat),some (.int m),some (sD t cs n),some (.int salt),x6,x7,x8,x9]=some (if ok=true then .nx else .ret (.bl false),[some S,R,some (.bl flat),some (.int m),some (sD t' (cs++ds) n'),some (.int salt),y6,y7,y8,y9])/\
   (ok=true->∀x,setR (!flat) m r (ds++x) t=some (x,t'))/\(ok=false->∀x,setR (!flat) m r (ds++x) t=none)/\(salt=0->flat=false->ok=true)/\rC n n' t.length t'.length ds (toksR r).length
theorem yk7{GN GS:tz7}{k:Nat}{R:Option D}{flat:Bool}{m salt:Int}(hS:S.imm=true)(hN:zQ S GN)(hG:∀r,depR r<k->okR r->zl4 S GS r)(h0:0<=m)(hs0:0<=salt)(hs1:salt<=900):∀(r:List Pc) (t:Str) (cs:List Int) (n:Nat) (x6 x7 x8 x9:Option D),depR r<=k->okR r->
  m+12*depR r<=200->Fit n cs.length t.length (toksR r).length->yn5 S GN GS R flat m salt r t cs n x6 x7 x8 x9
 |[],t,cs,n,x6,x7,x8,x9,_,_,_,_=>show yn5 S GN GS R flat m salt [] t cs n x6 x7 x8 x9 by delta yn5;exact⟨true,t,[],n,x6,x7,x8,x9,by rw [Zi];rfl,fun _ x=>by rw [setR];rfl,(nomatch ·),fun _ _=>rfl,⟨⟨Z7 _,Z7 _,Z7 _⟩,fun _ h=>absurd h (ZJ)⟩⟩
 | p::r,t,cs,n,x6,x7,x8,x9,hd,ho,h1,hft=>by
  rw [okR] at ho
  rw [depR] at hd h1
  have htk:(toksR (p::r)).length=(cU p).length+(toksR r).length:=by rw [toksR,Z2]
  rw [htk] at hft
  obtain⟨ok,t1,d1,n1,y7,y8,y9,q,e1,e2,e3,e4⟩:=xl4 hS hN hG (p:=p) (Zr (X8 _ _) hd) ho.1 R flat m t cs n salt x7 x8 x9 h0 (yk5 h1 (X8 _ _)) hs0 hs1 (zo8 hft (ZC _ _))
  have st:∀(Y:Fl×PSt),rP GN GS [some S,R,some (.bl flat),some (.int m),some (sD t cs n),some (.int salt),some (pcD p),x7,x8,x9]=some Y->cO 6 (rP GN GS) (pcsD (p::r)) [some S,R,some (.bl flat),some (.int m),some (sD t cs n),some (.int salt),x6,x7,x8,x9]=(match Y with
    |(.nx,p)=>cO 6 (rP GN GS) (pcsD r) p
    |(.ct,p)=>cO 6 (rP GN GS) (pcsD r) p
    |(.bk,p)=>some (.nx,p)
    |(.ret d,p)=>some (.ret d,p)):=fun Y hY=>by
   show cO 6 _ (pcD p::pcsD r) _=_
   rw [cO]
   show((rP GN GS [some S,R,some (.bl flat),some (.int m),some (sD t cs n),some (.int salt),some (pcD p),x7,x8,x9]).bind _)=_
   rw [hY];rfl
  cases ok with
  |false=>
   delta yn5
   rw [htk]
   refine⟨false,t1,d1,n1,_,y7,y8,y9,st _ q,(nomatch ·),fun _ x=>by rw [setR,e2 rfl x];rfl,fun a b=>(by have:=e3 a b;cases this),zh0 e4 (ZC _ _)⟩
  |true=>
   obtain⟨ok,t2,d2,n2,z6,z7,z8,z9,q2,f1,f2,f3,f4⟩:=yk7 (R:=R) (flat:=flat) hS hN hG h0 hs0 hs1 r t1 (cs++d1) n1 (some (pcD p)) y7 y8 y9 (Zr (YX _ _) hd) ho.2 (yk5 h1 (YX _ _)) (xu5 hft e4)
   rw [Zh] at q2
   delta yn5
   rw [htk]
   refine⟨ok,t2,d1++d2,n2,z6,z7,z8,z9,(st _ q).trans q2,fun h x=> ?_,fun h x=> ?_,f3,yy9 e4 f4⟩
   ·rw [setR,Zh,e1 rfl];exact f1 h x
   ·rw [setR,Zh,e1 rfl];exact f2 h x
def oP(GN:tz7):Nat->tz7
 |0=>fun _=>none
 |n+1=>gE 6 4 (bI [false,false,false,false,true,false]) (zK GN (oP GN n) sX)
theorem zv0{GN:tz7}(hS:S.imm=true)(hN:zQ S GN):∀(k:Nat) (r:List Pc),depR r<k->okR r->zl4 S (oP GN k) r
 |0,_,h,_=>absurd h (Yq _)
 | k+1,r,hd,ho=>fun flat m t cs n salt h0 h1 hs0 hs1 hft=>by
  obtain⟨ok,t',ds,n',y6,y7,y8,y9,q,e⟩:=yk7 (GS:=oP GN k) (k:=k) (R:=some (.tup (pcsD r))) (flat:=flat) hS hN (fun s hs hk=>zv0 hS hN k s hs hk) h0 hs0 hs1 r t cs n none none none none (Ww hd) ho h1 hft
  refine⟨ok,t',ds,n',?_,e⟩
  show gE 6 4 _ (zK GN (oP GN k) sX) _=_
  have s1:eP 6 (eC (aB 1)) (rP GN (oP GN k)) [some S,some (.tup (pcsD r)),some (.bl flat),some (.int m),some (sD t cs n),some (.int salt),none,none,none,none]=_:=q
  have z:zK GN (oP GN k) sX ([S,.tup (pcsD r),.bl flat,.int m,sD t cs n,.int salt].map some++List.replicate 4 none)=some (.ret (.bl ok),[some S,some (.tup (pcsD r)),some (.bl flat),some (.int m),some (sD t' (cs++ds) n'),some (.int salt),y6,y7,y8,y9]):=by
   cases ok with
   |true=>exact(aN s1).trans rfl
   |false=>exact dR s1
  unfold gE
  refine(if_pos rfl).trans ?_
  rw [z];rfl
end
section
variable{S:D}{GN:tz7}
abbrev xT(GS:tz7):tz6:=gP 3 1 (zq5 GS)
theorem yk8{GS:tz7}{r:List Pc}{salt:Int}(hS:S.imm=true)(hL:zl4 S GS r)(hd:depR r<=16)(hl:(toksR r).length<=800)(h0:0<=salt)(h1:salt<=900):
  ∃C t,xT GS [S,.tup (pcsD r),.int salt]=some (.tup [.str t,.tup (aY C)])/\setR true 0 r C ⟨#[]⟩=some ([],t)/\C.length<=(toksR r).length/\t.length<=900000/\∀c∈C,0<=c/\c<4:=by
 have pi:=pcs_imm r
 have run:∀s:Int,0<=s->s<=900->∃ok t' ds n',GS [S,.tup (pcsD r),.bl false,.int 0,sD ⟨#[]⟩ [] 0,.int s]=some (.bl ok,[S,.tup (pcsD r),.bl false,.int 0,sD t' ds n',.int s])/\(ok=true->setR true 0 r ds ⟨#[]⟩=some ([],t'))/\(s=0->ok=true)/\ds.length<=(toksR r).length/\t'.length<=900000/\∀c∈ds,0<=c/\c<4:=fun s s0 s1=>by
  obtain⟨ok,t',ds,n',q,e1,e2,e3,⟨_,e5,e6⟩,e7⟩:=hL false 0 ⟨#[]⟩ [] 0 s (Yf _) (by omega) s0 s1 ⟨by omega,by show 0+_<=_;omega,by show 0+_<=_;omega⟩
  exact⟨ok,t',ds,n',q,fun h=>by have:=e1 h [];rwa [Zi] at this,fun h=>e3 h rfl,e6,(by have e5':t'.length<=0+201*(toksR r).length:=e5;omega),e7⟩
 have st0:cZ (aA (fC (.str "")) (aA (cZ aE) (aA (fC (.int 0)) aE)))=fun _=>some (sD ⟨#[]⟩ [] 0):=by
  funext p
  refine fJ (aD rfl (aD (d:= .lst true []) rfl (aD rfl rfl))) (by simp)|>.trans ?_
  rw [xs7];rfl
 have fin:∀(t':Str) (ds:List Int) (n':Nat),bX (aI (bG (aA (bB (f2 dIx (aB 3) (fC (.int 0)))) (aA (aG eT (aA (f2 dIx (aB 3) (fC (.int 1))) aE)) aE)))) [some S,some (.tup (pcsD r)),some (.int salt),some (sD t' ds n')]=some (.ret (.tup [.str t',.tup (aY ds)]),[some S,some (.tup (pcsD r)),some (.int salt),some (sD t' ds n')]):=fun t' ds n'=>by
  have hi:=kM ds
  refine cI ?_
  simp! [sD,hi]
 have call:∀(s:Int) (f5:tz2) (ok:Bool) (t':Str) (ds:List Int) (n':Nat),f5 [some S,some (.tup (pcsD r)),some (.int salt),some (sD ⟨#[]⟩ [] 0)]=some (.int s)->GS [S,.tup (pcsD r),.bl false,.int 0,sD ⟨#[]⟩ [] 0,.int s]=some (.bl ok,[S,.tup (pcsD r),.bl false,.int 0,sD t' ds n',.int s])->
   fIO [.im (aB 0),.im (aB 1),.im (fC (.bl false)),.im (fC (.int 0)),.io 3,.im f5] GS [some S,some (.tup (pcsD r)),some (.int salt),some (sD ⟨#[]⟩ [] 0)]=some (.bl ok,[some S,some (.tup (pcsD r)),some (.int salt),some (sD t' ds n')]):=fun s f5 ok t' ds n' h5 q=>by
  generalize sD ⟨#[]⟩ [] 0=s0 at h5 q|-
  generalize sD t' ds n'=s1 at q|-
  simp [fIO,cJ,bB,aB,fC,hS,pi,D.imm,D.imms,h5,q,iX]
 obtain⟨ok,t',ds,n',q,e1,_,e6⟩:=run salt h0 h1
 have s0:∀x,aU 3 (aI (cZ (aA (fC (.str "")) (aA (cZ aE) (aA (fC (.int 0)) aE))))) [some S,some (.tup (pcsD r)),some (.int salt),x]=some (.nx,[some S,some (.tup (pcsD r)),some (.int salt),some (sD ⟨#[]⟩ [] 0)]):=fun x=>by rw [st0];rfl
 have c1:fTE (fIO [.im (aB 0),.im (aB 1),.im (fC (.bl false)),.im (fC (.int 0)),.io 3,.im (aB 2)] GS) [some S,some (.tup (pcsD r)),some (.int salt),some (sD ⟨#[]⟩ [] 0)]=some (ok,[some S,some (.tup (pcsD r)),some (.int salt),some (sD t' ds n')]):=by
  unfold fTE
  rw [call salt (aB 2) ok t' ds n' rfl q];rfl
 cases ok with
 |true=>exact⟨ds,t',fS rfl ((aN (s0 _)).trans (dR ((yd2 c1).trans (fin t' ds n')))),e1 rfl,e6⟩
 | false=>
  obtain⟨ok2,t2,d2,n2,q2,f1,f2,f6⟩:=run 0 (Yf _) (by decide)
  have hok:=f2 rfl
  subst hok
  have c2:cE (fIO [.im (aB 0),.im (aB 1),.im (fC (.bl false)),.im (fC (.int 0)),.io 3,.im (fC (.int 0))] GS) [some S,some (.tup (pcsD r)),some (.int salt),some (sD ⟨#[]⟩ [] 0)]=some (.nx,[some S,some (.tup (pcsD r)),some (.int salt),some (sD t2 d2 n2)]):=by
   unfold cE
   rw [call 0 (fC (.int 0)) true t2 d2 n2 rfl q2];rfl
  exact⟨d2,t2,fS rfl ((aN (s0 _)).trans ((aN ((gH c1).trans rfl)).trans ((aN (s0 _)).trans ((aN c2).trans (fin t2 d2 n2))))),f1 rfl,f6⟩
end
theorem pL:ixN 4 3=some 3:=by decide
theorem pM:ixN 4 2=some 2:=by decide
theorem jD{α:Type}(a b c d:α):atI [a,b,c,d] 3=some d:=rfl
abbrev zr1:tz7:=gE 1 5 (bI [true]) sQ
theorem wt6{N:List D}{a b c d:D}:nS [1,2,3,4] (dA 0 bK aE pR) [some (.lst true (N++[.lst true [a,b,c,d]])),none,none,none,none,none]=some (.nx,[some (.lst true N),some a,some b,some c,some d,none]):=by
 simp! [fKs,pR,eC,mK,lU,iA,fSl,dL,eU,dX,nS,zF,pS,cS,dP,eR,eS,nR,L2.fD,pL,pM,jD]
theorem kd1{p:PSt}{k w:String}{b:Bool}(hp:p[1]? =some (some (.str k)))(h:decide (k=w)=b):fB (f2 dEq (aB 1) (fC (.str w))) p=some b:=by
 refine dI (aR (oZ hp) rfl ?_)
 show some (D.bl (decide ((k:Str)=(w:Str))))=_
 rw [<-h]
 congr 2
 exact Yz.mpr (by rw [gD])
theorem xu8{f g:Gm}{fs:List Gm}(hk:1<=f.kd/\f.kd<=3)(hf:f.kd≠3->f.full=[])(hfl:f.full.length<=3)(hg:g.parts.length<=900):zr1 [.lst true (cH (f::g::fs))]=some (.non,[.lst true (cH (lQ g (gS f)::fs))]):=by
 obtain⟨kd,n,full,parts⟩:=f
 have hfl':full.length<=3:=hfl
 have hz:(pcsD g.parts).length<sizeLine:=by rw [uV];exact sz1 (by omega)
 have s2:∀K x0,aU 3 (aI (f2 cD (aB 3) (cZ (aA (aG eT (aA (aB 4) aE)) aE)))) [x0,some K,some (.int n),some (.lst true (rowsD full)),some (.lst true (pcsD parts)),none]=some (.nx,[x0,some K,some (.int n),some (.lst true (rowsD (full++[parts]))),some (.lst true (pcsD parts)),none]):=fun K x0=>by
  refine bD (aR rfl (fJ (aD (aS (aD rfl rfl) (if_pos (pcs_imm parts))) rfl) (Z3 rfl)) ?_)
  rw [zc3]
  refine xi4 (rows_imm full) (rows_imm [parts]) ?_
  rw [kL];show full.length+1<=1000;omega
 have s4:∀K x0 x4 (r0:List Pc) rs,aU 5 (aI (bG (aA (fC (.str "group")) (aA (bB (f2 dIx (aB 3) (fC (.int 0)))) aE)))) [x0,some K,some (.int n),some (.lst true (rowsD (r0::rs))),x4,none]=some (.nx,[x0,some K,some (.int n),some (.lst true (rowsD (r0::rs))),x4,some (pcD (.group r0))]):=fun K x0 x4 r0 rs=>
  bD (dM (aD rfl (aD (cB (aR rfl rfl (mG _ _)) (pcs_imm r0)) rfl)) (xF (.group r0)) (Z3 rfl))
 have s7:∀(pc:Pc) K x3 x4,cE (dA 0 (fP 0 (fP 0 bK (dX (fC (.int 1)))) (fC (.int 3))) (aA (bB (aB 5)) aE) cT) [some (.lst true (cH fs++[gmD g])),K,some (.int n),x3,x4,some (pcD pc)]=some (.nx,[some (.lst true (cH fs++[gmD (lQ g pc)])),K,some (.int n),x3,x4,some (pcD pc)]):=fun pc K x3 x4=>by
  have hi:=xF pc
  have e:gmD (lQ g pc)= .lst true [.str (kdS g.kd),.int g.n,.lst true (rowsD g.full),.lst true (pcsD g.parts++[pcD pc])]:=by unfold gmD lQ;rw [yH];rfl
  rw [e]
  unfold gmD
  generalize pcD pc=d at hi|-
  simp! [fKs,pR,eC,mK,lU,iA,fSl,dL,eU,dX,nS,zF,pS,cS,dP,eR,eS,nR,L2.fD,pL,pM,jD,hi,hz]
 suffices h:∃q1 q2 q3 q4 q5,sQ [some (.lst true (cH (⟨kd,n,full,parts⟩::g::fs))),none,none,none,none,none]=some (.nx,[some (.lst true (cH fs++[gmD (lQ g (gS ⟨kd,n,full,parts⟩))])),q1,q2,q3,q4,q5]) from by
  obtain⟨q1,q2,q3,q4,q5,hq⟩:=h
  unfold zr1 gE
  refine(if_pos rfl).trans ?_
  show(sQ [some (.lst true (cH (⟨kd,n,full,parts⟩::g::fs))),none,none,none,none,none]).bind _=_
  rw [hq];rfl
 have s1:nS [1,2,3,4] (dA 0 bK aE pR) [some (.lst true (cH (⟨kd,n,full,parts⟩::g::fs))),none,none,none,none,none]=_:=wt6
 have e:kd=1\/kd=2\/kd=3:=by have:1<=kd/\kd<=3:=hk;omega
 unfold sQ
 rw [aN s1,aN (s2 _ _)]
 rcases e with rfl|rfl|rfl
 ·have e1:full=[]:=hf (by simp! [fKs,pR,eC,mK,lU,iA,fSl,dL,eU,dX,nS,zF,pS,cS,dP,eR,eS,nR,L2.fD,pL,pM,jD])
  subst e1
  exact⟨_,_,_,_,_,(aN (bE (kD (kd1 (k:="group") rfl (by decide))))).trans ((aN (s4 _ _ _ parts [])).trans ((aN (bE (kd1 (k:="group") rfl (by decide)))).trans ((aN (bE (kd1 (k:="group") rfl (by decide)))).trans (s7 _ _ _ _))))⟩
 ·have e1:full=[]:=hf (by simp! [fKs,pR,eC,mK,lU,iA,fSl,dL,eU,dX,nS,zF,pS,cS,dP,eR,eS,nR,L2.fD,pL,pM,jD])
  subst e1
  exact⟨_,_,_,_,_,(aN (bE (kD (kd1 (k:="hang") rfl (by decide))))).trans ((aN (s4 _ _ _ parts [])).trans ((aN ((bM (kd1 (k:="hang") rfl (by decide))).trans (bD (dM (aD rfl (aD (cB rfl rfl) (aD (cB (d:= .tup (pcsD parts)) (aR rfl rfl (mG _ _)) (pcs_imm parts)) rfl))) (xF (.hang n parts)) (Z3 rfl))))).trans ((aN (bE (kd1 (k:="hang") rfl (by decide)))).trans (s7 (.hang n parts) _ _ _))))⟩
 ·have fin:∀(r0:List Pc) (rs:List (List Pc)),rO ⟨3,n,full,parts⟩=r0::rs->∃q1 q2 q3 q4 q5,aT (aU 5 (aI (bG (aA (fC (.str "group")) (aA (bB (f2 dIx (aB 3) (fC (.int 0)))) aE))))) (aT (fIf (aV (fB (f2 dEq (aB 1) (fC (.str "hang"))))) (aU 5 (aI (bG (aA (fC (.str "hang")) (aA (bB (aB 2)) (aA (bB (f2 dIx (aB 3) (fC (.int 0)))) aE)))))) bH)
    (aT (fIf (aV (fB (f2 dEq (aB 1) (fC (.str "either"))))) (aU 5 (aI (bG (aA (fC (.str "either")) (aA (aG eT (aA (aB 3) aE)) aE))))) bH) (cE (dA 0 (fP 0 (fP 0 bK (dX (fC (.int 1)))) (fC (.int 3))) (aA (bB (aB 5)) aE) cT)))) [some (.lst true (cH fs++[gmD g])),some (.str "either"),some (.int n),some (.lst true (rowsD (r0::rs))),some (.lst true (pcsD parts)),none]=some (.nx,[some (.lst true (cH fs++[gmD (lQ g (gS ⟨3,n,full,parts⟩))])),q1,q2,q3,q4,q5]):=fun r0 rs he=>by
   have hs:gS ⟨3,n,full,parts⟩= .either (r0::rs):=by rw [<-he];rfl
   rw [hs]
   exact⟨_,_,_,_,_,(aN (s4 _ _ _ r0 rs)).trans ((aN (bE (kd1 rfl (by decide)))).trans ((aN ((bM (kd1 rfl (by decide))).trans (bD (dM (aD rfl (aD (aS (aD rfl rfl) (if_pos (rows_imm (r0::rs)))) rfl)) (xF (.either (r0::rs))) (Z3 rfl))))).trans (s7 (.either (r0::rs)) _ _ _)))⟩
  have lt:∀x0 x4,fB (f2 dLt (aG cM (aA (aB 3) aE)) (fC (.int 2))) [x0,some (.str "either"),some (.int n),some (.lst true (rowsD (full++[parts]))),x4,none]=some (decide ((((full++[parts]).length:Nat):Int)<2)):=fun x0 x4=>by
   refine dI (aR (aS (aD rfl rfl) rfl) rfl ?_)
   show some (D.bl (decide ((((rowsD (full++[parts])).length:Nat):Int)<2)))=_
   rw [kL]
  cases full with
  | nil=>
   have s3:∀x0 x4,fIf (aV (dS (fB (f2 dEq (aB 1) (fC (.str "either")))) (fB (f2 dLt (aG cM (aA (aB 3) aE)) (fC (.int 2)))))) (aU 3 (aI (f2 cD (aB 3) (cZ (aA (bG (aA (bG (aA (fC (.str "word")) (aA (fC (.str "or")) aE))) aE)) aE))))) bH [x0,some (.str "either"),some (.int n),some (.lst true (rowsD ([]++[parts]))),x4,none]=some (.nx,[x0,some (.str "either"),some (.int n),some (.lst true (rowsD [parts,iC])),x4,none]):=fun x0 x4=>
    (bM (iV (kd1 rfl (by decide)) (lt _ _))).trans (bD (aR rfl (fJ (aD (dM (aD (dM (aD rfl (aD rfl rfl)) rfl (Z3 rfl)) rfl) rfl (Z3 rfl)) rfl) (Z3 rfl)) (xi4 (rows_imm [parts]) (rows_imm [iC]) (Z3 rfl))))
   show ∃q1 q2 q3 q4 q5,aT _ _ [some (.lst true (cH fs++[gmD g])),some (.str "either"),some (.int n),some (.lst true (rowsD ([]++[parts]))),some (.lst true (pcsD parts)),none]=_
   rw [aN (s3 _ _)]
   exact fin parts [iC] rfl
  |cons r rs=>
   have lt':=lt (some (.lst true (cH fs++[gmD g]))) (some (.lst true (pcsD parts)))
   rw [Za (by simp;omega)] at lt'
   show ∃q1 q2 q3 q4 q5,aT _ _ [some (.lst true (cH fs++[gmD g])),some (.str "either"),some (.int n),some (.lst true (rowsD (r::rs++[parts]))),some (.lst true (pcsD parts)),none]=_
   rw [aN (bE (iV (kd1 rfl (by decide)) lt'))]
   exact fin r (rs++[parts]) rfl
def ifR(GM:tz6)(GS:tz7)(GL:tz6):tz1:=
 (fIf (aV (dS (fB (f2 dLt (aB 7) (fC (.int 4)))) (fB (f2 dLe (aG cM (aA (aB 4) aE)) (aB 3)))))
  (aT (aU 9 (aI (f2 dIx (cZ (fKs [.str "group",.str "group",.str "hang",.str "either"])) (aB 7))))
 (cE (dA 4 bK (aA (cZ (aA (bB (aB 9)) (aA (f2 dIx (cZ (aA (fC (.int 1)) (aA (fC (.int 2)) (aA (fC (.int 4)) (aA (f2 cR (f2 eM (aB 6) (fC (.int 13))) (fC (.int 13))) aE))))) (f2 cR (f2 eM (aB 6) (fC (.int 169))) (fC (.int 4)))) (aA (cZ aE) (aA (cZ aE) aE))))) aE) cT)))
  (fIf (aV (dS (fB (f2 dEq (aB 7) (fC (.int 4)))) (fB (f2 dGt (aG cM (aA (aB 4) aE)) (fC (.int 1))))))
  (cE (fIO [.io 4] GS))
  (fIf (aV (dS (fB (f2 dLt (aB 7) (fC (.int 7)))) (dS (fB (f2 dEq (aB 8) (fC (.str "either")))) (fB (f2 dLt (aG cM (aA (f2 dIx (f2 dIx (aB 4) (dX (fC (.int 1)))) (fC (.int 2))) aE)) (fC (.int 3)))))))
  (aT (cE (dA 4 (fP 4 (fP 4 bK (dX (fC (.int 1)))) (fC (.int 2))) (aA (aG eT (aA (f2 dIx (f2 dIx (aB 4) (dX (fC (.int 1)))) (fC (.int 3))) aE)) aE) cT))
 (dL 4 (fP 4 bK (dX (fC (.int 1)))) (fC (.int 3)) (cZ aE)))
  (cE (dA 4 (fP 4 (fP 4 bK (dX (fC (.int 1)))) (fC (.int 3))) (aA (aG GL (aA (aG GM (aA (aB 0) (aA (aB 5) (aA (fC (.int 32)) aE)))) aE)) aE) cT)))))
def zR(GM:tz6)(GS:tz7)(GL:tz6):tz1:=
   (aT (aU 6 (aI (aG GM (aA (aB 0) (aA (aB 5) (aA (fC (.int 31)) aE))))))
 (aT (aU 7 (aI (f2 cR (aB 6) (fC (.int 13)))))
 (aT (aU 8 (aI (bB (f2 dIx (f2 dIx (aB 4) (dX (fC (.int 1)))) (fC (.int 0))))))
 (ifR GM GS GL))))
section
variable{GM:tz6}{GS:tz7}{GL:tz6}{S:D}{x1 x2 x6 x7 x8 x9:Option D}{nest:Nat}{f:Gm}{fs:List Gm}{i m:Int}
theorem xl5(hm:GM [S,.int i,.int 31]=some (.int m)):zR GM GS GL [some S,x1,x2,some (.int nest),some (.lst true (cH (f::fs))),some (.int i),x6,x7,x8,x9]
  =ifR GM GS GL [some S,x1,x2,some (.int nest),some (.lst true (cH (f::fs))),some (.int i),some (.int m),some (.int (m % 13)),some (.str (kdS f.kd)),x9]:=by
 unfold zR
 refine(aN (bD (aS rfl hm))).trans ?_
 refine(aN (bD (d:= .int (m % 13)) (by simp! [fKs,dL,eU,dX,cS,dP,eR,eS,nR,L2.fD,pL,pM,jD]))).trans ?_
 exact aN (bD (d:= .str (kdS f.kd)) (by simp! [fKs,dL,eU,dX,cS,dP,eR,eS,nR,L2.fD,pL,pM,jD,cH,gmD]))
theorem wl4(a k:Int)(ha:0<=a/\a<=12):∃n:Int,atI [D.int 1,.int 2,.int 4,.int a] (k % 4)=some (.int n)/\0<=n/\n<=12:=by
 have h0:=Zv k (show(4:Int)≠0 by decide)
 have h1:=Zs k (show(0:Int)<4 by decide)
 obtain⟨d,hd,e⟩:=uD [D.int 1,.int 2,.int 4,.int a] (k % 4) h0 (by simpa using h1)
 simp only [Z5,ZJ,YW] at hd
 rcases hd with rfl|rfl|rfl|rfl
 ·exact⟨_,e,by decide,by decide⟩
 ·exact⟨_,e,by decide,by decide⟩
 ·exact⟨_,e,by decide,by decide⟩
 ·exact⟨_,e,ha⟩
theorem we7(m:Int)(h0:0<=m % 13)(h:m % 13<4):∃kd:Nat,atI [D.str (Str.ofString "group"),.str (Str.ofString "group"),.str (Str.ofString "hang"),.str (Str.ofString "either")] (m % 13)=some (.str (kdS kd))/\1<=kd/\kd<=3:=by
 have hn:m % 13=0\/m % 13=1\/m % 13=2\/m % 13=3:=by omega
 rcases hn with e|e|e|e<;>rw [e]
 ·exact⟨1,rfl,by decide,by decide⟩
 ·exact⟨1,rfl,by decide,by decide⟩
 ·exact⟨2,rfl,by decide,by decide⟩
 ·exact⟨3,rfl,by decide,by decide⟩
theorem zp0{a b:Prop}[Decidable a][Decidable b](h:¬(a/\b)):(decide a&&decide b)=false:=by
 by_cases ha:a
 ·rw [Za (fun hb=>h ⟨ha,hb⟩),Bool.and_false]
 ·rw [Za ha,XI]
theorem ys8{a b:Prop}[Decidable a][Decidable b](ha:a)(hb:b):(decide a&&decide b)=true:=by rw [Zk ha,Zk hb];rfl
theorem zp1{f g:tz4}{p:PSt}{a b:Bool}(h1:f p=some a)(h2:g p=some b):dS f g p=some (a&&b):=by
 cases a with
 |true=>exact iV h1 h2
 |false=>exact kD h1
theorem yz1{N:List D}{w:Int}{x0 x5 x6:Option D}:dS (fB (f2 dLt (aB 7) (fC (.int 4)))) (fB (f2 dLe (aG cM (aA (aB 4) aE)) (aB 3))) [x0,x1,x2,some (.int nest),some (.lst true N),x5,x6,some (.int w),x8,x9]=some (decide (w<4)&&decide ((N.length:Int)<=(nest:Int))):=
 zp1 (dI (aR rfl rfl rfl)) (dI (aR (aS (aD rfl rfl) rfl) rfl rfl))
theorem xy1{N:List D}{w:Int}{x0 x3 x5 x6:Option D}:dS (fB (f2 dEq (aB 7) (fC (.int 4)))) (fB (f2 dGt (aG cM (aA (aB 4) aE)) (fC (.int 1)))) [x0,x1,x2,x3,some (.lst true N),x5,x6,some (.int w),x8,x9]=some (decide (w=4)&&decide ((1:Int)<(N.length:Int))):=
 zp1 (dI (aR rfl rfl rfl)) (dI (aR (aS (aD rfl rfl) rfl) rfl rfl))
theorem ys9{p:PSt}{j:Nat}{M:List D}{d:D}(hp:p[j]? =some (some (.lst true (M++[d])))):f2 dIx (aB j) (dX (fC (.int 1))) p=some d:=aR (oZ hp) rfl (show atI (M++[d]) (-1)=_ from L2.fD _ _)
theorem xy2{M R:List D}{w:Int}{k:String}{a b c:D}{x0 x3 x5 x6:Option D}:dS (fB (f2 dLt (aB 7) (fC (.int 7)))) (dS (fB (f2 dEq (aB 8) (fC (.str "either")))) (fB (f2 dLt (aG cM (aA (f2 dIx (f2 dIx (aB 4) (dX (fC (.int 1)))) (fC (.int 2))) aE)) (fC (.int 3))))) [x0,x1,x2,x3,some (.lst true (M++[.lst true [a,b,.lst true R,c]])),x5,x6,some (.int w),some (.str k),x9]=some (decide (w<7)&&(decide (k="either")&&decide ((R.length:Int)<3))):=by
 refine zp1 (dI (aR rfl rfl rfl)) (zp1 (dI (aR rfl rfl ?_)) (dI (aR (aS (aD (aR (ys9 (j:=4) rfl) rfl (yi8 _ _ _ _)) rfl) rfl) rfl rfl)))
 show some (D.bl (decide ((k:Str)=(("either":String):Str))))=_
 congr 2
 exact Yz.mpr (by rw [gD])
theorem xl6{p:PSt}{j:Nat}{M:List D}{k n:Nat}{l:List D}(hp:p[j]? =some (some (.lst true (M++[.lst true l]))))(hk:ixN l.length (k:Int)=some n):fP j (fP j bK (dX (fC (.int 1)))) (fC (.int (k:Int))) p=some [.ix M.length,.ix n]:=by
 have e1:ixN (M++[D.lst true l]).length (-1)=some M.length:=by rw [Z2];exact eR _
 have e2:(M++[D.lst true l])[M.length]? =some (.lst true l):=by simp! [fKs,dL,eU,dX,cS,dP,eR,eS,nR,L2.fD,pL,pM,jD]
 simp! [fKs,dL,eU,dX,cS,dP,eR,eS,nR,L2.fD,pL,pM,jD,hp,e1,e2,hk,dX]
theorem xu9{α:Type}{h:D->Option (α×D)}{M l:List D}{n:Nat}{d d':D}{r:α}(hl:l[n]? =some d)(e:h d=some (r,d')):fO h (.lst true (M++[.lst true l])) [.ix M.length,.ix n]=some (r,.lst true (M++[.lst true (l.set n d')])):=by
 have e2:(M++[D.lst true l])[M.length]? =some (.lst true l):=by simp! [fKs,dL,eU,dX,cS,dP,eR,eS,nR,L2.fD,pL,pM,jD]
 show(((M++[D.lst true l])[M.length]?).bind _)=_
 rw [e2,Z4]
 show(((l[n]?).bind _).bind _)=_
 rw [hl,Z4]
 show(((h d).bind _).bind _)=_
 rw [e]
 show some (r,D.lst true ((M++[D.lst true l]).set M.length _))=_
 rw [eS]
theorem yk9{p:PSt}{j k n:Nat}{M l xs:List D}{fe:tz2}{y:D}(hp:p[j]? =some (some (.lst true (M++[.lst true l]))))(hk:ixN l.length (k:Int)=some n)(hl:l[n]? =some (.lst true xs))(h:fe p=some y)(hz:xs.length<sizeLine):cE (dA j (fP j (fP j bK (dX (fC (.int 1)))) (fC (.int (k:Int)))) (aA fe aE) cT) p=some (.nx,p.set j (some (.lst true (M++[.lst true (l.set n (.lst true (xs++[y])))])))):=by
 refine kW (d:= .non) ?_
 unfold dA
 rw [hp,YA,Z4,xl6 hp hk,Z4,aD h rfl,Z4,xu9 hl (show cT [y] (.lst true xs)=_ from if_pos hz)]
 rfl
theorem yz2{p:PSt}{j k n:Nat}{M l:List D}{fe:tz2}{y:D}(hp:p[j]? =some (some (.lst true (M++[.lst true l]))))(hk:ixN l.length (k:Int)=some n)(h:fe p=some y):dL j (fP j bK (dX (fC (.int 1)))) (fC (.int (k:Int))) fe p=some (.nx,p.set j (some (.lst true (M++[.lst true (l.set n y)])))):=by
 have e1:ixN (M++[D.lst true l]).length (-1)=some M.length:=by rw [Z2];exact eR _
 have e2:(M++[D.lst true l])[M.length]? =some (.lst true l):=by simp! [fKs,dL,eU,dX,cS,dP,eR,eS,nR,L2.fD,pL,pM,jD]
 have ep:fP j bK (dX (fC (.int 1))) p=some [.ix M.length]:=by simp! [fKs,dL,eU,dX,cS,dP,eR,eS,nR,L2.fD,pL,pM,jD,hp,e1,dX]
 unfold dL
 rw [h,Z4,hp,YA,Z4,ep,Z4]
 show((fO (eU (.int (k:Int)) y) (.lst true (M++[.lst true l])) [.ix M.length]).bind _)=_
 have em:fO (eU (.int (k:Int)) y) (.lst true (M++[.lst true l])) [.ix M.length]=some ((),.lst true (M++[.lst true (l.set n y)])):=by
  show(((M++[D.lst true l])[M.length]?).bind _)=_
  rw [e2,Z4]
  show(((ixN l.length (k:Int)).bind _).bind _)=_
  rw [hk]
  show some ((),D.lst true ((M++[D.lst true l]).set M.length _))=_
  rw [eS]
 rw [em];rfl
theorem xl7(hw:m % 13<4)(hl:(f::fs).length<=nest)(hz:(f::fs).length<=900):∃kd n y9,ifR GM GS GL [some S,x1,x2,some (.int nest),some (.lst true (cH (f::fs))),some (.int i),some (.int m),some (.int (m % 13)),x8,x9]
  =some (.nx,[some S,x1,x2,some (.int nest),some (.lst true (cH (⟨kd,n,[],[]⟩::f::fs))),some (.int i),some (.int m),some (.int (m % 13)),x8,y9])/\(1<=kd/\kd<=3)/\0<=n/\n<=12:=by
 have h0:=Zv m (show(13:Int)≠0 by decide)
 have d0:=Zv (m/13) (show(13:Int)≠0 by decide)
 have d1:=Zs (m/13) (show(0:Int)<13 by decide)
 obtain⟨kd,q1,hk1,hk2⟩:=we7 m h0 hw
 obtain⟨n,q2,hn1,hn2⟩:=wl4 (m/13 % 13) (m/169) ⟨d0,Wj d1⟩
 have hz':(cH (f::fs)).length<sizeLine:=by rw [qP];exact sz1 (by omega)
 have hl':((cH (f::fs)).length:Int)<=(nest:Int):=by rw [qP];exact Wa.mpr hl
 refine⟨kd,n,some (.str (kdS kd)),?_,⟨hk1,hk2⟩,hn1,hn2⟩
 have e:cH (⟨kd,n,[],[]⟩::f::fs)=cH (f::fs)++[.lst true [.str (kdS kd),.int n,.lst true [],.lst true []]]:=rfl
 rw [e]
 generalize cH (f::fs)=N at hz' hl'|-
 unfold ifR
 refine(bM (yz1.trans (by rw [ys8 hw hl']))).trans ((aN (bD (aR (fJ rfl (Z3 rfl)) rfl q1))).trans ?_)
 refine kW (d:= .non) ?_
 unfold dA
 rw [aD (fJ (aD (cB (d:= .str (kdS kd)) rfl rfl) (aD (aR (fJ (aD rfl (aD rfl (aD rfl (aD (aR (aR rfl rfl ((dP _ _).trans (if_pos (by decide)))) rfl ((cS _ _).trans (if_pos (by decide)))) rfl)))) (Z3 rfl)) (aR (aR rfl rfl ((dP _ _).trans (if_pos (by decide)))) rfl ((cS _ _).trans (if_pos (by decide)))) q2) (aD (fJ rfl (Z3 rfl)) (aD (fJ rfl (Z3 rfl)) rfl)))) (Z3 rfl)) rfl]
 show((cT [.lst true [.str (kdS kd),.int n,.lst true [],.lst true []]] (.lst true N)).bind _)=_
 rw [show cT [.lst true [.str (kdS kd),.int n,.lst true [],.lst true []]] (.lst true N)=_ from if_pos hz']
 rfl
theorem xl8{g:Gm}(q:GS [.lst true (cH (f::g::fs))]=some (.non,[.lst true (cH (lQ g (gS f)::fs))]))(hw:m % 13=4):
  ifR GM GS GL [some S,x1,x2,some (.int nest),some (.lst true (cH (f::g::fs))),some (.int i),some (.int m),some (.int (m % 13)),x8,x9]
  =some (.nx,[some S,x1,x2,some (.int nest),some (.lst true (cH (lQ g (gS f)::fs))),some (.int i),some (.int m),some (.int (m % 13)),x8,x9]):=by
 have hl:(1:Int)<((cH (f::g::fs)).length:Int):=by rw [qP];simp;omega
 unfold ifR
 exact(gH (eB (yz1.trans (by rw [zp0 (fun z=>by omega)])))).trans ((bM (xy1.trans (by rw [ys8 hw hl]))).trans (kW (sA (pA rfl gM) q rfl)))
theorem yt0(hw:¬(m % 13<4/\(f::fs).length<=nest))(hw4:¬(m % 13=4/\fs≠[])){F1 F2 F3:tz1}:fIf (aV (dS (fB (f2 dLt (aB 7) (fC (.int 4)))) (fB (f2 dLe (aG cM (aA (aB 4) aE)) (aB 3))))) F1 (fIf (aV (dS (fB (f2 dEq (aB 7) (fC (.int 4)))) (fB (f2 dGt (aG cM (aA (aB 4) aE)) (fC (.int 1)))))) F2 F3) [some S,x1,x2,some (.int nest),some (.lst true (cH (f::fs))),some (.int i),some (.int m),some (.int (m % 13)),x8,x9]
  =F3 [some S,x1,x2,some (.int nest),some (.lst true (cH (f::fs))),some (.int i),some (.int m),some (.int (m % 13)),x8,x9]:=by
 have hl:(cH (f::fs)).length=(f::fs).length:=qP _
 have hn:¬(m % 13=4/\(1:Int)<((f::fs).length:Int)):=fun z=>hw4 ⟨z.1,fun e=>by rw [e] at z;exact absurd z.2 (Int.lt_irrefl 1)⟩
 exact(gH (eB (yz1.trans (by rw [hl,zp0 (fun z=>hw ⟨z.1,Wa.mp z.2⟩)])))).trans (gH (eB (xy1.trans (by rw [hl,zp0 hn]))))
theorem we8(hw:¬(m % 13<4/\(f::fs).length<=nest))(hw4:¬(m % 13=4/\fs≠[]))(hw7:m % 13<7)(hk:f.kd=3)(hf:f.full.length<3):
  ifR GM GS GL [some S,x1,x2,some (.int nest),some (.lst true (cH (f::fs))),some (.int i),some (.int m),some (.int (m % 13)),some (.str (kdS f.kd)),x9]
  =some (.nx,[some S,x1,x2,some (.int nest),some (.lst true (cH ({f with full:=f.full++[f.parts],parts:=[]}::fs))),some (.int i),some (.int m),some (.int (m % 13)),some (.str (kdS f.kd)),x9]):=by
 unfold ifR
 refine(yt0 hw hw4).trans ?_
 obtain⟨kd,n,full,parts⟩:=f
 have hk':kd=3:=hk
 subst hk'
 have hz:(rowsD full).length<sizeLine:=by rw [kL];exact sz1 (by have:full.length<3:=hf;omega)
 have hf':((rowsD full).length:Int)<3:=by rw [kL];exact Int.ofNat_lt.mpr hf
 have er:rowsD (full++[parts])=rowsD full++[.tup (pcsD parts)]:=by rw [zc3];rfl
 have b3:(decide (m % 13<7)&&(decide (kdS 3="either")&&decide (((rowsD full).length:Int)<3)))=true:=by rw [Zk hw7,Zk hf'];rfl
 have s1:=yk9 (p:=[some S,x1,x2,some (.int nest),some (.lst true (cH (⟨3,n,full,parts⟩::fs))),some (.int i),some (.int m),some (.int (m % 13)),some (.str (kdS 3)),x9]) (j:=4) (k:=2) (n:=2) (M:=cH fs) (fe:=aG eT (aA (f2 dIx (f2 dIx (aB 4) (dX (fC (.int 1)))) (fC (.int 3))) aE)) rfl rfl rfl (aS (aD (aR (ys9 (M:=cH fs) rfl) rfl (wt5 _ _ _ _)) rfl) (if_pos (pcs_imm parts))) hz
 rw [<-er] at s1
 have s2:=yz2 (p:=[some S,x1,x2,some (.int nest),some (.lst true (cH fs++[.lst true [.str (kdS 3),.int n,.lst true (rowsD (full++[parts])),.lst true (pcsD parts)]])),some (.int i),some (.int m),some (.int (m % 13)),some (.str (kdS 3)),x9]) (j:=4) (k:=3) (n:=3) (M:=cH fs) (fe:=cZ aE) (y:= .lst true []) rfl rfl (fJ rfl (Z3 rfl))
 exact(bM (xy2.trans (ZV some b3))).trans ((aN s1).trans s2)
theorem xl9{l:Leaf}{m2:Int}(hm2:GM [S,.int i,.int 32]=some (.int m2))(hL:GL [.int m2]=some (bF l))(hz:f.parts.length<=900)
  (hw:¬(m % 13<4/\(f::fs).length<=nest)) (hw4:¬(m % 13=4/\fs≠[])) (h3:¬(m % 13<7/\f.kd=3/\f.full.length<3)) (hkd:f.kd<=3):
  ifR GM GS GL [some S,x1,x2,some (.int nest),some (.lst true (cH (f::fs))),some (.int i),some (.int m),some (.int (m % 13)),some (.str (kdS f.kd)),x9]
  =some (.nx,[some S,x1,x2,some (.int nest),some (.lst true (cH (lQ f (.leaf l)::fs))),some (.int i),some (.int m),some (.int (m % 13)),some (.str (kdS f.kd)),x9]):=by
 have hz':(pcsD f.parts).length<sizeLine:=by rw [uV];exact sz1 (by omega)
 have ep:pcsD (f.parts++[.leaf l])=pcsD f.parts++[bF l]:=by rw [yH];rfl
 have b3:(decide (m % 13<7)&&(decide (kdS f.kd="either")&&decide (((rowsD f.full).length:Int)<3)))=false:=by
  by_cases a1:m % 13<7
  ·rw [zp0,Bool.and_false]
   intro ⟨z1,z2⟩
   rw [kL] at z2
   have hk:f.kd=0\/f.kd=1\/f.kd=2\/f.kd=3:=by omega
   rcases hk with e|e|e|e
   ·rw [e] at z1;exact absurd z1 (by decide)
   ·rw [e] at z1;exact absurd z1 (by decide)
   ·rw [e] at z1;exact absurd z1 (by decide)
   ·exact h3 ⟨a1,e,Int.ofNat_lt.mp z2⟩
  ·rw [Za a1,XI]
 unfold ifR
 refine(yt0 hw hw4).trans ((gH (eB (xy2.trans (by rw [b3])))).trans ?_)
 have e:cH (lQ f (.leaf l)::fs)=cH fs++[.lst true [.str (kdS f.kd),.int f.n,.lst true (rowsD f.full),.lst true (pcsD f.parts++[bF l])]]:=by rw [<-ep];rfl
 rw [e]
 have s1:=yk9 (p:=[some S,x1,x2,some (.int nest),some (.lst true (cH (f::fs))),some (.int i),some (.int m),some (.int (m % 13)),some (.str (kdS f.kd)),x9]) (j:=4) (k:=3) (n:=3) (M:=cH fs) (fe:=aG GL (aA (aG GM (aA (aB 0) (aA (aB 5) (aA (fC (.int 32)) aE)))) aE)) rfl rfl rfl (aS (aD (aS (aD rfl (aD rfl (aD rfl rfl))) hm2) rfl) hL) hz'
 exact s1
end
section
variable{GM:tz6}{GS:tz7}{GL:tz6}{S:D}{x1 x2 x6 x7 x8 x9:Option D}{nest k:Nat}{fs:List Gm}{i:Int}
theorem yz3{f:Gm}{fs:List Gm}(h:yn1 (f::fs)):f.kd<=3:=by
 cases fs with
 |nil=>have:f.kd=0:=h;omega
 |cons g fs=>exact h.1.2
theorem we9(hS:∀(f g:Gm) (fs:List Gm),(1<=f.kd/\f.kd<=3)->(f.kd≠3->f.full=[])->f.full.length<=3->g.parts.length<=900->GS [.lst true (cH (f::g::fs))]=some (.non,[.lst true (cH (lQ g (gS f)::fs))]))
  (hL:∀m,0<=m->∃l,GL [.int m]=some (bF l)/\eV l) (hM:∀s:Int,s=31\/s=32->∃m,GM [S,.int i,.int s]=some (.int m)/\0<=m) (h:GInv nest k fs) (hk:4*k+4<=800) (hn:nest<=100):
  ∃fs' y6 y7 y8 y9,zR GM GS GL [some S,x1,x2,some (.int nest),some (.lst true (cH fs)),some (.int i),x6,x7,x8,x9]=some (.nx,[some S,x1,x2,some (.int nest),some (.lst true (cH fs')),some (.int i),y6,y7,y8,y9])/\GInv nest (k+1) fs':=by
 obtain⟨m,hm,hm0⟩:=hM 31 (.inl rfl)
 obtain⟨m2,hm2,hm20⟩:=hM 32 (.inr rfl)
 have hln:=h.len
 cases fs with
 |nil=>exact h.kinds.elim
 | cons f fs=>
  have hd:=xl5 (GS:=GS) (GL:=GL) (x1:=x1) (x2:=x2) (x6:=x6) (x7:=x7) (x8:=x8) (x9:=x9) (nest:=nest) (f:=f) (fs:=fs) hm
  by_cases c1:m % 13<4/\(f::fs).length<=nest
  ·obtain⟨kd,n,y9,q,h1,h2⟩:=xl7 (GM:=GM) (GS:=GS) (GL:=GL) (S:=S) (x1:=x1) (x2:=x2) (x8:=some (.str (kdS f.kd))) (x9:=x9) (i:=i) c1.1 c1.2 (by omega)
   exact⟨_,_,_,_,y9,hd.trans q,h.opener h1 h2 c1.2⟩
  ·by_cases c2:m % 13=4/\fs≠[]
   ·cases fs with
    |nil=>exact absurd rfl c2.2
    |cons g fs=>
     have hf:=h.each f Z0
     have hg:=h.parts (f:=g) (Z1 _ Z0)
     have q:=xl8 (GM:=GM) (GL:=GL) (S:=S) (x1:=x1) (x2:=x2) (x8:=some (.str (kdS f.kd))) (x9:=x9) (nest:=nest) (i:=i) (hS f g fs h.kinds.1 hf.2.2.2.1 hf.2.2.1 (by omega)) c2.1
     exact⟨_,_,_,_,_,hd.trans q,h.shut.more (by omega)⟩
   ·by_cases c3:m % 13<7/\f.kd=3/\f.full.length<3
    ·have q:=we8 (GM:=GM) (GS:=GS) (GL:=GL) (S:=S) (x1:=x1) (x2:=x2) (x9:=x9) (i:=i) c1 c2 c3.1 c3.2.1 c3.2.2
     exact⟨_,_,_,_,_,hd.trans q,h.orr c3.2.2 c3.2.1⟩
    ·obtain⟨l,hl,hlk⟩:=hL m2 hm20
     have q:=xl9 (GM:=GM) (GS:=GS) (GL:=GL) (S:=S) (x1:=x1) (x2:=x2) (x9:=x9) (i:=i) hm2 hl (by have:=h.parts (f:=f) Z0;omega) c1 c2 c3 (yz3 h.kinds)
     exact⟨_,_,_,_,_,hd.trans q,h.leaf hlk⟩
theorem yt1(hS:∀(f g:Gm) (fs:List Gm),(1<=f.kd/\f.kd<=3)->(f.kd≠3->f.full=[])->f.full.length<=3->g.parts.length<=900->GS [.lst true (cH (f::g::fs))]=some (.non,[.lst true (cH (lQ g (gS f)::fs))]))
  (hL:∀m,0<=m->∃l,GL [.int m]=some (bF l)/\eV l) (hn:nest<=100):∀(l:List Int) (fs:List Gm) (k:Nat) (x5 x6 x7 x8 x9:Option D),(∀j∈l,∀s:Int,s=31\/s=32->∃m,GM [S,.int j,.int s]=some (.int m)/\0<=m)->GInv nest k fs->4*(k+l.length)+4<=800->
  ∃fs' y5 y6 y7 y8 y9,cO 5 (zR GM GS GL) (l.map .int) [some S,x1,x2,some (.int nest),some (.lst true (cH fs)),x5,x6,x7,x8,x9]=some (.nx,[some S,x1,x2,some (.int nest),some (.lst true (cH fs')),y5,y6,y7,y8,y9])/\GInv nest (k+l.length) fs'
 |[],fs,k,x5,x6,x7,x8,x9,_,h,_=>⟨fs,x5,x6,x7,x8,x9,by simp! [jD,cO],h⟩
 |j::l,fs,k,x5,x6,x7,x8,x9,hM,h,hk=>by
  rw [Z6] at hk
  obtain⟨fs1,y6,y7,y8,y9,q,h1⟩:=we9 (x1:=x1) (x2:=x2) (x6:=x6) (x7:=x7) (x8:=x8) (x9:=x9) hS hL (hM j Z0) h (by omega) hn
  obtain⟨fs2,z5,z6,z7,z8,z9,q2,h2⟩:=yt1 hS hL hn l fs1 (k+1) (some (.int j)) y6 y7 y8 y9 (fun i hi=>hM i (Z1 _ hi)) h1 (by omega)
  refine⟨fs2,z5,z6,z7,z8,z9,?_,(show k+1+l.length=k+(j::l).length by rw [Z6];omega)▸h2⟩
  rw [<-q2]
  show(zR GM GS GL [some S,x1,x2,some (.int nest),some (.lst true (cH fs)),some (.int j),x6,x7,x8,x9]).bind _=_
  rw [q];rfl
def zr2(GS:tz7)(n:Nat):tz1:=mJ (aV (fB (f2 dGt (aG cM (aA (aB 4) aE)) (fC (.int 1))))) (cE (fIO [.io 4] GS)) n
theorem yt2{x0 x3 x5:Option D}(hS:∀(f g:Gm) (fs:List Gm),(1<=f.kd/\f.kd<=3)->(f.kd≠3->f.full=[])->f.full.length<=3->g.parts.length<=900->GS [.lst true (cH (f::g::fs))]=some (.non,[.lst true (cH (lQ g (gS f)::fs))]))(hk:4*k+4<=800):
  ∀(n:Nat) (fs:List Gm),fs.length<=n->GInv nest k fs->∃f,zr2 GS n [x0,x1,x2,x3,some (.lst true (cH fs)),x5,x6,x7,x8,x9]=some (.nx,[x0,x1,x2,x3,some (.lst true (cH [f])),x5,x6,x7,x8,x9])/\GInv nest k [f]
 |0,[],_,h=>h.kinds.elim
 |0,_::_,hl,_=>by simp! [jD] at hl
 |n+1,[],_,h=>h.kinds.elim
 |n+1,[f],_,h=>by
  refine⟨f,?_,h⟩
  unfold zr2
  rw [mJ]
  have hl:(cH [f]).length=1:=rfl
  generalize cH [f]=N at hl|-
  simp! [jD,hl]
 |n+1,f::g::fs,hl,h=>by
  have hf:=h.each f Z0
  have hg:=h.parts (f:=g) (Z1 _ Z0)
  have q:=hS f g fs h.kinds.1 hf.2.2.2.1 hf.2.2.1 (by omega)
  obtain⟨f',w,h'⟩:=yt2 (x0:=x0) (x3:=x3) (x5:=x5) hS hk n (lQ g (gS f)::fs) (by simp! [jD] at hl|-;omega) h.shut
  refine⟨f',?_,h'⟩
  rw [<-w]
  have hl2:(cH (f::g::fs)).length=fs.length+1+1:=by rw [qP];rfl
  have hpos:(1:Int)<((fs.length:Int)+1+1):=by omega
  show mJ _ _ (n+1) _=_
  rw [mJ]
  generalize cH (f::g::fs)=N at q hl2|-
  generalize cH (lQ g (gS f)::fs)=M at q|-
  simp! [jD,hl2,hpos,q,zr2]
def ww7(n:Nat)(GM:tz6)(GS:tz7)(GL:tz6):tz1:=
 aT (aU 4 (aI (cZ (aA (cZ (aA (fC (.str "top")) (aA (fC (.int 0)) (aA (cZ aE) (aA (cZ aE) aE))))) aE)))) (aT (eP 5 (pP (aA (aB 1) (aA (f2 cD (aB 1) (aB 2)) aE))) (zR GM GS GL)) (aT (zr2 GS n) (bX (aI (aG eT (aA (f2 dIx (f2 dIx (aB 4) (fC (.int 0))) (fC (.int 3))) aE))))))
structure RowOk(nest w:Nat)(r:List Pc):Prop where
 ok:okR r
 dep:depR r<=nest
 len:(toksR r).length<=w
theorem wr4{a many n:Nat}(hS:∀(f g:Gm) (fs:List Gm),(1<=f.kd/\f.kd<=3)->(f.kd≠3->f.full=[])->f.full.length<=3->g.parts.length<=900->GS [.lst true (cH (f::g::fs))]=some (.non,[.lst true (cH (lQ g (gS f)::fs))]))
  (hL:∀m,0<=m->∃l,GL [.int m]=some (bF l)/\eV l) (hM:∀j s:Int,(a:Int)<=j/\j<a+many->s=31\/s=32->∃m,GM [S,.int j,.int s]=some (.int m)/\0<=m) (hn:nest<=100) (hmany:many<=90) (ha:a<=1000) (hnn:nest<n):
  ∃r,gP 4 6 (ww7 n GM GS GL) [S,.int a,.int many,.int nest]=some (.tup (pcsD r))/\RowOk nest (4*many) r:=by
 have i0:GInv nest 0 [⟨0,0,[],[]⟩]:=⟨by simp! [jD],by decide,fun f hf=>by rw [Zg.mp hf];exact⟨trivial,trivial,ZL _,fun _=>rfl,Yf _,by decide⟩,rfl,⟨ZL _,ZL _,trivial⟩⟩
 obtain⟨fs1,y5,y6,y7,y8,y9,q,h1⟩:=yt1 (GM:=GM) (GS:=GS) (GL:=GL) (S:=S) (x1:=some (.int a)) (x2:=some (.int many)) hS hL hn ((List.range many).map fun(k:Nat)=>(a:Int)+(k:Int)) [⟨0,0,[],[]⟩] 0 none none none none none
  (fun j hj s hs=>by obtain⟨k,hk,rfl⟩:=Yl.mp hj;have:=YH.mp hk;exact hM _ s (by omega) hs) i0 (by simp;omega)
 rw [<-xi3] at q
 rw [Zd,Ya,YF] at h1
 have hln:=h1.len
 obtain⟨f,w,h2⟩:=yt2 (GS:=GS) (x0:=some S) (x1:=some (.int a)) (x2:=some (.int many)) (x3:=some (.int nest)) (x5:=y5) (x6:=y6) (x7:=y7) (x8:=y8) (x9:=y9) hS (by omega) n fs1 (by omega) h1
 have hf:=h2.each f Z0
 have hd:=h2.deep.1
 have hwt:wF f+0<=4*many+4:=h2.wt
 refine⟨f.parts,?_,hf.2.1,by simpa using hd,by unfold wF at hwt;omega⟩
 have e:((a:Int)+(many:Int)-(a:Int)).toNat=many:=by omega
 have s0:aU 4 (aI (cZ (aA (cZ (aA (fC (.str "top")) (aA (fC (.int 0)) (aA (cZ aE) (aA (cZ aE) aE))))) aE))) [some S,some (.int a),some (.int many),some (.int nest),none,none,none,none,none,none]=some (.nx,[some S,some (.int a),some (.int many),some (.int nest),some (.lst true (cH [⟨0,0,[],[]⟩])),none,none,none,none,none]):=bD rfl
 have s1:eP 5 (pP (aA (aB 1) (aA (f2 cD (aB 1) (aB 2)) aE))) (zR GM GS GL) [some S,some (.int a),some (.int many),some (.int nest),some (.lst true (cH [⟨0,0,[],[]⟩])),none,none,none,none,none]=some (.nx,[some S,some (.int a),some (.int many),some (.int nest),some (.lst true (cH fs1)),y5,y6,y7,y8,y9]):=by
  have e1:aA (aB 1) (aA (f2 cD (aB 1) (aB 2)) aE) [some S,some (.int a),some (.int many),some (.int nest),some (.lst true (cH [⟨0,0,[],[]⟩])),none,none,none,none,none]=some [.int a,.int ((a:Int)+(many:Int))]:=rfl
  unfold eP pP
  rw [e1,Z4,yr6 (by omega) (by omega) (by omega) (by omega),e]
  exact q
 have s3:aG eT (aA (f2 dIx (f2 dIx (aB 4) (fC (.int 0))) (fC (.int 3))) aE) [some S,some (.int a),some (.int many),some (.int nest),some (.lst true (cH [f])),y5,y6,y7,y8,y9]=some (.tup (pcsD f.parts)):=by
  show aG eT (aA (f2 dIx (f2 dIx (aB 4) (fC (.int 0))) (fC (.int 3))) aE) [some S,some (.int a),some (.int many),some (.int nest),some (.lst true [.lst true [.str (kdS f.kd),.int f.n,.lst true (rowsD f.full),.lst true (pcsD f.parts)]]),y5,y6,y7,y8,y9]=_
  simp! [jD,pcs_imm]
 have z:=(aN s0).trans ((aN s1).trans ((aN w).trans (cI s3)))
 exact fS rfl z
end
abbrev xx0(GM GL:tz6):tz6:=gP 4 6 (ym9 GM zr1 GL)
theorem wl5{GM GL:tz6}{S:D}{nest a many:Nat}(hL:∀m,0<=m->∃l,GL [.int m]=some (bF l)/\eV l)(hM:∀j s:Int,(a:Int)<=j/\j<a+many->s=31\/s=32->∃m,GM [S,.int j,.int s]=some (.int m)/\0<=m)(hn:nest<=100)(hmany:many<=90)(ha:a<=1000):
  ∃r,xx0 GM GL [S,.int a,.int many,.int nest]=some (.tup (pcsD r))/\RowOk nest (4*many) r:=by
 obtain⟨r,h1,h2⟩:=wr4 (n:=400) (GS:=zr1) (fun f g fs h1 h2 h3 h4=>xu8 h1 h2 h3 h4) hL hM hn hmany ha (Ys hn (by decide))
 exact⟨r,h1,h2⟩
theorem yl0(m st:Int)(hs0:0<=st)(hs1:st<93):∀(l:List Int) (w:Str) (x0 x2 x5:Option D),(∀j∈l,0<=j/\j<100)->w.length+l.length<=100->w.cps.toList.all zh5=true->
  ∃w' x5',cO 5 (aU 4 (aI (f2 cD (aB 4) (f2 dIx (aB 1) (f2 cR (f2 cD (f2 eM (aB 0) (fC (.int 12))) (f2 iK (aB 5) (aB 3))) (fC (.int 93))))))) (l.map .int) [some (.int m),some (.str sg),x2,some (.int st),some (.str w),x5]
   =some (.nx,[some (.int m),some (.str sg),x2,some (.int st),some (.str w'),x5'])/\w'.length=w.length+l.length/\w'.cps.toList.all zh5=true
 |[],w,x0,x2,x5,_,_,hw=>⟨w,x5,by simp! [tM,fKs,pR,eP,eC,mK,lU,iA,fSl,dL,eU,dX,dIn,inB,nL,D.flat,D.flats,inV,eqV,nS,zF,pS,oJ,dSl,cS,dP,iK,pO,eL,pP,vT,vU,rG,zD,eR,eS,nR,L2.fD,cO],rfl,hw⟩
 |j::l,w,x0,x2,x5,hj,hl,hw=>by
  rw [Z6] at hl
  have hj0:=hj j Z0
  obtain⟨c,hc,hg⟩:=wq9 ((m/12+j*st) % 93) (Zv _ (by decide)) (Zs _ (by decide))
  have hw1:(w++(⟨#[c]⟩:Str)).length=w.length+1:=by rw [dC];rfl
  obtain⟨w',x5',q1,q2,q3⟩:=yl0 m st hs0 hs1 l (w++⟨#[c]⟩) x0 x2 (some (.int j)) (fun i hi=>hj i (Z1 _ hi)) (by rw [hw1];omega) (by rw [cF,List.all_append,hw];simp! [tM,fKs,pR,eP,eC,mK,lU,iA,fSl,dL,eU,dX,dIn,inB,nL,D.flat,D.flats,inV,eqV,nS,zF,pS,oJ,dSl,cS,dP,iK,pO,eL,pP,vT,vU,rG,zD,eR,eS,nR,L2.fD,hg])
  refine⟨w',x5',?_,by rw [q2,hw1,Z6];omega,q3⟩
  rw [<-q1]
  have hz:w.length+(⟨#[c]⟩:Str).length<=sizeLine:=sz (by show w.length+1<=1000;omega)
  have b1:(-18446744073709551616<j/\j<18446744073709551616):=by omega
  simp! [tM,fKs,pR,eP,eC,mK,lU,iA,fSl,dL,eU,dX,dIn,inB,nL,D.flat,D.flats,inV,eqV,nS,zF,pS,oJ,dSl,cS,dP,iK,pO,eL,pP,vT,vU,rG,zD,eR,eS,nR,L2.fD,cO,hc,wd6,hz,b1]
abbrev zS:tz6:=gP 1 5 ze1
theorem yt3{m:Int}(hm:0<=m):∃z,zS [.int m]=some (.str z)/\ym7 z:=by
 obtain⟨s,hs,h1,h2⟩:=wd7 m
 obtain⟨w,x5,q1,q2,q3⟩:=yl0 m (m/9000 % 93) (Zv _ (by decide)) (Zs _ (by decide)) ((List.range s.toNat).map fun(k:Nat)=>(k:Int)) "" none (some (.int s)) none
  (fun j hj=>by obtain⟨k,hk,rfl⟩:=Yl.mp hj;have:=YH.mp hk;omega) (by rw [Zd,Ya];show 0+_<=100;omega) (by decide+kernel)
 rw [<-xi2] at q1
 rw [Zd,Ya] at q2
 have q2':w.length=s.toNat:=by rw [q2];show 0+_=_;omega
 refine⟨w,?_,by omega,by omega,q3⟩
 have hz:(Str.ofString "abcdefghijklmnopqrstuvwxyzABCDEFGHIJKLMNOPQRSTUVWXYZ0123456789").length+(Str.ofString "!\"#$&'()*+,-./:;<=>?\x40[\\]^_`{|}~").length<=sizeLine:=by decide+kernel
 have e1:Str.ofString "abcdefghijklmnopqrstuvwxyzABCDEFGHIJKLMNOPQRSTUVWXYZ0123456789"++Str.ofString "!\"#$&'()*+,-./:;<=>?\x40[\\]^_`{|}~"=sg:=rfl
 have b1:(-4611686018427387904<=s/\s<4611686018427387904):=by omega
 simp! [tM,fKs,pR,eP,eC,mK,lU,iA,fSl,dL,eU,dX,dIn,inB,nL,D.flat,D.flats,inV,eqV,nS,zF,pS,oJ,dSl,cS,dP,iK,pO,eL,pP,vT,vU,rG,zD,eR,eS,nR,L2.fD,ze1,hz,e1,hs,q1,b1]
abbrev jX:tz6:=gP 1 1 (ze2 zS)
theorem xI{m:Int}(hm:0<=m):∃l,jX [.int m]=some (bF l)/\eV l:=by
 have hd:0<=m/16:=XG hm (by decide)
 have s1:aU 1 (aI (f2 eM (aB 0) (fC (.int 16)))) [some (.int m),none]=some (.nx,[some (.int m),some (.int (m/16))]):=bD (aR rfl rfl ((dP _ _).trans (if_pos (by decide))))
 have md:f2 cR (aB 0) (fC (.int 16)) [some (.int m),some (.int (m/16))]=some (.int (m % 16)):=aR rfl rfl ((cS _ _).trans (if_pos (by decide)))
 have t:∀c:Int,fB (f2 dLt (f2 cR (aB 0) (fC (.int 16))) (fC (.int c))) [some (.int m),some (.int (m/16))]=some (decide (m % 16<c)):=fun c=>dI (aR md rfl rfl)
 have out:∀{p:PSt} (l:Leaf),ze2 zS [some (.int m),none]=some (.ret (bF l),p)->jX [.int m]=some (bF l):=fun l h=>fS rfl h
 have t8:=t 8
 have t13:=t 13
 by_cases c1:m % 16<8
 ·obtain⟨z,q,hz⟩:=yt3 hd
  rw [Zk c1] at t8
  exact⟨.word z,out (.word z) ((aN s1).trans (dR ((bM t8).trans (cI (dM (aD rfl (aD (aS (aD rfl rfl) q) rfl)) rfl (Z3 rfl)))))),hz⟩
 ·rw [Za c1] at t8
  by_cases c2:m % 16<13
  ·obtain⟨x,q,hx⟩:=wk2 (m/16)
   rw [Zk c2] at t13
   exact⟨.gap x,out (.gap x) ((aN s1).trans ((aN (bE t8)).trans (dR ((bM t13).trans (cI (dM (aD rfl (aD (aR (fJ rfl (Z3 rfl)) (aR rfl rfl ((cS _ _).trans (if_pos (by decide)))) q) rfl)) rfl (Z3 rfl))))))),hx⟩
  ·rw [Za c2] at t13
   have te:fB (f2 dEq (f2 cR (aB 0) (fC (.int 16))) (fC (.int 13))) [some (.int m),some (.int (m/16))]=some (decide (m % 16=13)):=dI (aR md rfl rfl)
   by_cases c3:m % 16=13
   ·rw [Zk c3] at te
    exact⟨.fin,out .fin ((aN s1).trans ((aN (bE t8)).trans ((aN (bE t13)).trans (dR ((bM te).trans (cI rfl)))))),trivial⟩
   ·rw [Za c3] at te
    have ha:=Zv (m/16/2) (show(10:Int)≠0 by decide)
    have hb:=Zs (m/16/2) (show(0:Int)<10 by decide)
    have hc:=Zv (m/16/2) (show(41:Int)≠0 by decide)
    have he:=Zs (m/16/2) (show(0:Int)<41 by decide)
    obtain⟨c,q,h1,h2⟩:=wd8 (m/16/2 % 10) (m/16/2 % 41) (m/16) ⟨ha,Int.le_trans (Int.le_of_lt hb) (by decide)⟩ ⟨hc,Wj he⟩
    have dv:f2 eM (aB 1) (fC (.int 2)) [some (.int m),some (.int (m/16))]=some (.int (m/16/2)):=aR rfl rfl ((dP _ _).trans (if_pos (by decide)))
    exact⟨.stop c,out (.stop c) ((aN s1).trans ((aN (bE t8)).trans ((aN (bE t13)).trans ((aN (bE te)).trans (cI (dM (aD rfl (aD (aR (fJ (aD (aR dv rfl ((cS _ _).trans (if_pos (by decide)))) (aD (aR dv rfl ((cS _ _).trans (if_pos (by decide)))) rfl)) (Z3 rfl)) (aR rfl rfl ((cS _ _).trans (if_pos (by decide)))) q) rfl)) rfl (Z3 rfl))))))),h1,h2⟩
def zr3(GM:tz6):tz1:=aT (aU 5 (aI (aG GM (aA (aB 0) (aA (f2 cD (fC (.int 3)) (aB 4)) (aA (fC (.int 58)) aE))))))
 (aT (aU 6 (aI (bG (aA (fC (.str "hang")) (aA (f2 cR (f2 eM (aB 5) (fC (.int 8))) (fC (.int 4))) (aA (bB (aB 1)) aE))))))
 (aT (fIf (aV (dS (fB (f3 dLt dLt (fC (.int 0)) (f2 cR (aB 5) (fC (.int 8))) (fC (.int 3)))) (fB (f2 dGt (aB 3) (fC (.int 0))))))
  (aT (aU 3 (aI (f2 jH (aB 3) (fC (.int 1)))))
 (aU 6 (aI (f2 dIx (cZ (aA (bG (aA (fC (.str "group")) (aA (bB (aB 1)) aE))) (aA (bG (aA (fC (.str "either")) (aA (bG (aA (bG (aA (bG (aA (fC (.str "word")) (aA (fC (.str "or")) aE))) aE)) (aA (bB (aB 1)) aE))) aE))) aE))) (f2 jH (f2 cR (aB 5) (fC (.int 8))) (fC (.int 1)))))))
  bH)
 (tM 1 (aI (bG (aA (aG jX (aA (f2 eM (aB 5) (fC (.int 64))) aE)) (aA (bB (aB 6)) aE)))))))
theorem wl6:eV (.word "or"):=⟨by decide+kernel,by decide+kernel,by decide+kernel⟩
theorem zp2{n w:Nat}{r:List Pc}{l:Leaf}{p:Pc}(hl:eV l)(hr:RowOk n w r)(hp:p= .group r\/(∃k:Int,(0<=k/\k<=12)/\p= .hang k r)\/p= .either [iC,r]):RowOk (n+1) (w+5) [.leaf l,p]:=by
 obtain⟨a,b,c⟩:=hr
 rcases hp with rfl|⟨k,hk,rfl⟩|rfl
 ·exact⟨by simp [okR,okP,hl,a],by simp [depR,dJ];omega,by simp [toksR,cU];omega⟩
 ·exact⟨by simp [okR,okP,hl,a,hk],by simp [depR,dJ];omega,by simp [toksR,cU];omega⟩
 ·exact⟨by simp [okR,okP,okRs,iC,hl,a,wl6],by simp [depR,dJ,depRs,iC];omega,by simp [toksR,cU,toksRows,toksMore,iC];omega⟩
section
variable{GM:tz6}{S:D}
theorem xm0{r:List Pc}{x2 x4 x5 x6:Option D}{left j:Int}{n w:Nat}(hM:MxH GM S)(h0:0<=j)(h1:j<100)(hr:RowOk n w r):
  ∃r' left' y5 y6,zr3 GM [some S,some (.tup (pcsD r)),x2,some (.int left),some (.int j),x5,x6]=some (.nx,[some S,some (.tup (pcsD r')),x2,some (.int left'),some (.int j),y5,y6])/\RowOk (n+1) (w+5) r':=by
 obtain⟨a,qa,ha⟩:=hM (3+j) 58 (by omega) (by omega) (by decide) (by decide)
 obtain⟨l,ql,hl⟩:=xI (m:=a/64) (XG ha (by decide))
 have pi:=pcs_imm r
 have m0:=Zv a (show(8:Int)≠0 by decide)
 have m1:=Zs a (show(0:Int)<8 by decide)
 have k0:=Zv (a/8) (show(4:Int)≠0 by decide)
 have k1:=Zs (a/8) (show(0:Int)<4 by decide)
 have s1:aU 5 (aI (aG GM (aA (aB 0) (aA (f2 cD (fC (.int 3)) (aB 4)) (aA (fC (.int 58)) aE))))) [some S,some (.tup (pcsD r)),x2,some (.int left),some (.int j),x5,x6]=some (.nx,[some S,some (.tup (pcsD r)),x2,some (.int left),some (.int j),some (.int a),x6]):=bD (aS (aD rfl (aD (aR rfl rfl rfl) (aD rfl rfl))) qa)
 have s2:aU 6 (aI (bG (aA (fC (.str "hang")) (aA (f2 cR (f2 eM (aB 5) (fC (.int 8))) (fC (.int 4))) (aA (bB (aB 1)) aE))))) [some S,some (.tup (pcsD r)),x2,some (.int left),some (.int j),some (.int a),x6]=some (.nx,[some S,some (.tup (pcsD r)),x2,some (.int left),some (.int j),some (.int a),some (pcD (.hang (a/8 % 4) r))]):=
  bD (dM (aD rfl (aD (aR (aR rfl rfl ((dP _ _).trans (if_pos (by decide)))) rfl ((cS _ _).trans (if_pos (by decide)))) (aD (cB rfl pi) rfl))) (by simp [D.imms,D.imm,pi]) (Z3 rfl))
 have md:∀x3 x6,f2 cR (aB 5) (fC (.int 8)) [some S,some (.tup (pcsD r)),x2,x3,some (.int j),some (.int a),x6]=some (.int (a % 8)):=fun _ _=>aR rfl rfl ((cS _ _).trans (if_pos (by decide)))
 have fin:∀(p:Pc) (left':Int),(pcD p).imm=true->tM 1 (aI (bG (aA (aG jX (aA (f2 eM (aB 5) (fC (.int 64))) aE)) (aA (bB (aB 6)) aE)))) [some S,some (.tup (pcsD r)),x2,some (.int left'),some (.int j),some (.int a),some (pcD p)]=some (.nx,[some S,some (.tup (pcsD [.leaf l,p])),x2,some (.int left'),some (.int j),some (.int a),some (pcD p)]):=fun p left' hp=>by
  have li:=yG l
  have e:bG (aA (aG jX (aA (f2 eM (aB 5) (fC (.int 64))) aE)) (aA (bB (aB 6)) aE)) [some S,some (.tup (pcsD r)),x2,some (.int left'),some (.int j),some (.int a),some (pcD p)]=some (.tup [bF l,pcD p]):=dM (aD (aS (aD (aR rfl rfl ((dP _ _).trans (if_pos (by decide)))) rfl) ql) (aD (cB rfl hp) rfl)) (by simp [D.imms,li,hp]) (Z3 rfl)
  unfold tM aI
  rw [e]
  refine(if_pos ?_).trans rfl
  simp [D.imm,D.imms,li,hp]
 have t1:fB (f3 dLt dLt (fC (.int 0)) (f2 cR (aB 5) (fC (.int 8))) (fC (.int 3))) [some S,some (.tup (pcsD r)),x2,some (.int left),some (.int j),some (.int a),some (pcD (.hang (a/8 % 4) r))]=some (decide (0<a % 8)&&decide (a % 8<3)):=by
  refine dI ?_
  unfold f3
  rw [md]
  by_cases c:0<a % 8<;>simp [dLt,c,fC]
 have t2:fB (f2 dGt (aB 3) (fC (.int 0))) [some S,some (.tup (pcsD r)),x2,some (.int left),some (.int j),some (.int a),some (pcD (.hang (a/8 % 4) r))]=some (decide (0<left)):=dI (aR rfl rfl rfl)
 have ih:(pcD (.hang (a/8 % 4) r)).imm=true:=by simp [pcD,D.imm,D.imms,pi]
 have no:∀(h:dS (fB (f3 dLt dLt (fC (.int 0)) (f2 cR (aB 5) (fC (.int 8))) (fC (.int 3)))) (fB (f2 dGt (aB 3) (fC (.int 0)))) [some S,some (.tup (pcsD r)),x2,some (.int left),some (.int j),some (.int a),some (pcD (.hang (a/8 % 4) r))]=some false),∃r' left' y5 y6,zr3 GM [some S,some (.tup (pcsD r)),x2,some (.int left),some (.int j),x5,x6]=some (.nx,[some S,some (.tup (pcsD r')),x2,some (.int left'),some (.int j),y5,y6])/\RowOk (n+1) (w+5) r':=fun h=>
  ⟨_,left,_,_,(aN s1).trans ((aN s2).trans ((aN (bE h)).trans (fin _ _ ih))),zp2 hl hr (.inr (.inl ⟨_,⟨k0,by omega⟩,rfl⟩))⟩
 by_cases c1:0<a % 8/\a % 8<3
 ·rw [Zk c1.1,Zk c1.2] at t1
  by_cases c2:0<left
  ·rw [Zk c2] at t2
   have e1:bG (aA (fC (.str "group")) (aA (bB (aB 1)) aE)) [some S,some (.tup (pcsD r)),x2,some (.int (left-1)),some (.int j),some (.int a),some (pcD (.hang (a/8 % 4) r))]=some (pcD (.group r)):=dM (aD rfl (aD (cB rfl pi) rfl)) (by simp [D.imms,D.imm,pi]) (Z3 rfl)
   have e0:bG (aA (bG (aA (fC (.str "word")) (aA (fC (.str "or")) aE))) aE) [some S,some (.tup (pcsD r)),x2,some (.int (left-1)),some (.int j),some (.int a),some (pcD (.hang (a/8 % 4) r))]=some (.tup (pcsD iC)):=rfl
   have io:=pcs_imm iC
   have i2:D.imms [.tup (pcsD iC),.tup (pcsD r)]=true:=by simp [D.imms,D.imm,pi,io]
   have i3:D.imms [.str "either",.tup [.tup (pcsD iC),.tup (pcsD r)]]=true:=by simp [D.imms,D.imm,pi,io]
   have d2:aA (bG (aA (bG (aA (fC (.str "word")) (aA (fC (.str "or")) aE))) aE)) (aA (bB (aB 1)) aE) [some S,some (.tup (pcsD r)),x2,some (.int (left-1)),some (.int j),some (.int a),some (pcD (.hang (a/8 % 4) r))]=some [.tup (pcsD iC),.tup (pcsD r)]:=aD e0 (aD (cB rfl pi) rfl)
   have e2:bG (aA (fC (.str "either")) (aA (bG (aA (bG (aA (bG (aA (fC (.str "word")) (aA (fC (.str "or")) aE))) aE)) (aA (bB (aB 1)) aE))) aE)) [some S,some (.tup (pcsD r)),x2,some (.int (left-1)),some (.int j),some (.int a),some (pcD (.hang (a/8 % 4) r))]=some (pcD (.either [iC,r])):=
    dM (aD rfl (aD (dM (d2) (i2) (Z3 rfl)) rfl)) (i3) (Z3 rfl)
   obtain⟨p,hp,qp,ip⟩:∃p,(p= .group r\/p= .either [iC,r])/\dIx (.lst true [pcD (.group r),pcD (.either [iC,r])]) (.int (a % 8-1))=some (pcD p)/\(pcD p).imm=true:=by
    have:a % 8=1\/a % 8=2:=by omega
    rcases this with h|h<;>rw [h]
    ·exact⟨_,.inl rfl,rfl,by simp [pcD,D.imm,D.imms,pi]⟩
    ·exact⟨_,.inr rfl,rfl,by simp [pcD,rowsD,D.imm,D.imms,pi,pcs_imm]⟩
   refine⟨_,left-1,_,_,(aN s1).trans ((aN s2).trans ((aN ((bM (iV t1 t2)).trans ((aN (bD (aR rfl rfl rfl))).trans (bD (aR (fJ (aD e1 (aD e2 rfl)) (Z3 rfl)) (aR (md _ _) rfl rfl) qp))))).trans (fin p _ ip))),zp2 hl hr ?_⟩
   rcases hp with h|h
   ·exact .inl h
   ·exact .inr (.inr h)
  ·rw [Za c2] at t2
   exact no (iV t1 t2)
 ·have:(decide (0<a % 8)&&decide (a % 8<3))=false:=by simpa using c1
  rw [this] at t1
  exact no (kD t1)
theorem ya6{x2:Option D}(hM:MxH GM S):∀(js:List Int) (r:List Pc) (left:Int) (x4 x5 x6:Option D) (n w:Nat),(∀j∈js,0<=j/\j<100)->RowOk n w r->
  ∃r' q,cO 4 (zr3 GM) (js.map .int) [some S,some (.tup (pcsD r)),x2,some (.int left),x4,x5,x6]=some (.nx,some S::some (.tup (pcsD r'))::q)/\RowOk (n+js.length) (w+5*js.length) r'
 |[],r,left,x4,x5,x6,n,w,_,hr=>⟨r,_,rfl,hr⟩
 |j::js,r,left,x4,x5,x6,n,w,hj,hr=>by
  have hj0:=hj j Z0
  obtain⟨r1,l1,y5,y6,q,h1⟩:=xm0 (x2:=x2) (x4:=x4) (x5:=x5) (x6:=x6) (left:=left) hM hj0.1 hj0.2 hr
  obtain⟨r2,z,q2,h2⟩:=ya6 (x2:=x2) hM js r1 l1 (some (.int j)) y5 y6 (n+1) (w+5) (fun i hi=>hj i (Z1 _ hi)) h1
  refine⟨r2,z,?_,by rw [Z6];exact⟨h2.ok,by have:=h2.dep;omega,by have:=h2.len;omega⟩⟩
  rw [<-q2]
  show cO 4 _ (.int j::js.map .int) _=_
  rw [cO]
  show((zr3 GM [some S,some (.tup (pcsD r)),x2,some (.int left),some (.int j),x5,x6]).bind _)=_
  rw [q];rfl
abbrev xb1(GM:tz6):tz6:=gP 2 5 (ze3 GM jX)
theorem yz4{r:List Pc}{n w:Nat}(hM:MxH GM S)(hr:RowOk n w r):∃r',xb1 GM [S,.tup (pcsD r)]=some (.tup (pcsD r'))/\RowOk (n+9) (w+45) r':=by
 obtain⟨a,qa,ha⟩:=hM 2 57 (by decide) (by decide) (by decide) (by decide)
 have pi:=pcs_imm r
 have s1:aU 2 (aI (aG GM (aA (aB 0) (aA (fC (.int 2)) (aA (fC (.int 57)) aE))))) [some S,some (.tup (pcsD r)),none,none,none,none,none]=some (.nx,[some S,some (.tup (pcsD r)),some (.int a),none,none,none,none]):=bD (aS (aD rfl (aD rfl (aD rfl rfl))) qa)
 have t1:fB (f2 dNe (f2 cR (aB 2) (fC (.int 4))) (fC (.int 1))) [some S,some (.tup (pcsD r)),some (.int a),none,none,none,none]=some (!decide (a % 4=1)):=dI (aR (aR rfl rfl ((cS _ _).trans (if_pos (by decide)))) rfl rfl)
 by_cases c:a % 4=1
 ·rw [Zk c] at t1
  have m0:=Zv (a/4) (show(7:Int)≠0 by decide)
  have m1:=Zs (a/4) (show(0:Int)<7 by decide)
  obtain⟨r',q,e,h⟩:=ya6 (x2:=some (.int a)) hM ((List.range (3+a/4 % 7).toNat).map fun(k:Nat)=>(k:Int)) r 3 none none none n w (fun j hj=>by obtain⟨k,hk,rfl⟩:=Yl.mp hj;have:=YH.mp hk;omega) hr
  rw [<-xi2] at e
  rw [Zd,Ya] at h
  have er:eL (aA (f2 cD (fC (.int 3)) (f2 cR (f2 eM (aB 2) (fC (.int 4))) (fC (.int 7)))) aE) [some S,some (.tup (pcsD r)),some (.int a),some (.int 3),none,none,none]=some (dQ 0 (3+a/4 % 7).toNat):=by
   unfold eL
   rw [aD (aR rfl (aR (aR rfl rfl ((dP _ _).trans (if_pos (by decide)))) rfl ((cS _ _).trans (if_pos (by decide)))) rfl) rfl]
   exact uE (by omega) (by omega)
  have lp:eP 4 (eL (aA (f2 cD (fC (.int 3)) (f2 cR (f2 eM (aB 2) (fC (.int 4))) (fC (.int 7)))) aE)) (zr3 GM) [some S,some (.tup (pcsD r)),some (.int a),some (.int 3),none,none,none]=some (.nx,some S::some (.tup (pcsD r'))::q):=by
   unfold eP
   rw [er];exact e
  have hi:(D.tup (pcsD r')).imm=true:=pcs_imm r'
  refine⟨r',fS rfl ((aN s1).trans ((aN (bE t1)).trans ((aN (bD rfl)).trans ((aN lp).trans (cI (cB rfl hi)))))),h.ok,Zr h.dep (by omega),Zr h.len (by omega)⟩
 ·rw [Za c] at t1
  exact⟨r,fS rfl ((aN s1).trans (dR ((bM t1).trans (cI (cB rfl pi))))),hr.ok,Zr hr.dep (by omega),Zr hr.len (by omega)⟩
end
theorem yl1:∀(ys:List Str),ys≠[]->(∀y∈ys,(y:Str).length<=(Str.join ⟨#[10]⟩ ys).length)/\ys.length<=(Str.join ⟨#[10]⟩ ys).length+1
 |[],h=>absurd rfl h
 |[y],_=>⟨fun z hz=>by rw [Zg.mp hz];exact Z7 _,Nat.le_add_left _ _⟩
 | x::y::r,_=>by
  obtain⟨h1,h2⟩:=yl1 (y::r) (by simp)
  have e:(Str.join ⟨#[10]⟩ (x::y::r)).length=x.length+1+(Str.join ⟨#[10]⟩ (y::r)).length:=by
   show(Str.join ⟨#[10]⟩ (x::y::r)).cps.size=x.cps.size+1+(Str.join ⟨#[10]⟩ (y::r)).cps.size
   rw [<-ZZ,mH,Z2,Z6,ZZ,ZZ];omega
  rw [e]
  refine⟨fun z hz=> ?_,by rw [Z6];omega⟩
  rcases Z5.mp hz with rfl|hz
  ·omega
  ·have:=h1 z hz;omega
theorem zv1(t:Str):(∀y∈lns t,(y:Str).length<=t.length)/\(lns t).length<=t.length+1:=by
 have:=yl1 (lns t) (zc6 t)
 rwa [qR] at this
theorem zl0{f:tz2}{p:PSt}{t:Str}(h:f p=some (.str t))(hl:t.length<=900000):fMt sH f (aA (fC (.str "\n")) aE) p=some (.lst true (L2.bZ (lns t))):=by
 unfold fMt
 rw [h,Z4,aD (f:=fC (.str "\n")) (g:=aE) (d:= .str "\n") (ds:=[]) rfl rfl,Z4,if_pos (show zh2 (.str t)=true from rfl)]
 unfold lns
 rw [<-zn8]
 exact if_pos ⟨by decide+kernel,by omega⟩
theorem ya7:∀ys:List Str,D.imms (L2.bZ ys)=true
 |[]=>rfl
 |y::ys=>by show((D.str y).imm&&D.imms (L2.bZ ys))=true;rw [ya7 ys];rfl
theorem yl2:∀ys:List Str,(∀y∈ys,(y:Str).length<=900000)->fY [none] gW (aG cM (aA (aB 0) aE)) (L2.bZ ys)=some (aY (ys.map fun y=>(y.length:Int)))
 |[],_=>rfl
 |y::ys,h=>by
  have hs:sizeLine=16777216:=ZP
  have hy:y.length<=sizeLine:=by have:=h y Z0;omega
  have ih:=yl2 ys fun z hz=>h z (Z1 _ hz)
  have e:aG cM (aA (aB 0) aE) [some (.str y)]=some (.int (y.length:Int)):=aS (aD rfl rfl) (if_pos hy)
  show fY [none] gW _ (.str y::L2.bZ ys)=_
  rw [fY]
  show(aG cM (aA (aB 0) aE) [some (.str y)]).bind (fun r=>(fY [none] gW (aG cM (aA (aB 0) aE)) (L2.bZ ys)).bind fun rs=>some (r::rs))=_
  rw [e,ih];rfl
theorem xm1:∀{ns:List Int},ns≠[]->∃k,wR ns=some k
 |[],h=>absurd rfl h
 |n::ns,_=>by rw [wR];cases wR ns<;>exact⟨_,rfl⟩
abbrev yn6(GM:tz6):tz6:=gP 2 3 (zq6 GM)
theorem xv0{GM:tz6}{S:D}{t:Str}(hM:MxH GM S)(hl:t.length<=900000):∃W:Int,yn6 GM [S,.str t]=some (.int W)/\1<=W/\W<=40:=by
 obtain⟨a,qa,ha⟩:=hM 1 50 (by decide) (by decide) (by decide) (by decide)
 have hs:sizeLine=16777216:=ZP
 obtain⟨hy,hn⟩:=zv1 t
 obtain⟨M,hm⟩:=xm1 (ns:=(lns t).map fun y=>(y.length:Int)) (by simpa using zc6 t)
 have s1:aU 2 (aI (aG GM (aA (aB 0) (aA (fC (.int 1)) (aA (fC (.int 50)) aE))))) [some S,some (.str t),none,none,none]=some (.nx,[some S,some (.str t),some (.int a),none,none]):=bD (aS (aD rfl (aD rfl (aD rfl rfl))) qa)
 have e2:iL [none] (eC (fMt sH (aB 1) (aA (fC (.str "\n")) aE))) gW (aG cM (aA (aB 0) aE)) [some S,some (.str t),some (.int a),none,none]=some (.lst true (aY ((lns t).map fun y=>(y.length:Int)))):=by
  have sp:=zl0 (f:=aB 1) (p:=[some S,some (.str t),some (.int a),none,none]) (t:=t) rfl hl
  unfold iL eC
  rw [sp,Z4,show mK (.lst true (L2.bZ (lns t)))=some (L2.bZ (lns t)) from if_pos (ya7 _),Z4]
  rw [if_pos (by unfold L2.bZ;rw [Zd];omega)]
  show(fY [none] gW (aG cM (aA (aB 0) aE)) (L2.bZ (lns t))).bind _=_
  rw [yl2 _ fun y h=>Zr (hy y h) hl];rfl
 have s2:aU 3 (aI (aG ye1 (aA (iL [none] (eC (fMt sH (aB 1) (aA (fC (.str "\n")) aE))) gW (aG cM (aA (aB 0) aE))) aE))) [some S,some (.str t),some (.int a),none,none]=some (.nx,[some S,some (.str t),some (.int a),some (.int M),none]):=by
  refine bD (aS (aD e2 rfl) ?_)
  show(D.ints (aY _)).bind _=_
  rw [zo2,Z4,hm];rfl
 have dv:f2 eM (aB 2) (fC (.int 4)) [some S,some (.str t),some (.int a),some (.int M),none]=some (.int (a/4)):=aR rfl rfl ((dP _ _).trans (if_pos (by decide)))
 have md:∀c:Int,0<c->f2 cR (f2 eM (aB 2) (fC (.int 4))) (fC (.int c)) [some S,some (.str t),some (.int a),some (.int M),none]=some (.int (a/4 % c)):=fun c hc=>aR dv rfl ((cS _ _).trans (if_pos hc))
 have m0:=Zv a (show(4:Int)≠0 by decide)
 have m1:=Zs a (show(0:Int)<4 by decide)
 obtain⟨v,qv⟩:∃v:Int,atI [D.int M,.int (M+a/4 % 4),.int (8+a/4 % 20),.int (1+a/4 % 40)] (a % 4)=some (.int v):=by
  have:a % 4=0\/a % 4=1\/a % 4=2\/a % 4=3:=by omega
  rcases this with h|h|h|h<;>rw [h]<;>exact⟨_,rfl⟩
 have s3:aU 4 (aI (f2 dIx (cZ (aA (bB (aB 3)) (aA (f2 cD (aB 3) (f2 cR (f2 eM (aB 2) (fC (.int 4))) (fC (.int 4)))) (aA (f2 cD (fC (.int 8)) (f2 cR (f2 eM (aB 2) (fC (.int 4))) (fC (.int 20)))) (aA (f2 cD (fC (.int 1)) (f2 cR (f2 eM (aB 2) (fC (.int 4))) (fC (.int 40)))) aE))))) (f2 cR (aB 2) (fC (.int 4))))) [some S,some (.str t),some (.int a),some (.int M),none]=some (.nx,[some S,some (.str t),some (.int a),some (.int M),some (.int v)]):=
  bD (aR (fJ (aD (cB rfl rfl) (aD (aR rfl (md 4 (by decide)) rfl) (aD (aR rfl (md 20 (by decide)) rfl) (aD (aR rfl (md 40 (by decide)) rfl) rfl)))) (Z3 rfl)) (aR rfl rfl ((cS _ _).trans (if_pos (by decide)))) qv)
 refine⟨_,fS rfl ((aN s1).trans ((aN s2).trans ((aN s3).trans (cI (aS (aD rfl (aD (aS (aD rfl (aD rfl rfl)) rfl) rfl)) rfl))))),?_,?_⟩
 ·split<;>(try split)<;>omega
 ·split<;>(try split)<;>omega
def nO:tz1:=aT (fIf (aV (fB (f2 dGt (aG cM (aA (f2 dIx (aB 2) (aB 4)) aE)) (aB 1)))) (bX (aI (fC .non))) bH)
 (fIf (aV (fB (f2 dLt (f2 cD (aB 4) (fC (.int 1))) (aG cM (aA (aB 2) aE))))) (aU 3 (aI (f2 cD (aB 3) (f2 ym3 (f2 jH (aB 1) (aG cM (aA (f2 dIx (aB 2) (aB 4)) aE))) (fC (.int 2)))))) bH)
theorem zd0{t:Str}{W rg:Int}{L:List Str}{i:Nat}{y:Str}(hi:L[i]? =some y)(hy:(y.length:Int)<=W)(hW:W<=40):nO [some (.str t),some (.int W),some (.lst true (L2.bZ L)),some (.int rg),some (.int (i:Int))]=some (.nx,[some (.str t),some (.int W),some (.lst true (L2.bZ L)),some (.int (if i+1<L.length then rg+(W-(y.length:Int))*(W-(y.length:Int)) else rg)),some (.int (i:Int))]):=by
 have hs:sizeLine=16777216:=ZP
 have hl:(L2.bZ L).length=L.length:=by unfold L2.bZ;rw [Zd]
 have g:atI (L2.bZ L) (i:Int)=some (.str y):=by
  refine jY ?_
  unfold L2.bZ
  rw [Zc,hi];rfl
 have ln:aG cM (aA (f2 dIx (aB 2) (aB 4)) aE) [some (.str t),some (.int W),some (.lst true (L2.bZ L)),some (.int rg),some (.int (i:Int))]=some (.int (y.length:Int)):=aS (aD (aR rfl rfl g) rfl) (if_pos (by omega))
 have t1:fB (f2 dGt (aG cM (aA (f2 dIx (aB 2) (aB 4)) aE)) (aB 1)) [some (.str t),some (.int W),some (.lst true (L2.bZ L)),some (.int rg),some (.int (i:Int))]=some (decide (W<(y.length:Int))):=dI (aR ln rfl rfl)
 rw [Za (by omega)] at t1
 have t2:fB (f2 dLt (f2 cD (aB 4) (fC (.int 1))) (aG cM (aA (aB 2) aE))) [some (.str t),some (.int W),some (.lst true (L2.bZ L)),some (.int rg),some (.int (i:Int))]=some (decide ((i:Int)+1<((L2.bZ L).length:Int))):=dI (aR (aR rfl rfl rfl) (aS (aD rfl rfl) rfl) rfl)
 rw [hl] at t2
 refine(aN (bE t1)).trans ?_
 by_cases c:i+1<L.length
 ·rw [Zk (by omega)] at t2
  rw [if_pos c]
  refine(bM t2).trans ?_
  have pw:ym3 (.int (W-(y.length:Int))) (.int 2)=some (.int ((W-(y.length:Int))*(W-(y.length:Int)))):=by
   have e:(W-(y.length:Int))^(2:Int).toNat=(W-(y.length:Int))*(W-(y.length:Int)):=by
    show(W-(y.length:Int))^2=_
    rw [Int.pow_succ,Int.pow_succ,Int.pow_zero,Int.one_mul]
   rw [<-e]
   unfold ym3 dII
   exact if_pos (by simp;omega)
  exact bD (aR rfl (aR (aR rfl ln rfl) rfl pw) rfl)
 ·rw [Za (by omega)] at t2
  rw [if_neg c]
  exact bE t2
theorem ya8{t:Str}{W:Int}{y:Str}(hW:W<=40):∀(xs done:List Str) (x4:Option D),(∀l∈done++xs++[y],((l:Str).length:Int)<=W)->
  ∃z4,cO 4 nO (dQ (done.length:Int) (xs.length+1)) [some (.str t),some (.int W),some (.lst true (L2.bZ (done++xs++[y]))),some (.int (lR W done)),x4]=some (.nx,[some (.str t),some (.int W),some (.lst true (L2.bZ (done++xs++[y]))),some (.int (lR W (done++xs))),z4])
 |[],done,x4,h=>by
  have b:=zd0 (t:=t) (W:=W) (rg:=lR W done) (L:=done++[]++[y]) (i:=done.length) (y:=y) (by simp) (h y (by simp)) hW
  rw [if_neg (by simp)] at b
  refine⟨some (.int (done.length:Int)),?_⟩
  rw [Zi] at b|-
  show cO 4 nO (dQ (done.length:Int) (0+1)) _=_
  rw [kU,cO]
  show((nO [some (.str t),some (.int W),some (.lst true (L2.bZ (done++[y]))),some (.int (lR W done)),some (.int (done.length:Int))]).bind _)=_
  rw [b];rfl
 |x::xs,done,x4,h=>by
  have b:=zd0 (t:=t) (W:=W) (rg:=lR W done) (L:=done++(x::xs)++[y]) (i:=done.length) (y:=x) (by simp) (h x (by simp)) hW
  rw [if_pos (by simp)] at b
  have er:lR W (done++[x])=lR W done+(W-(x.length:Int))*(W-(x.length:Int)):=by simp [lR]
  rw [<-er] at b
  have ea:done++(x::xs)++[y]=done++[x]++xs++[y]:=by simp
  have eb:done++(x::xs)=done++[x]++xs:=by simp
  obtain⟨z4,q⟩:=ya8 hW xs (done++[x]) (some (.int (done.length:Int))) (by rw [<-ea];exact h)
  refine⟨z4,?_⟩
  rw [eb]
  rw [eb] at b
  show cO 4 nO (dQ (done.length:Int) ((xs.length+1)+1)) _=_
  rw [kU,cO]
  show((nO [some (.str t),some (.int W),some (.lst true (L2.bZ (done++[x]++xs++[y]))),some (.int (lR W done)),some (.int (done.length:Int))]).bind _)=_
  rw [b]
  rw [Z2] at q
  exact q
abbrev qH:tz6:=gP 2 3 yb6
theorem zv2{t:Str}{W:Int}{k:Nat}{ln rg:Int}(h:kI W t k ln rg)(hW:W<=40)(hl:t.length<=900000):qH [.str t,.int W]=some (.tup [.int ln,.int rg]):=by
 obtain⟨xs,y,e1,e2,e3,rfl,rfl⟩:=h
 have hn:=(zv1 t).2
 rw [e1] at hn
 have le:(L2.bZ (xs++[y])).length=xs.length+1:=by unfold L2.bZ;simp
 have sp:=zl0 (f:=aB 0) (p:=[some (.str t),some (.int W),none,none,none]) (t:=t) rfl hl
 rw [e1] at sp
 obtain⟨z4,q⟩:=ya8 (t:=t) (y:=y) hW xs [] none (by simpa using e2)
 rw [ZR] at q
 have er:eL (aA (aG cM (aA (aB 2) aE)) aE) [some (.str t),some (.int W),some (.lst true (L2.bZ (xs++[y]))),some (.int 0),none]=some (dQ 0 (xs.length+1)):=by
  unfold eL
  rw [aD (d:= .int ((L2.bZ (xs++[y])).length:Int)) (aS (aD rfl rfl) rfl) rfl,Z4,le]
  exact uE (by omega) (by rw [Z2] at hn;simp at hn;omega)
 have lp:eP 4 (eL (aA (aG cM (aA (aB 2) aE)) aE)) nO [some (.str t),some (.int W),some (.lst true (L2.bZ (xs++[y]))),some (.int 0),none]=some (.nx,[some (.str t),some (.int W),some (.lst true (L2.bZ (xs++[y]))),some (.int (lR W xs)),z4]):=by
  unfold eP
  rw [er];exact q
 have fn:bG (aA (aG cM (aA (aB 2) aE)) (aA (bB (aB 3)) aE)) [some (.str t),some (.int W),some (.lst true (L2.bZ (xs++[y]))),some (.int (lR W xs)),z4]=some (.tup [.int ((xs.length:Int)+1),.int (lR W xs)]):=by
  refine dM (aD (aS (aD rfl rfl) ?_) (aD (cB rfl rfl) rfl)) rfl (Z3 rfl)
  show some (D.int ((L2.bZ (xs++[y])).length:Int))=_
  rw [le];rfl
 exact fS rfl ((aN (bD sp)).trans ((aN (bD rfl)).trans ((aN lp).trans (cI fn))))
theorem ya9{t:Str}{W:Int}(hW:W<=40):∀(rest done:List Str) (rg:Int) (x4:Option D),(∀l∈rest,(l:Str).length<=900000)->(∃l∈rest,W<((l:Str).length:Int))->
  ∃q,cO 4 nO (dQ (done.length:Int) rest.length) [some (.str t),some (.int W),some (.lst true (L2.bZ (done++rest))),some (.int rg),x4]=some (.ret .non,q)
 |[],done,rg,x4,_,h=>by obtain⟨l,hl,_⟩:=h;cases hl
 | z::rest,done,rg,x4,hz,h=>by
  have hs:sizeLine=16777216:=ZP
  have gi:(done++z::rest)[done.length]? =some z:=by simp
  show ∃q,cO 4 nO (dQ (done.length:Int) (rest.length+1)) _=_
  rw [kU]
  by_cases c:(z.length:Int)<=W
  ·have b:=zd0 (t:=t) (rg:=rg) (L:=done++z::rest) (i:=done.length) (y:=z) gi c hW
   obtain⟨q,e⟩:=ya9 (t:=t) hW rest (done++[z]) (if done.length+1<(done++z::rest).length then rg+(W-(z.length:Int))*(W-(z.length:Int)) else rg) (some (.int (done.length:Int))) (fun l hl=>hz l (Z1 _ hl)) (by
    obtain⟨l,hl,hw⟩:=h
    rcases Z5.mp hl with e|e
    ·subst e;omega
    ·exact⟨l,e,hw⟩)
   refine⟨q,?_⟩
   rw [cO]
   show((nO [some (.str t),some (.int W),some (.lst true (L2.bZ (done++z::rest))),some (.int rg),some (.int (done.length:Int))]).bind _)=_
   rw [b]
   rw [Z2,Zh] at e
   exact e
  ·have g:atI (L2.bZ (done++z::rest)) (done.length:Int)=some (.str z):=by
    refine jY ?_
    unfold L2.bZ
    rw [Zc,gi];rfl
   have zl:=hz z Z0
   have t1:fB (f2 dGt (aG cM (aA (f2 dIx (aB 2) (aB 4)) aE)) (aB 1)) [some (.str t),some (.int W),some (.lst true (L2.bZ (done++z::rest))),some (.int rg),some (.int (done.length:Int))]=some (decide (W<(z.length:Int))):=dI (aR (aS (aD (aR rfl rfl g) rfl) (if_pos (by omega))) rfl rfl)
   rw [Zk (by omega)] at t1
   refine⟨[some (.str t),some (.int W),some (.lst true (L2.bZ (done++z::rest))),some (.int rg),some (.int (done.length:Int))],?_⟩
   rw [cO]
   show((nO [some (.str t),some (.int W),some (.lst true (L2.bZ (done++z::rest))),some (.int rg),some (.int (done.length:Int))]).bind _)=_
   rw [show nO [some (.str t),some (.int W),some (.lst true (L2.bZ (done++z::rest))),some (.int rg),some (.int (done.length:Int))]=some (.ret .non,[some (.str t),some (.int W),some (.lst true (L2.bZ (done++z::rest))),some (.int rg),some (.int (done.length:Int))]) from dR ((bM t1).trans rfl)]
   rfl
theorem xv1{t:Str}{W:Int}(hW:W<=40)(hl:t.length<=900000):qH [.str t,.int W]=some .non\/∃k ln rg,kI W t k ln rg:=by
 by_cases c:∀l∈lns t,((l:Str).length:Int)<=W
 ·obtain⟨xs,y,e⟩:=yj6 t
  exact .inr ⟨_,_,_,xs,y,e,by rw [<-e];exact c,rfl,rfl,rfl⟩
 ·refine .inl ?_
  obtain⟨hy,hn⟩:=zv1 t
  obtain⟨q,e⟩:=ya9 (t:=t) hW (lns t) [] 0 none (fun l h=>Zr (hy l h) hl) (by
   obtain⟨l,hc⟩:=Classical.not_forall.mp c
   obtain⟨hm,hc⟩:=Classical.not_imp.mp hc
   exact⟨l,hm,by omega⟩)
  rw [ZR] at e
  have sp:=zl0 (f:=aB 0) (p:=[some (.str t),some (.int W),none,none,none]) (t:=t) rfl hl
  have le:(L2.bZ (lns t)).length=(lns t).length:=by unfold L2.bZ;simp
  have er:eL (aA (aG cM (aA (aB 2) aE)) aE) [some (.str t),some (.int W),some (.lst true (L2.bZ (lns t))),some (.int 0),none]=some (dQ 0 (lns t).length):=by
   unfold eL
   rw [aD (d:= .int ((L2.bZ (lns t)).length:Int)) (aS (aD rfl rfl) rfl) rfl,Z4,le]
   exact uE (j:=((lns t).length:Int)) (by omega) (by omega)
  have lp:eP 4 (eL (aA (aG cM (aA (aB 2) aE)) aE)) nO [some (.str t),some (.int W),some (.lst true (L2.bZ (lns t))),some (.int 0),none]=some (.ret .non,q):=by
   unfold eP
   rw [er];exact e
  exact fS rfl ((aN (bD sp)).trans ((aN (bD rfl)).trans (dR lp)))
def nb(y x:Way):Prop:=ltW x y=false
theorem uI:∀a:List Int,HT.lexLt a a=false
 |[]=>rfl
 |x::a=>by show(if x=x then HT.lexLt a a else _)=_;rw [if_pos rfl];exact uI a
theorem yt4:∀{a b c:List Int},HT.lexLt a b=false->HT.lexLt b c=false->HT.lexLt a c=false
 |[],[],c,_,h=>h
 |[],_::_,_,h,_=>by cases h
 |x::a,b,[],_,_=>rfl
 |x::a,[],z::c,_,h=>by cases h
 | x::a,y::b,z::c,h1,h2=>by
  have h1':(if x=y then HT.lexLt a b else decide (x<y))=false:=h1
  have h2':(if y=z then HT.lexLt b c else decide (y<z))=false:=h2
  show(if x=z then HT.lexLt a c else decide (x<z))=false
  by_cases e1:x=y
  ·subst e1
   rw [if_pos rfl] at h1'
   by_cases e2:x=z
   ·subst e2
    rw [if_pos rfl] at h2'|-
    exact yt4 h1' h2'
   ·rw [if_neg e2] at h2'|-;exact h2'
  ·rw [if_neg e1] at h1'
   have g1:=Yt h1'
   by_cases e2:y=z
   ·subst e2
    rw [if_neg e1];exact h1'
   ·rw [if_neg e2] at h2'
    have g2:=Yt h2'
    rw [if_neg (by omega)]
    exact Za (by omega)
theorem wl7(a b a' b':Int):HT.lexLt [a,b] [a',b']=(if a=a' then(if b=b' then false else decide (b<b')) else decide (a<a')):=rfl
theorem xJ{y x:Way}:nb y x↔y.1.1<x.1.1\/(y.1.1=x.1.1/\(y.1.2<x.1.2\/(y.1.2=x.1.2/\HT.lexLt x.2 y.2=false))):=by
 have e:ltW x y=(if [x.1.1,x.1.2]=[y.1.1,y.1.2] then(if x.2=y.2 then false else HT.lexLt x.2 y.2) else HT.lexLt [x.1.1,x.1.2] [y.1.1,y.1.2]):=rfl
 have e2:(if x.2=y.2 then false else HT.lexLt x.2 y.2)=HT.lexLt x.2 y.2:=by
  by_cases c:x.2=y.2
  ·rw [if_pos c,c,uI]
  ·rw [if_neg c]
 unfold nb
 rw [e,e2,wl7]
 by_cases c1:x.1.1=y.1.1
 ·by_cases c2:x.1.2=y.1.2
  ·rw [if_pos (by rw [c1,c2])]
   constructor
   ·exact fun h=> .inr ⟨c1.symm,.inr ⟨c2.symm,h⟩⟩
   ·rintro(h|⟨_,h|⟨_,h⟩⟩)
    ·omega
    ·omega
    ·exact h
  ·rw [if_neg (by simp [c1,c2]),if_pos c1,if_neg c2]
   constructor
   ·intro h
    have:=Yt h
    exact .inr ⟨c1.symm,.inl (by omega)⟩
   ·rintro(h|⟨_,h|⟨h,_⟩⟩)
    ·omega
    ·exact Za (by omega)
    ·omega
 ·rw [if_neg (by simp [c1]),if_neg c1]
  constructor
  ·intro h
   have:=Yt h
   exact .inl (by omega)
  ·rintro(h|⟨h,_⟩)
   ·exact Za (by omega)
   ·omega
theorem xK(x:Way):nb x x:=xJ.mpr (.inr ⟨rfl,.inr ⟨rfl,uI _⟩⟩)
theorem yU{z y x:Way}(h1:nb z y)(h2:nb y x):nb z x:=by
 rw [xJ] at*
 rcases h1 with a|⟨a,a'|⟨a',a''⟩⟩<;>rcases h2 with b|⟨b,b'|⟨b',b''⟩⟩
 ·exact .inl (by omega)
 ·exact .inl (by omega)
 ·exact .inl (by omega)
 ·exact .inl (by omega)
 ·exact .inr ⟨by omega,.inl (by omega)⟩
 ·exact .inr ⟨by omega,.inl (by omega)⟩
 ·exact .inl (by omega)
 ·exact .inr ⟨by omega,.inl (by omega)⟩
 ·exact .inr ⟨by omega,.inr ⟨by omega,yt4 b'' a''⟩⟩
theorem xv2:∀{a b:List Int},HT.lexLt a b=true->HT.lexLt b a=false:=fun {a b} h=>by
 cases e:HT.lexLt b a with
 |false=>rfl
 | true =>
  cases e2:HT.lexLt a a with
  | false=>
   exact absurd h (by
    intro _
    have:∀{a b:List Int},HT.lexLt a b=true->HT.lexLt b a=true->False:=by
     intro a
     induction a with
     |nil=>intro b _ h2;cases b<;>cases h2
     | cons x a ih=>
      intro b h1 h2
      cases b with
      |nil=>cases h1
      | cons y b=>
       have h1':(if x=y then HT.lexLt a b else decide (x<y))=true:=h1
       have h2':(if y=x then HT.lexLt b a else decide (y<x))=true:=h2
       by_cases c:x=y
       ·subst c
        rw [if_pos rfl] at h1' h2'
        exact ih h1' h2'
       ·rw [if_neg c] at h1'
        rw [if_neg (fun z=>c z.symm)] at h2'
        have:=Xq h1'
        have:=Xq h2'
        omega
    exact this h e)
  |true=>rw [uI] at e2;cases e2
theorem yl3{x y:Way}(h:ltW x y=true):nb x y:=by
 have h':¬nb y x:=fun z=>by unfold nb at z;rw [h] at z;cases z
 rw [xJ] at h'|-
 by_cases c1:x.1.1<y.1.1
 ·exact .inl c1
 ·by_cases c2:x.1.1=y.1.1
  ·refine .inr ⟨c2,?_⟩
   by_cases c3:x.1.2<y.1.2
   ·exact .inl c3
   ·by_cases c4:x.1.2=y.1.2
    ·refine .inr ⟨c4,?_⟩
     cases e:HT.lexLt x.2 y.2 with
     |false=>exact absurd (.inr ⟨c2.symm,.inr ⟨c4.symm,e⟩⟩) h'
     |true=>exact xv2 e
    ·exact absurd (.inr ⟨c2.symm,.inl (by omega)⟩) h'
  ·exact absurd (.inl (by omega)) h'
theorem wl8{y x:Way}(h:nb y x)(i j:Int):nb ((y.1.1+i,y.1.2+j),y.2) ((x.1.1+i,x.1.2+j),x.2):=by
 rw [xJ] at h|-
 rcases h with a|⟨a,b|⟨b,c⟩⟩
 ·exact .inl (by show y.1.1+i<x.1.1+i;omega)
 ·exact .inr ⟨by show y.1.1+i=x.1.1+i;omega,.inl (by show y.1.2+j<x.1.2+j;omega)⟩
 ·exact .inr ⟨by show y.1.1+i=x.1.1+i;omega,.inr ⟨by show y.1.2+j=x.1.2+j;omega,c⟩⟩
def xb2(a b:List Int):Prop:=(∀x,b=a++x->x=[])/\(∀x,a=b++x->x=[])
theorem yt5:∀{a b:List Int},xb2 a b->∀u,HT.lexLt (a++u) (b++u)=HT.lexLt a b
 |[],b,h,u=>by
  have:b=[]:=h.1 b rfl
  subst this
  rw [ZR,uI,uI]
 |a::as,[],h,u=>by have:=h.2 (a::as) rfl;cases this
 | x::a,y::b,h,u=>by
  show(if x=y then HT.lexLt (a++u) (b++u) else decide (x<y))=(if x=y then HT.lexLt a b else decide (x<y))
  by_cases c:x=y
  ·subst c
   rw [if_pos rfl,if_pos rfl]
   exact yt5 ⟨fun z hz=>h.1 z (by rw [hz];rfl),fun z hz=>h.2 z (by rw [hz];rfl)⟩ u
  ·rw [if_neg c,if_neg c]
theorem wl9{y x:Way}(h:nb y x)(ha:xb2 x.2 y.2)(u:List Int):nb (y.1,y.2++u) (x.1,x.2++u):=by
 rw [xJ] at h|-
 rcases h with a|⟨a,b|⟨b,c⟩⟩
 ·exact .inl a
 ·exact .inr ⟨a,.inl b⟩
 ·exact .inr ⟨a,.inr ⟨b,by show HT.lexLt (x.2++u) (y.2++u)=false;rw [yt5 ha];exact c⟩⟩
theorem yt6:∀{F:Frt} {k:Nat} {y:Way},nW F k=some y->(k,y)∈F
 |[],_,_,h=>by cases h
 |p::F,k,y,h=>by
  rw [nW] at h
  by_cases e:p.1=k
  ·rw [if_pos e] at h;cases h;subst e;exact Z0
  ·rw [if_neg e] at h;exact Z1 _ (yt6 h)
theorem yt7:∀{F:Frt} {k:Nat} {y z:Way},(F.map (·.1)).Nodup->(k,y)∈F->(k,z)∈F->y=z
 |[],_,_,_,_,h,_=>by cases h
 |p::F,k,y,z,nd,h1,h2=>by
  rw [Zb,Zu] at nd
  rcases Z5.mp h1 with e1|e1<;>rcases Z5.mp h2 with e2|e2
  ·rw [<-e2] at e1;cases e1;rfl
  ·exact absurd (YE (f:=(·.1)) e2) (by rw [<-e1] at nd;exact nd.1)
  ·exact absurd (YE (f:=(·.1)) e1) (by rw [<-e2] at nd;exact nd.1)
  ·exact yt7 nd.2 e1 e2
theorem zv3:∀{F:Frt} {k:Nat} {x y:Way},(k,y)∈F->(k,x)∈mZ F k x
 |[],_,_,_,h=>by cases h
 |p::F,k,x,y,h=>by
  rw [mZ]
  rcases Z5.mp h with e|e
  ·rw [<-e,if_pos rfl];exact Z0
  ·exact Z1 _ (zv3 e)
theorem yl4:∀{F:Frt} {k:Nat} {x:Way} {q:Nat×Way},q∈F->q.1≠k->q∈mZ F k x
 |[],_,_,_,h,_=>by cases h
 |p::F,k,x,q,h,hk=>by
  rw [mZ]
  rcases Z5.mp h with e|e
  ·rw [<-e,if_neg hk];exact Z0
  ·exact Z1 _ (yl4 e hk)
def Has(F:Frt)(k:Nat)(x:Way):Prop:=∃y,(k,y)∈F/\nb y x
theorem Has.le{F:Frt}{k:Nat}{x z:Way}(h:Has F k x)(hz:nb x z):Has F k z:=by
 obtain⟨y,a,b⟩:=h
 exact⟨y,a,yU b hz⟩
theorem yt8{F:Frt}{k:Nat}{x:Way}(h:(F.map (·.1)).Nodup):((iF F k x).map (·.1)).Nodup:=by
 unfold iF
 cases e:nW F k with
 |none=>
  simp only
  rw [Y7,ZB]
  refine⟨h,by simp,fun a ha b hb z=> ?_⟩
  simp only [Zb,X1,Zg] at hb
  subst hb
  subst z
  exact zc7 e ha
 |some y=>
  simp only
  split
  ·rw [vR];exact h
  ·exact h
theorem yl5{F:Frt}{k:Nat}{x:Way}(nd:(F.map (·.1)).Nodup):Has (iF F k x) k x/\∀j z,Has F j z->Has (iF F k x) j z:=by
 unfold iF
 cases e:nW F k with
 |none=>
  simp only
  exact⟨⟨x,by simp,xK x⟩,fun j z ⟨y,a,b⟩=>⟨y,Zq _ a,b⟩⟩
 | some y=>
  simp only
  have hy:=yt6 e
  by_cases c:ltW x y=true
  ·rw [if_pos c]
   refine⟨⟨x,zv3 hy,xK x⟩,fun j z ⟨y',a,b⟩=> ?_⟩
   by_cases hj:j=k
   ·subst hj
    rw [yt7 nd a hy] at b
    exact⟨x,zv3 hy,yU (yl3 c) b⟩
   ·exact⟨y',yl4 a hj,b⟩
  ·rw [if_neg c]
   exact⟨⟨y,hy,by unfold nb;simpa using c⟩,fun j z h=>h⟩
theorem yV:∀{G F:Frt},(F.map (·.1)).Nodup->((kJ F G).map (·.1)).Nodup/\(∀p∈G,Has (kJ F G) p.1 p.2)/\∀j z,Has F j z->Has (kJ F G) j z
 |[],F,nd=>⟨nd,fun p h=>absurd h ZJ,fun _ _ h=>h⟩
 |p::G,F,nd=>by
  obtain⟨a,b,c⟩:=yV (G:=G) (yt8 (k:=p.1) (x:=p.2) nd)
  obtain⟨d,e⟩:=yl5 (k:=p.1) (x:=p.2) nd
  refine⟨a,fun q hq=> ?_,fun j z h=>c j z (e j z h)⟩
  rcases Z5.mp hq with h|h
  ·subst h;exact c _ _ d
  ·exact b q h
mutual
theorem yl6:∀{p:Pc} {b:Bool} {m:Int} {cs cs':List Int} {t t':Str},cL b m p cs t=some (cs',t')->∃a,cs=a++cs'/\cL b m p a t=some ([],t')
 | .leaf l,b,m,cs,cs',t,t',h=>by
  rw [cL] at h
  cases e:wr b m (col t) l with
  |none=>rw [e] at h;cases h
  |some w=>rw [e] at h;cases h;exact⟨[],rfl,by rw [cL,e];rfl⟩
 | .group r,b,m,cs,cs',t,t',h=>by
  rw [cL.eq_def] at h
  simp only at h
  cases b with
  |false=>
   simp only [ZQ,Ym] at h
   obtain⟨a,e1,e2⟩:=setR_cut h
   exact⟨a,e1,by rw [cL.eq_def];simpa using e2⟩
  | true=>
   cases cs with
   |nil=>simp at h
   | cons c cs=>
    simp only [Y2] at h
    by_cases c0:c=0
    ·simp only [c0,Y2] at h
     obtain⟨a,e1,e2⟩:=setR_cut h
     exact⟨c::a,by rw [e1];rfl,by rw [cL.eq_def];simpa [c0] using e2⟩
    ·by_cases c1:c=1
     ·simp [c1] at h
      obtain⟨a,e1,e2⟩:=setR_cut h
      exact⟨c::a,by rw [e1];rfl,by rw [cL.eq_def];simpa [c1] using e2⟩
     ·simp [c0,c1] at h
 | .hang n r,b,m,cs,cs',t,t',h=>by
  rw [cL] at h
  obtain⟨a,e1,e2⟩:=setR_cut h
  exact⟨a,e1,by rw [cL];exact e2⟩
 | .either rs,b,m,cs,cs',t,t',h=>by
  rw [cL.eq_def] at h
  cases cs with
  |nil=>cases h
  | cons c cs=>
   simp only at h
   by_cases c0:0<=c
   ·simp only [c0,Y2] at h
    obtain⟨a,e1,e2⟩:=setAt_cut h
    exact⟨c::a,by rw [e1];rfl,by rw [cL.eq_def];simpa [c0] using e2⟩
   ·simp [c0] at h
theorem setR_cut:∀{r:List Pc} {b:Bool} {m:Int} {cs cs':List Int} {t t':Str},setR b m r cs t=some (cs',t')->∃a,cs=a++cs'/\setR b m r a t=some ([],t')
 |[],b,m,cs,cs',t,t',h=>by rw [setR] at h;cases h;exact⟨[],rfl,by rw [setR]⟩
 | p::r,b,m,cs,cs',t,t',h=>by
  rw [setR] at h
  cases e:cL b m p cs t with
  |none=>rw [e] at h;cases h
  |some s=>
   obtain⟨c1,t1⟩:=s
   rw [e] at h
   obtain⟨a,e1,e2⟩:=yl6 e
   obtain⟨a',e3,e4⟩:=setR_cut (show setR b m r c1 t1=some (cs',t') from h)
   refine⟨a++a',by rw [e1,e3,Zh],?_⟩
   rw [setR,vQ a' e2]
   exact e4
theorem setAt_cut:∀{rs:List (List Pc)} {i:Nat} {b:Bool} {m:Int} {cs cs':List Int} {t t':Str},setAt b m rs i cs t=some (cs',t')->∃a,cs=a++cs'/\setAt b m rs i a t=some ([],t')
 |[],i,b,m,cs,cs',t,t',h=>by rw [setAt] at h;cases h
 |r::rs,0,b,m,cs,cs',t,t',h=>by
  rw [setAt] at h
  obtain⟨a,e1,e2⟩:=setR_cut h
  exact⟨a,e1,by rw [setAt];exact e2⟩
 |r::rs,i+1,b,m,cs,cs',t,t',h=>by
  rw [setAt] at h
  obtain⟨a,e1,e2⟩:=setAt_cut h
  exact⟨a,e1,by rw [setAt];exact e2⟩
end
def qI(R:List Int->Str->Prop):Prop:=∀c x t t',R c t->R (c++x) t'->x=[]/\t=t'
theorem qI.apart{R:List Int->Str->Prop}(h:qI R){a b:List Int}{s t:Str}(ha:R a s)(hb:R b t):xb2 a b:=
 ⟨fun x e=>by subst e;exact(h a x s t ha hb).1,fun x e=>by subst e;exact(h b x t s hb ha).1⟩
theorem yb0:∀{a b c d:List Int},a++b=c++d->(∃x,c=a++x)\/∃x,a=c++x:=fun {a b c d} h=>by
 rcases List.append_eq_append_iff.mp h with ⟨x,e,_⟩|⟨x,e,_⟩
 ·exact .inl ⟨x,e⟩
 ·exact .inr ⟨x,e⟩
theorem qI.aft{R:List Int->Str->Prop}{set:List Int->Str->Option (List Int×Str)}(h:qI R)(hs:∀c x t t',set c t=some ([],t')->set (c++x) t=some (x,t')):qI (Aft R set):=by
 rintro c x t t' ⟨c0,t0,c1,r1,rfl,e1⟩ ⟨d0,s0,d1,r2,e,e2⟩
 have key:c0=d0/\t0=s0:=by
  rcases yb0 (show c0++(c1++x)=d0++d1 by rw [<-e,Zh]) with ⟨z,rfl⟩|⟨z,rfl⟩
  ·obtain⟨rfl,rfl⟩:=h c0 z t0 s0 r1 r2
   exact⟨by rw [Zi],rfl⟩
  ·obtain⟨rfl,rfl⟩:=h d0 z s0 t0 r2 r1
   exact⟨by rw [Zi],rfl⟩
 obtain⟨rfl,rfl⟩:=key
 rw [Zh] at e
 have ed:=YY e
 subst ed
 rw [hs c1 x t0 t e1] at e2
 cases e2
 exact⟨rfl,rfl⟩
theorem qI.chose{R:List Int->Str->Prop}(h:qI R)(n:Int):qI (ye3 R n):=by
 rintro c x t t' ⟨c0,r1,rfl⟩ ⟨d0,r2,e⟩
 rcases yb0 (show c0++([n]++x)=d0++[n] by rw [<-e,Zh]) with ⟨z,rfl⟩|⟨z,rfl⟩
 ·obtain⟨rfl,rfl⟩:=h c0 z t t' r1 r2
  rw [Zi,Zh] at e
  have:=YY e
  exact⟨by simpa using this,rfl⟩
 ·obtain⟨rfl,rfl⟩:=h d0 z t' t r2 r1
  rw [Zi,Zh] at e
  have:=YY e
  exact⟨by simpa using this,rfl⟩
def nB(W:Int)(R:List Int->Str->Prop)(F:Frt):Prop:=∀c t k ln rg,R c t->kI W t k ln rg->Has F k ((ln,rg),c)
theorem nB.mono{W:Int}{R R':List Int->Str->Prop}{F:Frt}(h:nB W R F)(k:∀c t,R' c t->R c t):nB W R' F:=fun c t j ln rg r hc=>h c t j ln rg (k c t r) hc
theorem yz5{W:Int}{R:List Int->Str->Prop}{F:Frt}(hf:qI R)(hg:Good W R F)(h:nB W R F)(n:Int):nB W (ye3 R n) (lC F n):=by
 rintro c t k ln rg ⟨c0,r,rfl⟩ hc
 obtain⟨y,hy,hn⟩:=h c0 t k ln rg r hc
 obtain⟨t',ry,_⟩:=hg.hit _ hy
 have:=(yV (G:=F.map (yn2 n)) (F:=[]) Zn).2.1 (yn2 n (k,y)) (YE hy)
 exact this.le (wl9 hn (hf.apart r ry) [n])
theorem xm2{W:Int}{t:Str}{k k':Nat}{ln ln' rg rg':Int}(h:kI W t k ln rg)(h':kI W t k' ln' rg'):k=k'/\ln=ln'/\rg=rg':=by
 obtain⟨xs,y,e,_,rfl,rfl,rfl⟩:=h
 obtain⟨xs',y',e',_,rfl,rfl,rfl⟩:=h'
 rw [e] at e'
 have h1:=Xb e' rfl
 have h2:=X6 e' rfl
 subst h1
 cases h2
 exact⟨rfl,rfl,rfl⟩
theorem xm3{W:Int}{b:Bool}{m:Int}{l:Leaf}{t w:Str}{k:Nat}{ln rg:Int}(hl:eV l)(h0:0<=m)(h1:m<=200)(hw:wr b m (col t) l=some w)(hc:kI W (t++w) k ln rg):∃ln0 rg0 i j,kI W t (col t) ln0 rg0/\(∀c:Int×Int,jQ W b m l (col t) c=some (k,(c.1+i,c.2+j)))/\ln=ln0+i/\rg=rg0+j:=by
 obtain⟨xs,y,e⟩:=yj6 t
 have ck:=yj7 e
 obtain⟨ys,z,f1,f2,rfl,rfl,rfl⟩:=hc
 rcases(zo0 hl h0 h1 hw).1 with hn|⟨m',rfl⟩
 ·have e2:=ys1 e hn
  rw [e2] at f1
  have g1:=Xb f1 rfl
  have g2:=X6 f1 rfl
  subst g1
  cases g2
  have hz:=f2 (y++w) (by simp)
  rw [dC] at hz
  refine⟨(xs.length:Int)+1,lR W xs,0,0,⟨xs,y,e,fun q hq=> ?_,ck,rfl,rfl⟩,fun c=> ?_,by omega,by omega⟩
  ·rcases Zp.mp hq with g|g
   ·exact f2 q (Zq _ g)
   ·rw [Zg.mp g];omega
  ·unfold jQ
   rw [hw,Z4,xy0 hn]
   simp only [ZQ,Ym]
   rw [if_neg (by rw [ck];omega),dC,ck,Int.add_zero,Int.add_zero]
 ·have e2:lns (t++nlw m')=lns t++[Txt.mul " " m']:=xj8 (zc4 m')
  rw [e2,e] at f1
  have g1:=Xb f1 rfl
  have g2:=X6 f1 rfl
  subst g1
  cases g2
  have hz:=f2 (Txt.mul " " m') (by simp)
  rw [iQ] at hz
  refine⟨(xs.length:Int)+1,lR W xs,1,(W-(col t:Int))*(W-(col t:Int)),⟨xs,y,e,fun q hq=>f2 q (Zq _ hq),ck,rfl,rfl⟩,fun c=> ?_,by rw [Z2];simp,?_⟩
  ·unfold jQ
   rw [hw,Z4,xj9]
   simp only [Y2]
   rw [ys3,if_neg (by omega),iQ]
  ·rw [ck]
   unfold lR
   rw [Y7,List.sum_append]
   simp
theorem zd1{W:Int}{b:Bool}{m:Int}{l:Leaf}:∀{F G:Frt},(G.map (·.1)).Nodup->((kK W b m l F G).map (·.1)).Nodup/\(∀p∈F,∀s,jQ W b m l p.1 p.2.1=some s->Has (kK W b m l F G) s.1 (s.2,p.2.2))/\∀j z,Has G j z->Has (kK W b m l F G) j z
 |[],G,nd=>⟨nd,fun p h=>absurd h ZJ,fun _ _ h=>h⟩
 | p::F,G,nd=>by
  cases e:jQ W b m l p.1 p.2.1 with
  | none=>
   have eq:kK W b m l (p::F) G=kK W b m l F G:=by
    show kK W b m l F (match jQ W b m l p.1 p.2.1 with|none=>G|some s=>iF G s.1 (s.2,p.2.2))=_
    rw [e]
   obtain⟨a,h1,h2⟩:=zd1 (W:=W) (b:=b) (m:=m) (l:=l) (F:=F) nd
   rw [eq]
   refine⟨a,fun q hq s hs=> ?_,h2⟩
   rcases Z5.mp hq with z|z
   ·rw [z,e] at hs;cases hs
   ·exact h1 q z s hs
  | some s=>
   have eq:kK W b m l (p::F) G=kK W b m l F (iF G s.1 (s.2,p.2.2)):=by
    show kK W b m l F (match jQ W b m l p.1 p.2.1 with|none=>G|some s=>iF G s.1 (s.2,p.2.2))=_
    rw [e]
   obtain⟨a,h1,h2⟩:=zd1 (W:=W) (b:=b) (m:=m) (l:=l) (F:=F) (yt8 (k:=s.1) (x:=(s.2,p.2.2)) nd)
   obtain⟨d,f⟩:=yl5 (k:=s.1) (x:=(s.2,p.2.2)) nd
   rw [eq]
   refine⟨a,fun q hq s' hs=> ?_,fun j z h=>h2 j z (f j z h)⟩
   rcases Z5.mp hq with z|z
   ·rw [z,e] at hs;cases hs;rw [z];exact h2 _ _ d
   ·exact h1 q z s' hs
theorem yz6{W:Int}{R:List Int->Str->Prop}{b:Bool}{m:Int}{l:Leaf}{F:Frt}(hl:eV l)(h0:0<=m)(h1:m<=200)(h:nB W R F):nB W (Aft R (cL b m (.leaf l))) (kK W b m l F []):=by
 rintro c t k ln rg ⟨c0,t0,c1,r,rfl,e⟩ hc
 rw [cL] at e
 cases ew:wr b m (col t0) l with
 |none=>rw [ew] at e;cases e
 |some w=>
  rw [ew] at e
  cases e
  obtain⟨ln0,rg0,i,j,g1,g2,rfl,rfl⟩:=xm3 hl h0 h1 ew hc
  obtain⟨y,hy,hn⟩:=h c0 t0 _ _ _ r g1
  have:=(zd1 (W:=W) (b:=b) (m:=m) (l:=l) (F:=F) (G:=[]) Zn).2.1 (col t0,y) hy _ (g2 y.1)
  rw [Zi]
  exact this.le (wl8 hn i j)
theorem wf0{b:Bool}{m:Int}{p:Pc}{c:List Int}{t t':Str}(hp:∀l,p≠ .leaf l)(h:cL b m p c t=some ([],t')):∃(i:Nat) (x:List Pc×Bool×Int) (c':List Int),(cX b m p)[i]? =some x/\c=(if dF b p=true then [(i:Int)] else [])++c'/\setR x.2.1 x.2.2 x.1 c' t=some ([],t'):=by
 cases p with
 |leaf l=>exact absurd rfl (hp l)
 | group r=>
  rw [cL.eq_def] at h
  cases b with
  |false=>exact⟨0,(r,false,m),c,by simp [cX],by simp [dF],by simpa using h⟩
  | true=>
   cases c with
   |nil=>simp at h
   | cons d c=>
    simp only [Y2] at h
    by_cases c0:d=0
    ·subst c0
     exact⟨0,(r,false,m),c,by simp [cX],by simp [dF],by simpa using h⟩
    ·by_cases c1:d=1
     ·subst c1
      exact⟨1,(r,true,m),c,by simp [cX],by simp [dF],by simpa using h⟩
     ·simp [c0,c1] at h
 |hang n r=>exact⟨0,(r,b,m+n),c,by simp [cX],by simp [dF],by rw [cL] at h;exact h⟩
 | either rs=>
  rw [cL.eq_def] at h
  cases c with
  |nil=>cases h
  | cons d c=>
   simp only at h
   by_cases c0:0<=d
   ·simp only [c0,Y2] at h
    cases e:rs[d.toNat]? with
    |none=>rw [yI e] at h;cases h
    |some r=>
     rw [sB e] at h
     refine⟨d.toNat,(r,b,m),c,?_,by simp [dF];omega,h⟩
     show(rs.map fun r=>(r,b,m))[d.toNat]? =_
     rw [Zc,e];rfl
   ·simp [c0] at h
def zw0(W:Int)(GR:Bool->Int->List Pc->Frt->Frt)(r:List Pc):Prop:=∀(b:Bool) (m:Int) (R:List Int->Str->Prop) (F:Frt),0<=m->m+12*depR r<=200->qI R->Good W R F->nB W R F->nB W (Aft R (setR b m r)) (GR b m r F)
theorem yt9{GR:Bool->Int->List Pc->Frt->Frt}{tk:Bool}{F:Frt}:∀(xs:List (List Pc×Bool×Int)) (n:Nat) (A:Frt),(A.map (·.1)).Nodup->(∀(i:Nat) x,xs[i]? =some x->∀k z,Has (GR x.2.1 x.2.2 x.1 (if tk=true then lC F ((n+i:Nat):Int) else F)) k z->Has (frW GR tk F n xs A) k z)/\∀j z,Has A j z->Has (frW GR tk F n xs A) j z
 |[],n,A,nd=>⟨fun i x h=>by simp at h,fun _ _ h=>h⟩
 | x::xs,n,A,nd=>by
  rw [frW]
  obtain⟨a,b,c⟩:=yV (G:=GR x.2.1 x.2.2 x.1 (if tk=true then lC F n else F)) nd
  obtain⟨d,e⟩:=yt9 (GR:=GR) (tk:=tk) (F:=F) xs (n+1) _ a
  refine⟨fun i y hy k z hk=> ?_,fun j z h=>e j z (c j z h)⟩
  cases i with
  |zero=>
   simp at hy
   subst hy
   obtain⟨w,hw,hn⟩:=hk
   exact e k z ((b (k,w) hw).le hn)
  |succ i=>exact d i y (by simpa using hy) k z (by rwa [show n+1+i=n+(i+1) by omega])
theorem yz7{W:Int}{GR:Bool->Int->List Pc->Frt->Frt}{k:Nat}(hG:∀r,depR r<k->okR r->zw0 W GR r){R:List Int->Str->Prop}{b:Bool}{m:Int}{p:Pc}{F:Frt}(hk:dJ p<=k)(ho:okP p)(h0:0<=m)(h1:m+12*dJ p<=200)(hf:qI R)(hF:Good W R F)(hB:nB W R F):nB W (Aft R (cL b m p)) (frP W GR b m F p):=by
 have hold:(∀l,p≠ .leaf l)->nB W (Aft R (cL b m p)) (frW GR (dF b p) F 0 (cX b m p) []):=by
  intro hp
  rintro c t q ln rg ⟨c0,t0,c1,r,rfl,e⟩ hc
  obtain⟨i,x,c',hx,rfl,hs⟩:=wf0 hp e
  obtain⟨a1,a2,a3,a4⟩:=zk6 ho h0 h1 hk (ZG hx)
  refine(yt9 (GR:=GR) (tk:=dF b p) (F:=F) (cX b m p) 0 [] Zn).1 i x hx q _ ?_
  rw [YF]
  by_cases tk:dF b p=true
  ·rw [if_pos tk,if_pos tk]
   exact hG x.1 a3 a4 x.2.1 x.2.2 _ _ a1 a2 (hf.chose i) (yN hF i) (yz5 hf hF hB i) _ t q ln rg ⟨c0++[(i:Int)],t0,c',⟨c0,r,rfl⟩,by rw [Zh],hs⟩ hc
  ·rw [if_neg tk,if_neg tk]
   exact hG x.1 a3 a4 x.2.1 x.2.2 _ _ a1 a2 hf hF hB _ t q ln rg ⟨c0,t0,c',r,rfl,hs⟩ hc
 cases p with
 |leaf l=>exact yz6 ho h0 (by rw [dJ] at h1;omega) hB
 |group r=>exact hold nofun
 |hang n r=>exact hold nofun
 |either rs=>exact hold nofun
theorem yb1{W:Int}{GR:Bool->Int->List Pc->Frt->Frt}{k:Nat}(hGd:∀r,depR r<k->okR r->rB W GR r)(hG:∀r,depR r<k->okR r->zw0 W GR r){b:Bool}{m:Int}(h0:0<=m):∀{r:List Pc} {R:List Int->Str->Prop} {F:Frt},depR r<=k->okR r->m+12*depR r<=200->qI R->Good W R F->nB W R F->nB W (Aft R (setR b m r)) (r.foldl (fun F p=>frP W GR b m F p) F)
 |[],R,F,_,_,_,_,_,hB=>hB.mono fun c t ⟨c0,t0,c1,r,e,h⟩=>by
  rw [setR] at h
  cases h
  rw [e,Zi];exact r
 | p::r,R,F,hk,ho,h1,hf,hF,hB=>by
  rw [depR] at hk h1
  have hp:=yO hGd (b:=b) (show dJ p<=k by omega) ho.1 h0 (by omega) hF
  have hb:=yz7 hG (b:=b) (show dJ p<=k by omega) ho.1 h0 (by omega) hf hF hB
  have hff:qI (Aft R (cL b m p)):=hf.aft fun c x t t' e=>by rw [vQ x e];rfl
  refine(yb1 hGd hG h0 (r:=r) (by omega) ho.2 (by omega) hff hp hb).mono fun c t=> ?_
  rintro⟨c0,t0,c1,r1,rfl,e⟩
  rw [setR] at e
  cases e2:cL b m p c1 t0 with
  |none=>rw [e2] at e;cases e
  |some s=>
   obtain⟨c2,t1⟩:=s
   rw [e2] at e
   obtain⟨a,rfl,e3⟩:=yl6 e2
   exact⟨c0++a,t1,c2,⟨c0,t0,a,r1,rfl,e3⟩,by rw [Zh],e⟩
theorem yl7{W:Int}:∀(n:Nat) (r:List Pc),depR r<n->okR r->zw0 W (frN W n) r
 |0,_,h,_=>absurd h (Yq _)
 |n+1,r,h,ho=>fun b m R F h0 h1 hf hF hB=>by
  rw [frN]
  exact yb1 (fun q h1 h2=>yP n q h1 h2) (fun q h1 h2=>yl7 n q h1 h2) h0 (by omega) ho h1 hf hF hB
theorem yz8{W:Int}{n:Nat}{r:List Pc}(hW:0<=W)(hd:depR r<n)(ho:okR r)(h1:12*(depR r:Int)<=200):nB W (fun cs t=>setR true 0 r cs ⟨#[]⟩=some ([],t)) (lD W n r):=by
 have hf:qI (fun cs t=>cs=[]/\t=⟨#[]⟩):=by
  rintro c x t t' ⟨rfl,rfl⟩ ⟨e,rfl⟩
  exact⟨e,rfl⟩
 have hb:nB W (fun cs t=>cs=[]/\t=⟨#[]⟩) [(0,((1,0),[]))]:=by
  rintro c t k ln rg ⟨rfl,rfl⟩ hc
  obtain⟨rfl,rfl,rfl⟩:=xm2 hc (zk5 hW)
  exact⟨_,Zg.mpr rfl,xK _⟩
 refine(yl7 n r hd ho true 0 _ _ (Yf _) (by omega) hf (zo7 hW) hb).mono fun c t e=> ?_
 exact⟨[],⟨#[]⟩,c,⟨rfl,rfl⟩,rfl,e⟩
theorem zp3:∀C:List Int,D.datas (aY C)=some (C.map PyData.int)
 |[]=>rfl
 |c::C=>by
  show(D.data (.int c)).bind (fun p=>(D.datas (aY C)).map (p::·))=_
  rw [zp3 C];rfl
theorem yl8:∀C:List Int,PyData.canLayAll0 (C.map PyData.int)=true
 |[]=>rfl
 |c::C=>by show(PyData.canLay0 (.int c)&&PyData.canLayAll0 (C.map PyData.int))=true;rw [yl8 C];rfl
theorem zp4:∀C:List Int,PyData.depthAll (C.map PyData.int)=0
 |[]=>rfl
 |c::C=>by show max (PyData.depth (.int c)) (PyData.depthAll (C.map PyData.int))=0;rw [zp4 C];rfl
def bh:List Int->List Int->Bool
 |x::a,y::b=>if x=y then bh a b else decide (y<x)
 |_,_=>false
theorem xm4:∀{a b:List Int},HT.lexLt b a=false->bh a b=false
 |[],_,_=>by rw [bh];simp
 |_::_,[],_=>by rw [bh];simp
 | x::a,y::b,h=>by
  have h':(if y=x then HT.lexLt b a else decide (y<x))=false:=h
  show(if x=y then bh a b else decide (y<x))=false
  by_cases c:x=y
  ·subst c
   rw [if_pos rfl] at h'|-
   exact xm4 h'
  ·rw [if_neg c]
   rw [if_neg (fun z=>c z.symm)] at h'
   exact h'
theorem yl9:∀A B:List Int,PyData.eqvAll (A.map PyData.int) (B.map PyData.int)=decide (A=B)
 |[],[]=>rfl
 |[],_::_=>rfl
 |_::_,[]=>rfl
 |a::A,b::B=>by
  show(PyData.eqv (.int a) (.int b)&&PyData.eqvAll (A.map PyData.int) (B.map PyData.int))=_
  rw [yl9 A B]
  show((a==b)&&decide (A=B))=_
  rw [Yn]
  simp
theorem ym0(A B:List Int):eqB (.tup (aY A)) (.tup (aY B))=some (decide (A=B)):=by
 have e:∀c:List Int,D.data (.tup (aY c))=some (.tuple (c.map PyData.int)):=fun c=>by rw [D.data,zp3];rfl
 have c1:∀c:List Int,PyData.canLay0 (.tuple (c.map PyData.int))=true:=yl8
 have d:PyData.depth (.tuple (A.map PyData.int))<=60:=by
  show PyData.depthAll (A.map PyData.int)+1<=60
  rw [zp4];decide
 have q:PyData.eqv (.tuple (A.map PyData.int)) (.tuple (B.map PyData.int))=decide (A=B):=yl9 A B
 show zd6 (.tup (aY A)) (.tup (aY B))=_
 unfold zd6
 rw [e,e]
 show(if (PyData.canLay0 _&&PyData.canLay0 _&&decide (PyData.depth _<=60))=true then some (PyData.eqv _ _) else none)=_
 rw [c1,c1,Zk d,q];rfl
def qJ:tz1:=fIf (aV (fB (f2 dNe (f2 dIx (aB 0) (aB 2)) (f2 dIx (aB 1) (aB 2))))) (bX (aI (f2 dGt (f2 dIx (aB 0) (aB 2)) (f2 dIx (aB 1) (aB 2))))) bH
abbrev zT:tz6:=gP 2 1 zi9
theorem ym1:∀(a b p q:List Int) (x2:Option D),p.length=q.length->∃z,(bh a b=false/\cO 2 qJ (dQ (p.length:Int) (min a.length b.length)) [some (.tup (aY (p++a))),some (.tup (aY (q++b))),x2]=some (.nx,z))\/cO 2 qJ (dQ (p.length:Int) (min a.length b.length)) [some (.tup (aY (p++a))),some (.tup (aY (q++b))),x2]=some (.ret (.bl (bh a b)),z)
 |[],b,p,q,x2,_=>by
  rw [show min ([]:List Int).length b.length=0 by simp]
  exact⟨_,.inl ⟨by rw [bh];simp,rfl⟩⟩
 |x::a,[],p,q,x2,_=>by
  rw [show min (x::a).length ([]:List Int).length=0 by simp]
  exact⟨_,.inl ⟨by rw [bh];simp,rfl⟩⟩
 | x::a,y::b,p,q,x2,h=>by
  rw [show min (x::a).length (y::b).length=min a.length b.length+1 by simp,kU]
  have ga:atI (aY (p++x::a)) (p.length:Int)=some (.int x):=jY (by unfold aY;rw [Zc];simp)
  have gb:atI (aY (q++y::b)) (p.length:Int)=some (.int y):=jY (by unfold aY;rw [Zc,h];simp)
  have ia:f2 dIx (aB 0) (aB 2) [some (.tup (aY (p++x::a))),some (.tup (aY (q++y::b))),some (.int (p.length:Int))]=some (.int x):=aR rfl rfl ga
  have ib:f2 dIx (aB 1) (aB 2) [some (.tup (aY (p++x::a))),some (.tup (aY (q++y::b))),some (.int (p.length:Int))]=some (.int y):=aR rfl rfl gb
  have t1:fB (f2 dNe (f2 dIx (aB 0) (aB 2)) (f2 dIx (aB 1) (aB 2))) [some (.tup (aY (p++x::a))),some (.tup (aY (q++y::b))),some (.int (p.length:Int))]=some (!decide (x=y)):=dI (aR ia ib rfl)
  have st:∀Y,qJ [some (.tup (aY (p++x::a))),some (.tup (aY (q++y::b))),some (.int (p.length:Int))]=some Y->cO 2 qJ (.int (p.length:Int)::dQ ((p.length+1:Nat):Int) (min a.length b.length)) [some (.tup (aY (p++x::a))),some (.tup (aY (q++y::b))),x2]=(match Y with
    |(.nx,p')=>cO 2 qJ (dQ ((p.length+1:Nat):Int) (min a.length b.length)) p'
    |(.ct,p')=>cO 2 qJ (dQ ((p.length+1:Nat):Int) (min a.length b.length)) p'
    |(.bk,p')=>some (.nx,p')
    |(.ret d,p')=>some (.ret d,p')):=fun Y hY=>by
   rw [cO]
   show((qJ [some (.tup (aY (p++x::a))),some (.tup (aY (q++y::b))),some (.int (p.length:Int))]).bind _)=_
   rw [hY];rfl
  by_cases c:x=y
  ·subst c
   rw [Zk rfl] at t1
   obtain⟨z,hz⟩:=ym1 a b (p++[x]) (q++[x]) (some (.int (p.length:Int))) (by simp [h])
   rw [Z2,Zh,Zh] at hz
   have e:bh (x::a) (x::b)=bh a b:=by show(if x=x then bh a b else _)=_;rw [if_pos rfl]
   rw [e]
   refine⟨z,?_⟩
   rw [st _ (bE t1)]
   exact hz
  ·rw [Za c] at t1
   have e:bh (x::a) (y::b)=decide (y<x):=by show(if x=y then bh a b else _)=_;rw [if_neg c]
   rw [e]
   exact⟨[some (.tup (aY (p++x::a))),some (.tup (aY (q++y::b))),some (.int (p.length:Int))],.inr (st _ ((bM t1).trans (cI (aR ia ib rfl))))⟩
theorem zp5(a b:List Int)(ha:a.length<=1000):zT [.tup (aY a),.tup (aY b)]=some (.bl (bh a b)):=by
 obtain⟨z,hz⟩:=ym1 a b [] [] none rfl
 rw [ZR,ZR] at hz
 have er:eL (aA (aG rG (aA (aG cM (aA (aB 0) aE)) (aA (aG cM (aA (aB 1) aE)) aE))) aE) [some (.tup (aY a)),some (.tup (aY b)),none]=some (dQ 0 (min a.length b.length)):=by
  unfold eL
  rw [aD (d:= .int ((min a.length b.length:Nat):Int)) (aS (aD (aS (aD rfl rfl) rfl) (aD (aS (aD rfl rfl) rfl) rfl)) (by
   show some (D.int (if ((aY b).length:Int)<((aY a).length:Int) then((aY b).length:Int) else((aY a).length:Int)))=_
   rw [sE,sE]
   congr 2
   split<;>omega)) rfl,Z4]
  exact uE (j:=((min a.length b.length:Nat):Int)) (by omega) (by omega)
 have lp:∀Y,cO 2 qJ (dQ 0 (min a.length b.length)) [some (.tup (aY a)),some (.tup (aY b)),none]=Y->eP 2 (eL (aA (aG rG (aA (aG cM (aA (aB 0) aE)) (aA (aG cM (aA (aB 1) aE)) aE))) aE)) qJ [some (.tup (aY a)),some (.tup (aY b)),none]=Y:=fun Y h=>by
  unfold eP
  rw [er];exact h
 rcases hz with ⟨h1,h2⟩|h2
 ·rw [h1]
  exact fS rfl ((aN (lp _ h2)).trans rfl)
 ·exact fS rfl (dR (lp _ h2))
def nnW(x:Way):List (List Int):=[[x.1.1,x.1.2],x.2]
theorem zd2:∀F:Frt,D.intsss (gI F)=some (F.map fun q=>nnW q.2)
 |[]=>rfl
 |q::F=>by
  show(D.intss [.tup [.int q.2.1.1,.int q.2.1.2],.tup (aY q.2.2)]).bind (fun n=>(D.intsss (gI F)).map (n::·))=_
  rw [zd2 F]
  have:D.intss [.tup [.int q.2.1.1,.int q.2.1.2],.tup (aY q.2.2)]=some (nnW q.2):=by simp [D.intss,D.ints,zo2,nnW]
  rw [this];rfl
theorem zp6{F:Frt}:∀k:Nat,k<F.length->∃q,F[PySem.argBest (ltN (F.map fun q=>nnW q.2)) k]? =some q/\∀i x,i<=k->F[i]? =some x->nb q.2 x.2
 |0,h=>by
  obtain⟨q,hq⟩:∃q,F[0]? =some q:=⟨F[0],by simp⟩
  refine⟨q,hq,fun i x hi hx=> ?_⟩
  have:i=0:=by omega
  subst this
  rw [hq] at hx
  cases hx
  exact xK _
 | k+1,h=>by
  obtain⟨q,hq,hn⟩:=zp6 (F:=F) k (by omega)
  obtain⟨y,hy⟩:∃y,F[k+1]? =some y:=⟨F[k+1],by simp [h]⟩
  have e:ltN (F.map fun q=>nnW q.2) (k+1) (PySem.argBest (ltN (F.map fun q=>nnW q.2)) k)=ltW y.2 q.2:=by
   generalize PySem.argBest (ltN (F.map fun q=>nnW q.2)) k=z at hq
   unfold ltN
   rw [YK,YK,Zc,Zc,hy,hq];rfl
  rw [PySem.argBest,e]
  by_cases c:ltW y.2 q.2=true
  ·rw [if_pos c]
   refine⟨y,hy,fun i x hi hx=> ?_⟩
   by_cases z:i=k+1
   ·subst z
    rw [hy] at hx
    cases hx
    exact xK _
   ·exact yU (yl3 c) (hn i x (by omega) hx)
  ·rw [if_neg c]
   refine⟨q,hq,fun i x hi hx=> ?_⟩
   by_cases z:i=k+1
   ·subst z
    rw [hy] at hx
    cases hx
    unfold nb
    rwa [Xy] at c
   ·exact hn i x (by omega) hx
abbrev yn7:tz6:=gP 1 0 tI
theorem wf1{W:Int}{F:Frt}(h:F≠[]):∃q∈F,(∀x∈F,nb q.2 x.2)/\yn7 [aO false W F]=some (.tup (aY q.2.2)):=by
 have hl:0<F.length:=List.length_pos_iff.mpr h
 obtain⟨q,hq,hn⟩:=zp6 (F:=F) (F.length-1) (by omega)
 refine⟨q,ZG hq,fun x hx=> ?_,?_⟩
 ·obtain⟨i,hi,e⟩:=List.mem_iff_getElem.mp hx
  exact hn i x (by omega) (by simp [hi,e])
 ·have fb:cQ "Front" "best" (aB 0) [some (aO false W F)]=some (.dic false (fN F) (gI F)):=zk7 rfl
  have t:fTK (cQ "Front" "best" (aB 0)) [some (aO false W F)]=some true:=by
   unfold fTK
   rw [fb]
   show some (!(fN F).isEmpty)=_
   cases F with
   |nil=>exact absurd rfl h
   |cons q F=>rfl
  have m:ye2 (cQ "Front" "best" (aB 0)) [some (aO false W F)]=some (wyD q.2):=by
   unfold ye2
   rw [fb]
   show(D.intsss (gI F)).bind _=_
   rw [zd2,Z4]
   show(gI F)[PySem.argBest (ltN (F.map fun q=>nnW q.2)) ((F.map fun q=>nnW q.2).length-1)]? =_
   rw [Zd]
   unfold gI
   rw [Zc,hq];rfl
  exact jM rfl (dE (bE (nI t)) ⟨_,cI (aR (cB m (uY _)) rfl (iD _ _ _))⟩)
abbrev zf1:List D->Bool:=gX 1 0 sO
theorem xv3(W:Int):zf1 [aO false W []]=true:=rfl
abbrev zr4(n m:Nat):tz6:=gP 2 1 (ze0 yn7 (uJ n) xS (vG m))
theorem xv4{W:Int}{n m:Nat}{r:List Pc}(hW0:0<=W)(hW1:W<=40)(hd:depR r<n)(hdm:depR r<m)(h8:depR r<=16)(ho:okR r)(hl:(toksR r).length<=800)(hne:lD W n r≠[]):
  ∃q∈lD W n r,(∀x∈lD W n r,nb q.2 x.2)/\∃t,setR true 0 r q.2.2 ⟨#[]⟩=some ([],t)/\kI W t q.1 q.2.1.1 q.2.1.2/\zr4 n m [.tup (pcsD r),.int W]=some (.tup [.str t,.tup (aY q.2.2)]):=by
 have g:Good W (fun cs t=>setR true 0 r cs ⟨#[]⟩=some ([],t)) (lD W n r):=yy6 (n:=n) hW0 hd ho (by omega)
 obtain⟨q,hq,hn,e⟩:=wf1 (W:=W) hne
 obtain⟨t,hs,hc⟩:=g.hit q hq
 refine⟨q,hq,hn,t,hs,hc,?_⟩
 have s1:aU 2 (aI (aG yn7 (aA (aG (uJ n) (aA (kY (aG xS (aA (aB 1) aE))) (aA (aB 0) aE))) aE))) [some (.tup (pcsD r)),some (.int W),none]=some (.nx,[some (.tup (pcsD r)),some (.int W),some (.tup (aY q.2.2))]):=
  bD (aS (aD (aS (aD (xH (aS (aD rfl rfl) (zk9 hW0))) (aD rfl rfl)) (zc9 hW0 hW1 hd h8 ho hl)) rfl) e)
 have im:=kM q.2.2
 exact jM rfl (dE s1 ⟨_,cI (dM (aD (aS (aD rfl (aD rfl rfl)) (zz8 hdm h8 ho hl hs)) (aD (cB (d:= .tup (aY q.2.2)) rfl im) rfl)) (by simp [D.imms,D.imm,im]) (by simp))⟩)
abbrev xU(n:Nat):List D->Bool:=gX 2 1 (za3 zf1 (uJ n) xS)
theorem xm5{W:Int}{n:Nat}{r:List Pc}(hW0:0<=W)(hW1:W<=40)(hd:depR r<n)(h8:depR r<=16)(ho:okR r)(hl:(toksR r).length<=800)(he:lD W n r=[]):xU n [.tup (pcsD r),.int W]=true:=by
 have q:=zc9 hW0 hW1 hd h8 ho hl
 rw [he] at q
 have e:aA (aG (uJ n) (aA (kY (aG xS (aA (aB 1) aE))) (aA (aB 0) aE))) aE [some (.tup (pcsD r)),some (.int W),none]=some [aO false W []]:=aD (aS (aD (xH (aS (aD rfl rfl) (zk9 hW0))) (aD rfl rfl)) q) rfl
 show zl2 zf1 _ [some (.tup (pcsD r)),some (.int W),none]=true
 unfold zl2
 rw [e]
 exact xv3 W
def lvS(fs:List Leaf):List Pc:=fs.map .leaf
section
variable{GM GC:tz6}{S:D}
theorem zi8(hM:MxH GM S)(x:Option D):∀n k:Nat,k+n<=900->∃fs:List Leaf,fY [x,some S] gW (aG jX (aA (aG GM (aA (aB 1) (aA (aB 0) (aA (fC (.int 60)) aE)))) aE)) (dQ (k:Int) n)=some (pcsD (lvS fs))/\fs.length=n/\∀f∈fs,eV f
 |0,k,_=>⟨[],rfl,rfl,fun f h=>absurd h (by simp)⟩
 | n+1,k,hk=>by
  obtain⟨fs,q,hl,ho⟩:=zi8 hM x n (k+1) (by omega)
  obtain⟨a,qa,ha⟩:=hM (k:Int) 60 (by omega) (by omega) (by decide) (by decide)
  obtain⟨l,ql,hlf⟩:=xI ha
  refine⟨l::fs,?_,by simp [hl],fun f h=> ?_⟩
  ·rw [kU,fY]
   show((aG jX (aA (aG GM (aA (aB 1) (aA (aB 0) (aA (fC (.int 60)) aE)))) aE) [some (.int k),some S]).bind _)=_
   rw [aS (aD (aS (aD rfl (aD rfl (aD rfl rfl))) qa) rfl) ql,Z4,q];rfl
  ·rcases Z5.mp h with z|z
   ·rw [z];exact hlf
   ·exact ho f z
theorem xm6:∀{fs:List Leaf},(∀f∈fs,eV f)->okR (lvS fs)/\depR (lvS fs)=0/\(toksR (lvS fs)).length=fs.length
 |[],_=>⟨trivial,rfl,rfl⟩
 | l::fs,h=>by
  obtain⟨a,c,d⟩:=xm6 (fs:=fs) fun f hf=>h f (Z1 _ hf)
  refine⟨⟨h l Z0,a⟩,?_,?_⟩
  ·show max 0 (depR (lvS fs))=0
   rw [c];rfl
  ·show([Tk.leaf l]++toksR (lvS fs)).length=fs.length+1
   rw [Z2,d]
   show 1+_=_
   omega
end
theorem nJ{n m a b:Nat}{r:List Pc}(h:RowOk n a r)(h1:n<=m)(h2:a<=b):RowOk m b r:=⟨h.ok,Zr h.dep h1,Zr h.len h2⟩
section
variable{GM GC:tz6}{S:D}
abbrev rD(GM:tz6):tz6:=gP 2 2 (ze4 jX GM)
theorem yb2(l:Leaf):(bF l).imm=true:=by cases l<;>rfl
theorem yz9(hM:MxH GM S){j:Int}(h0:0<=j)(h1:j<1000):∃p,rD GM [S,.int j]=some (pcD p)/\RowOk 1 6 [p]:=by
 obtain⟨a,qa,ha⟩:=hM j 61 h0 h1 (by decide) (by decide)
 obtain⟨b,qb,hb⟩:=hM j 62 h0 h1 (by decide) (by decide)
 obtain⟨c,qc,hc⟩:=hM j 63 h0 h1 (by decide) (by decide)
 obtain⟨l,ql,hl⟩:=xI ha
 obtain⟨k,qk,hk⟩:=xI hb
 have s1:aU 2 (aI (aG jX (aA (aG GM (aA (aB 0) (aA (aB 1) (aA (fC (.int 61)) aE)))) aE))) [some S,some (.int j),none,none]=some (.nx,[some S,some (.int j),some (bF l),none]):=bD (aS (aD (aS (aD rfl (aD rfl (aD rfl rfl))) qa) rfl) ql)
 have s2:aU 3 (aI (aG jX (aA (aG GM (aA (aB 0) (aA (aB 1) (aA (fC (.int 62)) aE)))) aE))) [some S,some (.int j),some (bF l),none]=some (.nx,[some S,some (.int j),some (bF l),some (bF k)]):=bD (aS (aD (aS (aD rfl (aD rfl (aD rfl rfl))) qb) rfl) qk)
 have il:=yb2 l
 have ik:=yb2 k
 generalize hp:[some S,some (D.int j),some (bF l),some (bF k)]=p at s2
 have v2:bB (aB 2) p=some (bF l):=cB (by rw [<-hp];rfl) il
 have v3:bB (aB 3) p=some (bF k):=cB (by rw [<-hp];rfl) ik
 have vc:f2 cR (aG GM (aA (aB 0) (aA (aB 1) (aA (fC (.int 63)) aE)))) (fC (.int 3)) p=some (.int (c % 3)):=aR (aS (ds:=[S,.int j,.int 63]) (aD (by rw [<-hp];rfl) (aD (by rw [<-hp];rfl) (aD rfl rfl))) qc) rfl ((cS _ _).trans (if_pos (by decide)))
 have t1:∀{f:tz2} {d:D},f p=some d->d.imm=true->bG (aA f aE) p=some (.tup [d]):=fun h hi=>dM (aD h rfl) (by simp [D.imms,hi]) (by simp)
 have t2:∀{f g:tz2} {d e:D},f p=some d->g p=some e->d.imm=true->e.imm=true->bG (aA f (aA g aE)) p=some (.tup [d,e]):=fun h h' hi hi'=>dM (aD h (aD h' rfl)) (by simp [D.imms,hi,hi']) (by simp)
 have im1:∀{d:D},d.imm=true->(D.tup [d]).imm=true:=fun h=>by simp [D.imm,D.imms,h]
 have im2:∀{d e:D},d.imm=true->e.imm=true->(D.tup [d,e]).imm=true:=fun h h'=>by simp [D.imm,D.imms,h,h']
 have ls:=fJ (p:=p) (aD (t2 (f:=fC (.str "group")) rfl (t2 v2 v3 il ik) rfl (im2 il ik)) (aD (t2 (f:=fC (.str "group")) rfl (t1 v2 il) rfl (im1 il)) (aD (t2 (f:=fC (.str "either")) rfl (t2 (t1 v2 il) (t1 v3 ik) (im1 il) (im1 ik)) rfl (im2 (im1 il) (im1 ik))) (show aE p=some [] from rfl)))) (Z3 rfl)
 have m0:=Zv c (show(3:Int)≠0 by decide)
 have m1:=Zs c (show(0:Int)<3 by decide)
 have fin:∀q:Pc,atI [pcD (.group [.leaf l,.leaf k]),pcD (.group [.leaf l]),pcD (.either [[.leaf l],[.leaf k]])] (c % 3)=some (pcD q)->rD GM [S,.int j]=some (pcD q):=fun q hq=>jM rfl (dE s1 (dE s2 ⟨_,cI (aR ls vc hq)⟩))
 rcases(show c % 3=0\/c % 3=1\/c % 3=2 by omega) with h|h|h
 ·exact⟨.group [.leaf l,.leaf k],fin _ (by rw [h];rfl),⟨⟨⟨hl,hk,trivial⟩,trivial⟩,Z7 _,Z3 rfl⟩⟩
 ·exact⟨.group [.leaf l],fin _ (by rw [h];rfl),⟨⟨⟨hl,trivial⟩,trivial⟩,Z7 _,Z3 rfl⟩⟩
 ·exact⟨.either [[.leaf l],[.leaf k]],fin _ (by rw [h];rfl),⟨⟨⟨⟨Z7 _,Z3 rfl⟩,⟨hl,trivial⟩,⟨hk,trivial⟩,trivial⟩,trivial⟩,Z7 _,Z3 rfl⟩⟩
theorem yW{n a b:Nat}{p:Pc}{r:List Pc}(h:RowOk n a [p])(h2:RowOk n b r):RowOk n (a+b) (p::r):=by
 refine⟨⟨(zu0 p).mp h.ok,h2.ok⟩,?_,?_⟩
 ·have h1:max (dJ p) 0<=n:=h.dep
  have h3:=h2.dep
  show max (dJ p) (depR r)<=n
  omega
 ·have h1:=h.len
  rw [zb5] at h1
  have h3:=h2.len
  show(cU p++toksR r).length<=a+b
  rw [Z2];omega
theorem zd3(hM:MxH GM S)(x:Option D):∀n k:Nat,k+n<=900->∃r:List Pc,fY [x,some S] gW (aG (rD GM) (aA (aB 1) (aA (aB 0) aE))) (dQ (k:Int) n)=some (pcsD r)/\RowOk 1 (6*n) r
 |0,k,_=>⟨[],rfl,⟨trivial,ZL _,Z7 _⟩⟩
 |n+1,k,hk=>by
  obtain⟨r,q,h⟩:=zd3 hM x n (k+1) (by omega)
  obtain⟨p,qp,hp⟩:=yz9 hM (j:=(k:Int)) (by omega) (by omega)
  refine⟨p::r,?_,nJ (yW hp h) (Z7 _) (by omega)⟩
  rw [kU,fY]
  show((aG (rD GM) (aA (aB 1) (aA (aB 0) aE)) [some (.int k),some S]).bind _)=_
  rw [aS (aD rfl (aD rfl rfl)) qp,Z4,q];rfl
def zw1:Pc:= .group [.leaf (.gap " ")]
def ye8(GM:tz6):tz1:=aT (cE (dA 1 bK (aA (bG (aA (fC (.str "word")) (aA (aG zS (aA (aG GM (aA (aB 0) (aA (aB 2) (aA (fC (.int 64)) aE)))) aE)) aE))) aE) cT))
 (cE (dA 1 bK (aA (bG (aA (fC (.str "group")) (aA (bG (aA (bG (aA (fC (.str "gap")) (aA (fC (.str " ")) aE))) aE)) aE))) aE) cT))
theorem xm7{i:Nat}{p:PSt}{f:tz2}{xs:List D}{d:D}(h0:p[i]? =some (some (.lst true xs)))(hf:f p=some d)(hl:xs.length<=900):cE (dA i bK (aA f aE) cT) p=some (.nx,p.set i (some (.lst true (xs++[d])))):=
 kW (zu9 h0 (aD hf rfl) (if_pos (by rw [ZP];omega)))
theorem yb3(hM:MxH GM S):∀(n k:Nat) (r:List Pc) (x2:Option D),k+n<=400->r.length=2*k->okR r/\depR r<=1/\(toksR r).length<=4*k->∃(r':List Pc) (y2:Option D),cO 2 (ye8 GM) (dQ (k:Int) n) [some S,some (.lst true (pcsD r)),x2]=some (.nx,[some S,some (.lst true (pcsD r')),y2])/\r'.length=2*(k+n)/\okR r'/\depR r'<=1/\(toksR r').length<=4*(k+n)
 |0,k,r,x2,_,hl,h=>⟨r,x2,rfl,hl,h⟩
 | n+1,k,r,x2,hk,hl,⟨h1,h2,h3⟩=>by
  obtain⟨a,qa,ha⟩:=hM (k:Int) 64 (by omega) (by omega) (by decide) (by decide)
  obtain⟨z,qz,hz⟩:=yt3 ha
  have e1:bG (aA (fC (.str "word")) (aA (aG zS (aA (aG GM (aA (aB 0) (aA (aB 2) (aA (fC (.int 64)) aE)))) aE)) aE)) [some S,some (.lst true (pcsD r)),some (.int (k:Int))]=some (pcD (.leaf (.word z))):=dM (aD rfl (aD (aS (aD (aS (aD rfl (aD rfl (aD rfl rfl))) qa) rfl) qz) rfl)) rfl (Z3 rfl)
  have b1:cE (dA 1 bK (aA (bG (aA (fC (.str "word")) (aA (aG zS (aA (aG GM (aA (aB 0) (aA (aB 2) (aA (fC (.int 64)) aE)))) aE)) aE))) aE) cT) [some S,some (.lst true (pcsD r)),some (.int (k:Int))]=some (.nx,[some S,some (.lst true (pcsD r++[pcD (.leaf (.word z))])),some (.int (k:Int))]):=xm7 (i:=1) rfl e1 (by rw [uV];omega)
  have b2:cE (dA 1 bK (aA (bG (aA (fC (.str "group")) (aA (bG (aA (bG (aA (fC (.str "gap")) (aA (fC (.str " ")) aE))) aE)) aE))) aE) cT) [some S,some (.lst true (pcsD r++[pcD (.leaf (.word z))])),some (.int (k:Int))]=some (.nx,[some S,some (.lst true ((pcsD r++[pcD (.leaf (.word z))])++[pcD zw1])),some (.int (k:Int))]):=xm7 (i:=1) rfl rfl (by rw [Z2,uV];simp;omega)
  have er:(pcsD r++[pcD (.leaf (.word z))])++[pcD zw1]=pcsD (r++[.leaf (.word z),zw1]):=by rw [yH,Zh];rfl
  rw [er] at b2
  obtain⟨r',y2,q,g1,g2⟩:=yb3 hM n (k+1) (r++[.leaf (.word z),zw1]) (some (.int (k:Int))) (by omega) (by rw [Z2];simp;omega) ⟨(xG _ _).mpr ⟨h1,hz,⟨.inr rfl,trivial⟩,trivial⟩,by
   rw [show r++[Pc.leaf (.word z),zw1]=(r++[.leaf (.word z)])++[zw1] by simp,rV,rV]
   show max (max (depR r) 0) 1<=1
   omega,by
   rw [mD,Z2]
   show _+4<=_
   omega⟩
  refine⟨r',y2,?_,by omega,g2.1,g2.2.1,by omega⟩
  rw [kU,cO]
  show((ye8 GM [some S,some (.lst true (pcsD r)),some (.int (k:Int))]).bind _)=_
  rw [show ye8 GM [some S,some (.lst true (pcsD r)),some (.int (k:Int))]=_ from(aN b1).trans b2]
  exact q
end
theorem ym2:∀a b:List Pc,depR (a++b)=max (depR a) (depR b)
 |[],b=>by show depR b=max 0 (depR b);omega
 |p::a,b=>by
  show max (dJ p) (depR (a++b))=max (max (dJ p) (depR a)) (depR b)
  rw [ym2 a b];omega
theorem xv5{n w:Nat}{r:List Pc}(h:RowOk n w r)(k:Nat):RowOk n w (r.take k):=by
 have e:=We k r
 obtain⟨h1,h2,h3⟩:=h
 rw [<-e] at h1 h2 h3
 rw [xG] at h1
 rw [ym2] at h2
 rw [mD,Z2] at h3
 exact⟨h1.1,by omega,by omega⟩
theorem zd4:∀(r:List Pc) (k:Nat),(pcsD r).take k=pcsD (r.take k)
 |[],k=>by simp [pcsD]
 |p::r,0=>rfl
 |p::r,k+1=>by
  show pcD p::(pcsD r).take k=pcD p::pcsD (r.take k)
  rw [zd4 r k]
section
variable{GM GC:tz6}{S:D}
abbrev xb3(GM:tz6):tz6:=gP 1 2 (xR zS GM)
theorem wf2(hM:MxH GM S):∃r,xb3 GM [S]=some (.tup (pcsD r))/\RowOk 1 200 r:=by
 obtain⟨r,y2,q,_,h1,h2,h3⟩:=yb3 hM 49 0 [] none (by decide) rfl ⟨trivial,ZL _,Z7 _⟩
 have s1:aU 1 (aI (cZ aE)) [some S,none,none]=some (.nx,[some S,some (.lst true (pcsD [])),none]):=rfl
 have s2:eP 2 (eL (aA (fC (.int 49)) aE)) (ye8 GM) [some S,some (.lst true (pcsD [])),none]=some (.nx,[some S,some (.lst true (pcsD r)),y2]):=uG (ds:=dQ 0 49) (uE (j:=49) (by decide) (by decide)) q
 have im:=pcs_imm r
 have sl:fSl (aB 1) iA (lU (fC (.int 97))) [some S,some (.lst true (pcsD r)),y2]=some (.lst true (pcsD (r.take 97))):=by
  show(if D.imms (pcsD r)=true then some (D.lst true (L2.ym4 (pcsD r) none (some ((97:Nat):Int)))) else none)=_
  rw [if_pos im]
  unfold L2.ym4
  rw [HT.sIx_nat,HT.sIx_none,Xd,Nat.sub_zero]
  by_cases c:97<=(pcsD r).length
  ·rw [Nat.min_eq_left c,zd4]
  ·rw [Nat.min_eq_right (by omega),List.take_length,<-zd4,W2 (by omega)]
 refine⟨r.take 97,jM rfl (dE s1 (dE s2 ⟨_,cI (aS (aD sl rfl) (if_pos (pcs_imm _)))⟩)),xv5 (k:=97) ⟨h1,h2,Zr h3 (by decide)⟩⟩
def qK(m:Nat):List Pc:=List.replicate m (.leaf .fin)
def oQ:Nat->List Pc
 |0=>[]
 |m+1=> .leaf (.stop 40):: .leaf .fin::oQ m
theorem yu0:∀m:Nat,RowOk 0 m (qK m)
 |0=>⟨trivial,Z7 _,Z7 _⟩
 |m+1=>by
  have h:=yu0 m
  show RowOk 0 (m+1) (.leaf .fin::qK m)
  exact nJ (yW (n:=0) (p:= .leaf .fin) (r:=qK m) (a:=1) ⟨⟨trivial,trivial⟩,Z7 _,Z7 _⟩ h) (Z7 _) (by omega)
theorem yu1:∀m:Nat,RowOk 0 (2*m) (oQ m)
 |0=>⟨trivial,Z7 _,Z7 _⟩
 |m+1=>by
  have h:=yu1 m
  rw [show 2*(m+1)=1+(1+2*m) by omega]
  exact yW (p:= .leaf (.stop 40)) (r:= .leaf .fin::oQ m) (a:=1) ⟨⟨⟨by decide,by decide⟩,trivial⟩,Z7 _,Z7 _⟩ (yW (p:= .leaf .fin) (r:=oQ m) (a:=1) ⟨⟨trivial,trivial⟩,Z7 _,Z7 _⟩ h)
theorem xm8:∀m:Nat,(List.replicate m [bF .fin]).flatten=pcsD (qK m)
 |0=>rfl
 |m+1=>by
  show [bF .fin]++(List.replicate m [bF .fin]).flatten=bF .fin::pcsD (qK m)
  rw [xm8 m];rfl
theorem xm9:∀m:Nat,(List.replicate m [bF (.stop 40),bF .fin]).flatten=pcsD (oQ m)
 |0=>rfl
 |m+1=>by
  show [bF (.stop 40),bF .fin]++(List.replicate m [bF (.stop 40),bF .fin]).flatten=bF (.stop 40)::bF .fin::pcsD (oQ m)
  rw [xm9 m];rfl
abbrev xb4:tz6:=gP 1 0 wA
theorem wm0{m:Nat}(h0:2<=m)(h1:m<=100):∃r,xb4 [.int (m:Int)]=some (.tup (pcsD r))/\RowOk 1 400 r:=by
 have e1:f2 zh4 (bG (aA (bG (aA (fC (.str "end")) aE)) aE)) (aB 0) [some (.int (m:Int))]=some (.tup (pcsD (qK m))):=by
  refine aR (x:= .tup [bF .fin]) rfl rfl ?_
  show(if (2:Int)<=m/\(m:Int)<=1000/\0<1000 then some (D.tup (List.replicate (m:Int).toNat [bF .fin]).flatten) else none)=_
  rw [if_pos ⟨by omega,by omega,by decide⟩,YM,xm8]
 have e2:f2 zh4 (bG (aA (bG (aA (fC (.str "stop")) (aA (fC (.int 40)) aE))) (aA (bG (aA (fC (.str "end")) aE)) aE))) (f2 cD (aB 0) (fC (.int 1))) [some (.int (m:Int))]=some (.tup (pcsD (oQ (m+1)))):=by
  refine aR (x:= .tup [bF (.stop 40),bF .fin]) (y:= .int ((m+1:Nat):Int)) rfl rfl ?_
  show(if (2:Int)<=((m+1:Nat):Int)/\((m+1:Nat):Int)<=1000/\1<1000 then some (D.tup (List.replicate ((m+1:Nat):Int).toNat [bF (.stop 40),bF .fin]).flatten) else none)=_
  rw [if_pos ⟨by omega,by omega,by decide⟩,YM,xm9]
 have i1:=pcs_imm (qK m)
 have i2:=pcs_imm (oQ (m+1))
 have a:=yu0 m
 have b:=yu1 (m+1)
 have j1:D.imms [D.tup (pcsD (qK m)),.tup (pcsD (oQ (m+1)))]=true:=by simp [D.imms,D.imm,i1,i2]
 have t1:=dM (aD e1 (aD e2 (show aE _=some [] from rfl))) j1 (Z3 rfl)
 have t2:=dM (aD (f:=fC (.str "either")) (d:= .str "either") rfl (aD t1 (show aE _=some [] from rfl))) (by simp [D.imms,D.imm,i1,i2]) (Z3 rfl)
 have t3:=dM (aD t2 (show aE _=some [] from rfl)) (by simp [D.imms,D.imm,i1,i2]) (Z3 rfl)
 refine⟨[.either [qK m,oQ (m+1)]],jM rfl ⟨_,cI t3⟩,?_⟩
 refine⟨⟨⟨⟨Z7 _,by show 2<=4;decide⟩,a.ok,b.ok,trivial⟩,trivial⟩,?_,?_⟩
 ·have:=a.dep
  have:=b.dep
  show max (max (depR (qK m)) (max (depR (oQ (m+1))) 0)+1) 0<=1
  omega
 ·have:=a.len
  have:=b.len
  rw [zb5]
  show(Tk.eit::((toksR (qK m)++Tk.orr::(toksR (oQ (m+1))++[]))++[Tk.don])).length<=400
  simp only [Z6,Z2,ZX]
  omega
abbrev rE(n m:Nat):tz6:=gP 2 1 (ze6 (zr4 n m) (xU n))
theorem xn0{W:Int}{n m:Nat}{r:List Pc}(hW0:0<=W)(hW1:W<=40)(hd:depR r<n)(h8:depR r<=16)(ho:okR r)(hl:(toksR r).length<=800)(he:lD W n r=[]):rE n m [.tup (pcsD r),.int W]=some .non:=by
 have q:=xm5 hW0 hW1 hd h8 ho hl he
 refine jM rfl (zo6 ⟨[some (.tup (pcsD r)),some (.int W),none],?_⟩)
 unfold zq3
 rw [aD (d:= .tup (pcsD r)) rfl (aD (d:= .int W) rfl (show aE _=some [] from rfl)),Z4,if_pos q];rfl
theorem xn1{W:Int}{n m:Nat}{r:List Pc}{t:Str}{C:List Int}(hn:xU n [.tup (pcsD r),.int W]=false)(q:zr4 n m [.tup (pcsD r),.int W]=some (.tup [.str t,.tup (aY C)])):rE n m [.tup (pcsD r),.int W]=some (.tup [.str t,.tup (aY C)]):=by
 have s1:zq3 (xU n) (aA (aB 0) (aA (aB 1) aE)) (aU 2 (aI (aG (zr4 n m) (aA (aB 0) (aA (aB 1) aE))))) [some (.tup (pcsD r)),some (.int W),none]=some (.nx,[some (.tup (pcsD r)),some (.int W),some (.tup [.str t,.tup (aY C)])]):=by
  unfold zq3
  rw [aD (d:= .tup (pcsD r)) rfl (aD (d:= .int W) rfl (show aE _=some [] from rfl)),Z4,if_neg (by rw [hn];exact Z9)]
  exact bD (aS (aD rfl (aD rfl rfl)) q)
 exact jM rfl (dE s1 ⟨_,rfl⟩)
theorem xn2{W:Int}{n:Nat}{r:List Pc}(hW0:0<=W)(hW1:W<=40)(hd:depR r<n)(h8:depR r<=16)(ho:okR r)(hl:(toksR r).length<=800)(he:lD W n r≠[]):xU n [.tup (pcsD r),.int W]=false:=by
 have q:=zc9 hW0 hW1 hd h8 ho hl
 have e:aA (aG (uJ n) (aA (kY (aG xS (aA (aB 1) aE))) (aA (aB 0) aE))) aE [some (.tup (pcsD r)),some (.int W),none]=some [aO false W (lD W n r)]:=aD (aS (aD (xH (aS (aD rfl rfl) (zk9 hW0))) (aD rfl rfl)) q) rfl
 show(decide (([.tup (pcsD r),.int W]:List D).length=2)&&zl2 zf1 _ [some (.tup (pcsD r)),some (.int W),none])=false
 unfold zl2
 rw [e]
 show(true&&zf1 [aO false W (lD W n r)])=false
 cases h:lD W n r with
 |nil=>exact absurd h he
 |cons q F=>rfl
end
theorem xv6{r:List Pc}{C:List Int}{t:Str}(h8:depR r<=16)(ho:okR r)(hl:(toksR r).length<=800)(h:setR true 0 r C ⟨#[]⟩=some ([],t)):t.length<=900000:=by
 obtain⟨u',ps',q,e1,e2,e3,e4,e5⟩:=zu7 (depR r+1) r (YS _) ho true 0 C 0 [] [] t (Yf _) (by omega) h (ZL _) ⟨by show 0+_<=_;omega,by show 0+_<=_;omega⟩
 have e5':(cat ps').length<=0+201*(toksR r).length:=e5
 rw [e2] at e5'
 omega
def xV(GD:tz6):tz1:=aT (nS [6,7] (aI (aG GD (aA (aB 0) (aA (aB 1) (aA (aB 5) aE))))))
 (aT (aU 8 (aI (aG qH (aA (aB 6) (aA (aB 3) aE)))))
 (fIf (aV (fB (f2 nZ (aB 8) (fC .non))))
  (aT (fIf (aV (fB (f2 dIs (aB 4) (fC .non))))
  (bX (aI (fC (.bl false))))
  bH)
 (aT (aU 9 (aI (aG qH (aA (f2 dIx (aB 4) (fC (.int 0))) (aA (aB 3) aE)))))
 (aT (fIf (aV (dS (fB (f2 dNe (aB 9) (aB 8))) (fT (aG zT (aA (aB 9) (aA (aB 8) aE))))))
  (bX (aI (fC (.bl false))))
  bH)
 (fIf (aV (dS (fB (f2 dEq (aB 9) (aB 8))) (fT (aG zT (aA (f2 dIx (aB 4) (fC (.int 1))) (aA (aB 7) aE))))))
  (bX (aI (fC (.bl false))))
  bH))))
  bH))
inductive Fnd(W:Int):D->Option Way->Prop
 |no:Fnd W .non none
 |yes {t:Str} {k:Nat} {x:Way}:kI W t k x.1.1 x.1.2->t.length<=900000->x.2.length<=1000->Fnd W (.tup [.str t,.tup (aY x.2)]) (some x)
theorem wr5{GD:tz6}{S R Fd:D}{W:Int}{o:Option Way}{j:Int}{C:List Int}{t:Str}{x2 x6 x7 x8 x9:Option D}(hF:Fnd W Fd o)(hW1:W<=40)(qd:GD [S,R,.int j]=some (.tup [.str t,.tup (aY C)]))(ht:t.length<=900000)(h:∀k ln rg,kI W t k ln rg->∃x,o=some x/\nb x ((ln,rg),C)):
  ∃y6 y7 y8 y9,xV GD [some S,some R,x2,some (.int W),some Fd,some (.int j),x6,x7,x8,x9]=some (.nx,[some S,some R,x2,some (.int W),some Fd,some (.int j),y6,y7,y8,y9]):=by
 have u:nS [6,7] (aI (aG GD (aA (aB 0) (aA (aB 1) (aA (aB 5) aE))))) [some S,some R,x2,some (.int W),some Fd,some (.int j),x6,x7,x8,x9]=some (.nx,[some S,some R,x2,some (.int W),some Fd,some (.int j),some (.str t),some (.tup (aY C)),x8,x9]):=by
  unfold nS aI
  rw [aS (aD rfl (aD rfl (aD rfl rfl))) qd]
  rfl
 have s1:∀d,qH [.str t,.int W]=some d->aU 8 (aI (aG qH (aA (aB 6) (aA (aB 3) aE)))) [some S,some R,x2,some (.int W),some Fd,some (.int j),some (.str t),some (.tup (aY C)),x8,x9]=some (.nx,[some S,some R,x2,some (.int W),some Fd,some (.int j),some (.str t),some (.tup (aY C)),some d,x9]):=fun d hd=>bD (aS (aD rfl (aD rfl rfl)) hd)
 rcases xv1 (t:=t) hW1 ht with e|⟨k,ln,rg,hc⟩
 ·exact⟨_,_,_,_,(aN u).trans ((aN (s1 _ e)).trans (bE (dI (aR rfl rfl rfl))))⟩
 ·obtain⟨x,ho,hn⟩:=h k ln rg hc
  have e:=zv2 hc hW1 ht
  subst ho
  cases hF with
  | yes hc0 ht0 hx=>
   rename_i t0 k0
   have e0:=zv2 hc0 hW1 ht0
   have s2:aU 9 (aI (aG qH (aA (f2 dIx (aB 4) (fC (.int 0))) (aA (aB 3) aE)))) [some S,some R,x2,some (.int W),some (.tup [.str t0,.tup (aY x.2)]),some (.int j),some (.str t),some (.tup (aY C)),some (.tup [.int ln,.int rg]),x9]=some (.nx,[some S,some R,x2,some (.int W),some (.tup [.str t0,.tup (aY x.2)]),some (.int j),some (.str t),some (.tup (aY C)),some (.tup [.int ln,.int rg]),some (.tup [.int x.1.1,.int x.1.2])]):=bD (aS (aD (aR (x:= .tup [.str t0,.tup (aY x.2)]) rfl rfl (mG _ _)) (aD rfl rfl)) e0)
   refine⟨some (.str t),some (.tup (aY C)),some (.tup [.int ln,.int rg]),some (.tup [.int x.1.1,.int x.1.2]),(aN u).trans ((aN (s1 _ e)).trans ((bM (dI (aR rfl rfl rfl))).trans ((aN (bE (dI (aR rfl rfl rfl)))).trans ((aN s2).trans ?_))))⟩
   generalize hp:[some S,some R,x2,some (D.int W),some (D.tup [.str t0,.tup (aY x.2)]),some (D.int j),some (D.str t),some (D.tup (aY C)),some (D.tup [.int ln,.int rg]),some (D.tup [.int x.1.1,.int x.1.2])]=p
   have v4:aB 4 p=some (.tup [.str t0,.tup (aY x.2)]):=by rw [<-hp];rfl
   have v7:aB 7 p=some (.tup (aY C)):=by rw [<-hp];rfl
   have v8:aB 8 p=some (.tup (aY [ln,rg])):=by rw [<-hp];rfl
   have v9:aB 9 p=some (.tup (aY [x.1.1,x.1.2])):=by rw [<-hp];rfl
   have i1:f2 dIx (aB 4) (fC (.int 1)) p=some (.tup (aY x.2)):=aR v4 rfl (iD _ _ _)
   have n1:fB (f2 dNe (aB 9) (aB 8)) p=some (!decide ([x.1.1,x.1.2]=[ln,rg])):=dI (aR (g:=dNe) v9 v8 (by unfold dNe;rw [ym0];rfl))
   have n2:fB (f2 dEq (aB 9) (aB 8)) p=some (decide ([x.1.1,x.1.2]=[ln,rg])):=dI (aR (g:=dEq) v9 v8 (by unfold dEq;rw [ym0];rfl))
   rw [xJ] at hn
   by_cases c:[x.1.1,x.1.2]=[ln,rg]
   ·rw [Zk c] at n1 n2
    have hb:bh x.2 C=false:=by
     simp at c
     rcases hn with h|⟨_,h|⟨_,h⟩⟩
     ·have:x.1.1<ln:=h;omega
     ·have:x.1.2<rg:=h;omega
     ·exact xm4 h
    have z:=zp5 x.2 C hx
    rw [hb] at z
    exact(aN (bE (kD n1))).trans (bE (iV n2 (vP (aS (aD i1 (aD v7 rfl)) z))))
   ·rw [Za c] at n1 n2
    have hb:bh [x.1.1,x.1.2] [ln,rg]=false:=by
     show(if x.1.1=ln then(if x.1.2=rg then bh [] [] else decide (rg<x.1.2)) else decide (ln<x.1.1))=false
     rcases hn with h|⟨h,h'|⟨h',_⟩⟩
     ·have:x.1.1<ln:=h
      rw [if_neg (by omega)];exact Za (by omega)
     ·have h1:x.1.1=ln:=h
      have h2:x.1.2<rg:=h'
      rw [if_pos h1,if_neg (by omega)];exact Za (by omega)
     ·exact absurd (by rw [show x.1.1=ln from h,show x.1.2=rg from h']) c
    have z:=zp5 [x.1.1,x.1.2] [ln,rg] (Z3 rfl)
    rw [hb] at z
    exact(aN (bE (iV n1 (vP (aS (aD v9 (aD v8 rfl)) z))))).trans (bE (kD n2))
theorem xn3{GD:tz6}{S R Fd:D}{W:Int}{x2:Option D}(hb:∀(j:Int) (x6 x7 x8 x9:Option D),0<=j->j<=900->∃y6 y7 y8 y9,xV GD [some S,some R,x2,some (.int W),some Fd,some (.int j),x6,x7,x8,x9]=some (.nx,[some S,some R,x2,some (.int W),some Fd,some (.int j),y6,y7,y8,y9])):∀(js:List Int) (x5 x6 x7 x8 x9:Option D),(∀j∈js,0<=j/\j<=900)->∃z,cO 5 (xV GD) (js.map .int) [some S,some R,x2,some (.int W),some Fd,x5,x6,x7,x8,x9]=some (.nx,z)
 |[],_,_,_,_,_,_=>⟨_,rfl⟩
 |j::js,x5,x6,x7,x8,x9,hj=>by
  obtain⟨y6,y7,y8,y9,e⟩:=hb j x6 x7 x8 x9 (hj j Z0).1 (hj j Z0).2
  obtain⟨z,e2⟩:=xn3 hb js (some (.int j)) y6 y7 y8 y9 fun i hi=>hj i (Z1 _ hi)
  refine⟨z,?_⟩
  show cO 5 (xV GD) (.int j::js.map .int) _=_
  rw [cO]
  show((xV GD [some S,some R,x2,some (.int W),some Fd,some (.int j),x6,x7,x8,x9]).bind _)=_
  rw [e]
  exact e2
def xo0(GD GP GSB:tz6):tz1:=aT (aU 4 (aI (aG GP (aA (aB 1) (aA (aB 3) aE)))))
 (aT (fIf (aV (fB (f2 nZ (aB 4) (fC .non))))
  (fIf (aV (qT (fB (f2 dNe (f2 dIx (aB 4) (fC (.int 0))) (aG GSB (aA (aB 1) (aA (f2 dIx (aB 4) (fC (.int 1))) aE))))) (fB (f2 dIs (aG qH (aA (f2 dIx (aB 4) (fC (.int 0))) (aA (aB 3) aE))) (fC .non)))))
  (bX (aI (fC (.bl false))))
  bH)
  bH)
 (aT (eP 5 (pP (aA (fC (.int 1)) (aA (fC (.int 9)) aE)))
  (xV GD))
 (bX (aI (fC (.bl true))))))
section
variable{GM GC:tz6}{S:D}
theorem xn4{k1 n m:Nat}{r:List Pc}{W:Int}{x2:Option D}(hk1:12<k1)(hn:12<n)(hm:12<m)(hS:S.imm=true)(hdr:zQ S (qG GM GC))(hr:RowOk 12 500 r)(hW0:1<=W)(hW1:W<=40):
  ∃z,xo0 (xT (oP (qG GM GC) k1)) (rE n m) (vG m) [some S,some (.tup (pcsD r)),x2,some (.int W),none,none,none,none,none,none]=some (.ret (.bl true),z):=by
 have hd:=hr.dep
 have l8:(toksR r).length<=800:=Zr hr.len (by decide)
 have bs:nB W (fun cs t=>setR true 0 r cs ⟨#[]⟩=some ([],t)) (lD W n r):=yz8 (n:=n) (by omega) (by omega) hr.ok (by omega)
 have fin:∀(Fd:D) (o:Option Way),Fnd W Fd o->(∀k y,(k,y)∈lD W n r->∃x,o=some x/\nb x y)->rE n m [.tup (pcsD r),.int W]=some Fd->fIf (aV (fB (f2 nZ (aB 4) (fC .non)))) (fIf (aV (qT (fB (f2 dNe (f2 dIx (aB 4) (fC (.int 0))) (aG (vG m) (aA (aB 1) (aA (f2 dIx (aB 4) (fC (.int 1))) aE))))) (fB (f2 dIs (aG qH (aA (f2 dIx (aB 4) (fC (.int 0))) (aA (aB 3) aE))) (fC .non))))) (bX (aI (fC (.bl false)))) bH) bH [some S,some (.tup (pcsD r)),x2,some (.int W),some Fd,none,none,none,none,none]=some (.nx,[some S,some (.tup (pcsD r)),x2,some (.int W),some Fd,none,none,none,none,none])->∃z,xo0 (xT (oP (qG GM GC) k1)) (rE n m) (vG m) [some S,some (.tup (pcsD r)),x2,some (.int W),none,none,none,none,none,none]=some (.ret (.bl true),z):=fun Fd o hF hx qp s2=>by
  have s1:aU 4 (aI (aG (rE n m) (aA (aB 1) (aA (aB 3) aE)))) [some S,some (.tup (pcsD r)),x2,some (.int W),none,none,none,none,none,none]=some (.nx,[some S,some (.tup (pcsD r)),x2,some (.int W),some Fd,none,none,none,none,none]):=bD (aS (aD rfl (aD rfl rfl)) qp)
  obtain⟨z,lp⟩:=xn3 (GD:=xT (oP (qG GM GC) k1)) (S:=S) (R:= .tup (pcsD r)) (Fd:=Fd) (W:=W) (x2:=x2) (fun j x6 x7 x8 x9 j0 j1=>by
   obtain⟨C,t,qd,hs,_,ht,_⟩:=yk8 (salt:=j) hS (zv0 hS hdr k1 r (by omega) hr.ok) (by omega) l8 j0 j1
   refine wr5 hF hW1 qd ht fun k ln rg hc=> ?_
   obtain⟨y,hy,hn⟩:=bs C t k ln rg hs hc
   obtain⟨x,ho,hxy⟩:=hx k y hy
   exact⟨x,ho,yU hxy hn⟩) ((List.range 8).map fun(k:Nat)=>(1:Int)+(k:Int)) none none none none none (fun j hj=>by obtain⟨k,hk,rfl⟩:=Yl.mp hj;have:=YH.mp hk;omega)
  rw [<-xi3] at lp
  exact dE s1 (dE s2 (dE (uG (yr6 (i:=1) (j:=9) (by decide) (by decide) (by decide) (by decide)) lp) ⟨_,cI rfl⟩))
 by_cases he:lD W n r=[]
 ·refine fin .non none .no (fun k y hy=>by rw [he] at hy;cases hy) (xn0 (by omega) hW1 (by omega) (by omega) hr.ok l8 he) (bE (dI (aR rfl rfl rfl)))
 ·obtain⟨q,hq,hn,t,hs,hc,qp⟩:=xv4 (W:=W) (n:=n) (m:=m) (by omega) hW1 (by omega) (by omega) (by omega) hr.ok l8 he
  have tl:=xv6 (by omega) hr.ok l8 hs
  have cl:q.2.2.length<=1000:=by
   have:=setR_len hs
   simp at this
   omega
  refine fin _ _ (.yes hc tl cl) (fun k y hy=>⟨_,rfl,hn (k,y) hy⟩) (xn1 (xn2 (by omega) hW1 (by omega) (by omega) hr.ok l8 he) qp) ?_
  generalize hp:[some S,some (D.tup (pcsD r)),x2,some (D.int W),some (D.tup [.str t,.tup (aY q.2.2)]),none,none,none,none,none]=p
  have v1:aB 1 p=some (.tup (pcsD r)):=by rw [<-hp];rfl
  have v3:aB 3 p=some (.int W):=by rw [<-hp];rfl
  have v4:aB 4 p=some (.tup [.str t,.tup (aY q.2.2)]):=by rw [<-hp];rfl
  have i0:f2 dIx (aB 4) (fC (.int 0)) p=some (.str t):=aR v4 rfl (mG _ _)
  have i1:f2 dIx (aB 4) (fC (.int 1)) p=some (.tup (aY q.2.2)):=aR v4 rfl (iD _ _ _)
  have n1:fB (f2 dNe (f2 dIx (aB 4) (fC (.int 0))) (aG (vG m) (aA (aB 1) (aA (f2 dIx (aB 4) (fC (.int 1))) aE)))) p=some false:=dI (aR i0 (aS (aD v1 (aD i1 rfl)) (zz8 (by omega) (by omega) hr.ok l8 hs)) (by
   show some (D.bl (!decide (t=t)))=_
   rw [Zk rfl];rfl))
  have n2:fB (f2 dIs (aG qH (aA (f2 dIx (aB 4) (fC (.int 0))) (aA (aB 3) aE))) (fC .non)) p=some false:=dI (aR (aS (aD i0 (aD v3 rfl)) (zv2 hc hW1 tl)) rfl rfl)
  exact(bM (dI (aR v4 rfl rfl))).trans (bE (zn6 n1 n2))
abbrev wo7(k1 k2 k3:Nat)(GM GC:tz6):tz6:=gP 1 9 (xn9 (xb1 GM) (xx0 GM jX) GM jX (rD GM) (xb3 GM) (yn6 GM) (xT (oP (qG GM GC) k1)) xb4 (rE k2 k3) (vG k3) qH zT)
theorem yb4{f:tz2}{p:PSt}{n:Nat}{r:List Pc}{x1:D}(h0:p[0]? =some (some x1))(hn:n<=900)(q:fY [none,some x1] gW f (dQ ((0:Nat):Int) n)=some (pcsD r)):aG eT (aA (iL [none,some 0] (eL (aA (fC (.int (n:Int))) aE)) gW f) aE) p=some (.tup (pcsD r)):=by
 have hs:sizeLine=16777216:=ZP
 refine aS (aD (d:= .lst true (pcsD r)) ?_ rfl) (if_pos (pcs_imm _))
 have er:eL (aA (fC (.int (n:Int))) aE) p=some (dQ 0 n):=by
  have h:=uE (j:=(n:Int)) (by omega) (by omega)
  rw [YM] at h
  unfold eL
  rw [aD (d:= .int (n:Int)) rfl (show aE p=some [] from rfl),Z4]
  exact h
 unfold iL
 rw [er,Z4,if_pos (by unfold dQ;rw [Zd,Ya];omega)]
 have e:qU [none,some 0] p=[none,some x1]:=by
  show [none,(p[0]?).join]=_
  rw [h0];rfl
 rw [e]
 show(fY [none,some x1] gW _ (dQ ((0:Nat):Int) n)).bind _=_
 rw [q];rfl
theorem xa0{k1 k2 k3:Nat}(hk1:12<k1)(hk2:12<k2)(hk3:12<k3)(hS:S.imm=true)(hM:MxH GM S)(hC:∀j:Int,0<=j->j<1000->∃a,GC [S,.int j]=some (.int a)):wo7 k1 k2 k3 GM GC [S]=some (.bl true):=by
 obtain⟨a,qa,ha⟩:=hM 0 51 (by decide) (by decide) (by decide) (by decide)
 obtain⟨b0,qb,hb⟩:=hM 0 59 (by decide) (by decide) (by decide) (by decide)
 have m0:=Zv a (show(25:Int)≠0 by decide)
 have m1:=Zs a (show(0:Int)<25 by decide)
 obtain⟨mr,hmr⟩:∃mr:Nat,a % 25=(mr:Int):=⟨(a % 25).toNat,by omega⟩
 obtain⟨r0,q0,h0⟩:=wl5 (GM:=GM) (GL:=jX) (S:=S) (nest:=3) (a:=8) (many:=mr) (fun m hm=>xI hm) (fun j s hj hs=>hM j s (by omega) (by omega) (by omega) (by omega)) (by decide) (by omega) (by decide)
 obtain⟨r1,q1,h1⟩:=yz4 (GM:=GM) (S:=S) hM h0
 have R1:RowOk 12 500 r1:=nJ h1 (Z7 _) (by omega)
 have s1:aU 1 (aI (aG (xb1 GM) (aA (aB 0) (aA (aG (xx0 GM jX) (aA (aB 0) (aA (fC (.int 8)) (aA (f2 cR (aG GM (aA (aB 0) (aA (fC (.int 0)) (aA (fC (.int 51)) aE)))) (fC (.int 25))) (aA (fC (.int 3)) aE))))) aE)))) [some S,none,none,none,none,none,none,none,none,none]=some (.nx,[some S,some (.tup (pcsD r1)),none,none,none,none,none,none,none,none]):=by
  refine bD (aS (aD rfl (aD (aS (ds:=[S,.int ((8:Nat):Int),.int (mr:Int),.int ((3:Nat):Int)]) (aD rfl (aD rfl (aD ?_ (aD rfl rfl)))) q0) rfl)) q1)
  refine aR (aS (aD rfl (aD rfl (aD rfl rfl))) qa) rfl ?_
  rw [<-hmr]
  exact(cS _ _).trans (if_pos (by decide))
 have s2:aU 2 (aI (f2 cR (aG GM (aA (aB 0) (aA (fC (.int 0)) (aA (fC (.int 59)) aE)))) (fC (.int 16)))) [some S,some (.tup (pcsD r1)),none,none,none,none,none,none,none,none]=some (.nx,[some S,some (.tup (pcsD r1)),some (.int (b0 % 16)),none,none,none,none,none,none,none]):=bD (aR (aS (aD rfl (aD rfl (aD rfl rfl))) qb) rfl ((cS _ _).trans (if_pos (by decide))))
 generalize b0 % 16=b at s2
 have ifr:∀(c:Int) (f:tz2),(∀r:List Pc,∃r',RowOk 12 500 r'/\f [some S,some (.tup (pcsD r)),some (.int b),none,none,none,none,none,none,none]=some (.tup (pcsD r')))->∀r,RowOk 12 500 r->∃r',RowOk 12 500 r'/\fIf (aV (fB (f2 dEq (aB 2) (fC (.int c))))) (aU 1 (aI f)) bH [some S,some (.tup (pcsD r)),some (.int b),none,none,none,none,none,none,none]=some (.nx,[some S,some (.tup (pcsD r')),some (.int b),none,none,none,none,none,none,none]):=fun c f hf r hr=>by
  have t:fB (f2 dEq (aB 2) (fC (.int c))) [some S,some (.tup (pcsD r)),some (.int b),none,none,none,none,none,none,none]=some (decide (b=c)):=dI (aR rfl rfl rfl)
  by_cases z:b=c
  ·rw [Zk z] at t
   obtain⟨r',h1,h2⟩:=hf r
   exact⟨r',h1,(bM t).trans (bD h2)⟩
  ·rw [Za z] at t
   exact⟨r,hr,bE t⟩
 obtain⟨r3,R3,s3⟩:=ifr 3 (aG eT (aA (iL [none,some 0] (eL (aA (fC (.int 196)) aE)) gW (aG jX (aA (aG GM (aA (aB 1) (aA (aB 0) (aA (fC (.int 60)) aE)))) aE))) aE)) (fun r=>by
  obtain⟨fs,qf,hl,ho⟩:=zi8 (GM:=GM) (S:=S) hM none 196 0 (by decide)
  obtain⟨k1,k2,k3⟩:=xm6 ho
  exact⟨lvS fs,⟨k1,by omega,by omega⟩,yb4 (n:=196) rfl (by decide) qf⟩) r1 R1
 obtain⟨r5,R5,s5⟩:=ifr 5 (aG eT (aA (iL [none,some 0] (eL (aA (fC (.int 24)) aE)) gW (aG (rD GM) (aA (aB 1) (aA (aB 0) aE)))) aE)) (fun r=>by
  obtain⟨rg,qf,hg⟩:=zd3 (GM:=GM) (S:=S) hM none 24 0 (by decide)
  exact⟨rg,nJ hg (by decide) (by decide),yb4 (n:=24) rfl (by decide) qf⟩) r3 R3
 obtain⟨r7,R7,s7⟩:=ifr 7 (aG (xb3 GM) (aA (aB 0) aE)) (fun r=>by
  obtain⟨rp,qp,hp⟩:=wf2 (GM:=GM) (S:=S) hM
  exact⟨rp,nJ hp (by decide) (by decide),aS (aD rfl rfl) qp⟩) r5 R5
 have hdr:zQ S (qG GM GC):=fun t cs n many salt h1 h2 h3 h4 h5=>we5 hM hC h1 h2 h3 h4 h5
 obtain⟨C,t,qd,hs,_,ht,_⟩:=yk8 (salt:=1) hS (zv0 hS hdr k1 r7 (Ys R7.dep hk1) R7.ok) (Zr R7.dep (by decide)) (Zr R7.len (by decide)) (by decide) (by decide)
 obtain⟨W,qw,w0,w1⟩:=xv0 (GM:=GM) (S:=S) hM ht
 have s8:aU 3 (aI (aG (yn6 GM) (aA (aB 0) (aA (f2 dIx (aG (xT (oP (qG GM GC) k1)) (aA (aB 0) (aA (aB 1) (aA (fC (.int 1)) aE)))) (fC (.int 0))) aE)))) [some S,some (.tup (pcsD r7)),some (.int b),none,none,none,none,none,none,none]=some (.nx,[some S,some (.tup (pcsD r7)),some (.int b),some (.int W),none,none,none,none,none,none]):=
  bD (aS (aD rfl (aD (aR (aS (aD rfl (aD rfl (aD rfl rfl))) qd) rfl (mG _ _)) rfl)) qw)
 obtain⟨c,qc,hc⟩:=hM 1 59 (by decide) (by decide) (by decide) (by decide)
 have n0:=Zv c (show(4:Int)≠0 by decide)
 have n1:=Zs c (show(0:Int)<4 by decide)
 obtain⟨m,hm0,hm1,hma⟩:∃m:Nat,2<=m/\m<=100/\atI [D.int 14,.int 16,.int 20,.int 63] (c % 4)=some (.int (m:Int)):=by
  rcases(show c % 4=0\/c % 4=1\/c % 4=2\/c % 4=3 by omega) with h|h|h|h<;>rw [h]
  ·exact⟨14,by decide,by decide,rfl⟩
  ·exact⟨16,by decide,by decide,rfl⟩
  ·exact⟨20,by decide,by decide,rfl⟩
  ·exact⟨63,by decide,by decide,rfl⟩
 obtain⟨r2,q2,h2⟩:=wm0 hm0 hm1
 obtain⟨r9,W9,R9,w9,w9',s9⟩:∃r' W',RowOk 12 500 r'/\1<=W'/\W'<=40/\fIf (aV (fB (f2 dEq (aB 2) (fC (.int 9))))) (aT (aU 1 (aI (aG xb4 (aA (f2 dIx (cZ (fKs [.int 14,.int 16,.int 20,.int 63])) (f2 cR (aG GM (aA (aB 0) (aA (fC (.int 1)) (aA (fC (.int 59)) aE)))) (fC (.int 4)))) aE)))) (aU 3 (aI (fC (.int 40))))) bH [some S,some (.tup (pcsD r7)),some (.int b),some (.int W),none,none,none,none,none,none]=some (.nx,[some S,some (.tup (pcsD r')),some (.int b),some (.int W'),none,none,none,none,none,none]):=by
  have t:fB (f2 dEq (aB 2) (fC (.int 9))) [some S,some (.tup (pcsD r7)),some (.int b),some (.int W),none,none,none,none,none,none]=some (decide (b=9)):=dI (aR rfl rfl rfl)
  by_cases z:b=9
  ·rw [Zk z] at t
   have a1:aU 1 (aI (aG xb4 (aA (f2 dIx (cZ (fKs [.int 14,.int 16,.int 20,.int 63])) (f2 cR (aG GM (aA (aB 0) (aA (fC (.int 1)) (aA (fC (.int 59)) aE)))) (fC (.int 4)))) aE))) [some S,some (.tup (pcsD r7)),some (.int b),some (.int W),none,none,none,none,none,none]=some (.nx,[some S,some (.tup (pcsD r2)),some (.int b),some (.int W),none,none,none,none,none,none]):=bD (aS (aD (aR (x:= .lst true [.int 14,.int 16,.int 20,.int 63]) rfl (aR (aS (aD rfl (aD rfl (aD rfl rfl))) qc) rfl ((cS _ _).trans (if_pos (by decide)))) hma) rfl) q2)
   exact⟨r2,40,nJ h2 (by decide) (by decide),by decide,by decide,(bM t).trans ((aN a1).trans rfl)⟩
  ·rw [Za z] at t
   exact⟨r7,W,R7,w0,w1,bE t⟩
 obtain⟨z,hz⟩:=xn4 (GM:=GM) (GC:=GC) (S:=S) (x2:=some (.int b)) hk1 hk2 hk3 hS hdr R9 w9 w9'
 exact jM rfl (dE s1 (dE s2 (dE s3 (dE s5 (dE s7 (dE s8 (dE s9 ⟨_,hz⟩)))))))
end
end My
namespace My
open PySem PySem.Spec PyProof.Rows L2 L3
variable{P:Program}{w:World}{K:tz0}{mg:tzA}{base:Heap}{κ:tz9}
abbrev zf2:List D->Option (List Int):=D.ints
theorem yX:∀ns:List Int,zf2 (ns.map .int)=some ns
 |[]=>rfl
 |n::ns=>by show(D.ints (ns.map .int)).map (n::·)=_;rw [show D.ints (ns.map .int)=some ns from yX ns];rfl
def xb5:tz6
 |[.con xs,.int k,.int s]=>match zf2 xs with
  |some ns=>if ns.length<=63/\(0<=k/\k<1000000)/\(0<=s/\s<1000000) then some (.int (zH ns k s)) else none
  |none=>none
 |_=>none
theorem xv7{ns:List Int}(h:ns.length<=63)(k s:Int)(hk:0<=k)(hk1:k<1000)(hs:0<=s)(hs1:s<1000):∃m,xb5 [.con (ns.map .int),.int k,.int s]=some (.int m)/\0<=m:=by
 refine⟨zH ns k s,?_,(yo5 ns k s).1⟩
 show(match zf2 (ns.map .int) with|some ns=>if ns.length<=63/\(0<=k/\k<1000000)/\(0<=s/\s<1000000) then some (D.int (zH ns k s)) else none|none=>none)=_
 rw [yX]
 exact if_pos ⟨h,⟨hk,by omega⟩,hs,by omega⟩
theorem wt7{k:Nat}{f:Addr}{fd:FuncData}{ps:List Str}(F:FnOk P w K mg base CX0 k f fd ps (yu2 K)):FnOk P w K mg base CX0 k f fd ps (SpP 3 K κ xb5):=by
 refine F.imp fun vs H Q E ⟨_,ds,fp,d,r,e,q⟩=> ?_
 unfold xb5 at e
 split at e
 ·rename_i xs k s
  split at e
  ·rename_i ns hns
   obtain⟨hc,e⟩:=cC e
   cases e
   obtain⟨v1,us,f,g,rfl,r1,r2,rfl⟩:=r.split
   obtain⟨v2,us2,f2,g2,rfl,r3,r4,rfl⟩:=r2.split
   obtain⟨v3,rfl,r5⟩:=r4.one_inv
   rw [r3.is_int,r5.is_int]
   obtain⟨a,vs,rfl,hS,hs⟩:=r1.con_inv
   rw [uA hs hns] at hS
   exact⟨a,ns,k,s,rfl,hS.l,hc.1,hc.2.1,hc.2.2,q _ H [] (SameK.refl H) (fun _ ha=>absurd ha (by simp)) Zn (.int _)⟩
  ·cases e
 ·cases e
def ye9(K:tz0):Sp:=fun vs H Q _=>∃(a:Addr) (ns:List Int),vs=[.ref a]/\SqF K H a (ns.map V.int)/\ns.length<=63/\∀H',Q (.bl true) H'
theorem yb5{H:Hp}:∀ns:List Int,Reps K κ H (ns.map V.int) (ns.map .int) []
 |[]=> .nil
 |n::ns=> .cons (f:=[]) (g:=[]) (.int n) (yb5 ns)
theorem wt8{k:Nat}{f:Addr}{fd:FuncData}{ps:List Str}{g:tz6}(F:FnOk P w K mg base CX0 k f fd ps (SpP 1 K κ g))(h:∀ns:List Int,ns.length<=63->g [.con (ns.map .int)]=some (.bl true)):FnOk P w K mg base CX0 k f fd ps (ye9 K):=
 F.imp fun vs H Q E ⟨a,ns,e,hS,hl,q⟩=>e▸⟨rfl,[.con (ns.map .int)],[],.bl true,.cons (f:=[]) (g:=[]) (.con hS (yb5 ns)) .nil,h ns hl,fun v H' fv _ _ _ r=>by cases r;exact q H'⟩
def Cur:Nat->(List Value->Prop)->Prop
 |0,P=>P []
 |n+1,P=>∀a,Cur n fun us=>P (a::us)
theorem zv4{n:Nat}:∀{P:List Value->Prop},Cur n P->∀us:List Value,us.length=n->P us:=by
 induction n with
 |zero=>intro P h us hl;cases XB hl;exact h
 |succ n ih=>
  intro P h us hl
  cases us with
  |nil=>cases hl
  |cons a us=>exact ih (h a) us (Nat.succ.inj hl)
structure FzT(K:tz0)(x:Str)(st:Stmt)(f:Addr)(fd:FuncData):Prop where
 a:PySem.W.nsIn K mainGlobals x=some (some (.ref f))
 F:Fun K x x st f fd
structure MzT(K:tz0)(C:Addr)(m q:Str)(st:Stmt)(f:Addr)(fd:FuncData):Prop where
 i:PySem.W.findIn K (.ref C) m=some (some (.ref f))
 s:PySem.W.isFn K (.ref f)=true
 F:Fun K m q st f fd
structure CzT(K:tz0)(x:Str)(C:Addr):Prop where
 a:PySem.W.nsIn K mainGlobals x=some (some (.ref C))
 g:PySem.W.plainGet K C Str.empty=true
 d:PySem.W.hasDictIn K C=true
 o:PySem.W.plainOver K C=true
 s:PySem.W.findIn K (.ref C) "__setattr__"=some (some (.builtin "object.__setattr__"))
 m:PySem.W.makesIn K C=true
 k:PySem.W.keepIn K (.ref C)=true
abbrev BiT(x q:Str)(st:Stmt)(ps:List Str):Prop:=∀(kV doc pm:Value) (an:Option Addr) (cdv ct:Value) (us:List Value),us.length=ps.length->bindArgs (PySem.W.fnOf x q (xM st) (nK st) (aW st) .none kV doc pm an cdv ct) ⟨us,[]⟩=pure (ps.zip us)
theorem dY{N ps:List Str}{h:Heap}{x:Str}{st:Stmt}{f:Addr}{fd:FuncData}(_:FnScope N ps (aW st))(X:K.In h)(G:h.Ns mainGlobals mg)(a:FzT K x st f fd)(hb:BiT x x st ps:=by exact fun _ _ _ _ _ _=>zv4 (by(repeat intro _);exact rfl)):Dn K mg x st ps f fd:=
 ⟨a.F,a.F.binds hb,YQ X G a.a⟩
theorem zp7{x:Str}{C:Addr}(e:κ x=C)(c:CzT K x C):Cls K (κ x):=by rw [e];exact⟨c.g,c.d,c.o,c.s⟩
theorem yY{x y:Str}{C:Addr}(e:κ x=C)(h:PySem.W.findIn K (.ref C) y=some none):cN K (κ x) y:=by rw [e];exact h
theorem yZ{N ps:List Str}{x m q:Str}{C:Addr}{st:Stmt}{f:Addr}{fd:FuncData}(_:FnScope N ps (aW st))(e:κ x=C)(c:CzT K x C)(a:MzT K C m q st f fd)(hb:BiT m q st ps:=by exact fun _ _ _ _ _ _=>zv4 (by(repeat intro _);exact rfl)):Mn K κ x m q st ps f fd:=
 ⟨a.F,a.F.binds hb,zp7 e c,by rw [e];exact⟨a.i,a.s,a.F.kp⟩⟩
theorem xa1{N ps:List Str}{h:Heap}{x q:Str}{C:Addr}{st:Stmt}{f:Addr}{fd:FuncData}(_:FnScope N ps (aW st))(X:K.In h)(G:h.Ns mainGlobals mg)(e:κ x=C)(c:CzT K x C)(a:MzT K C "__init__" q st f fd)(hb:BiT "__init__" q st ps:=by exact fun _ _ _ _ _ _=>zv4 (by(repeat intro _);exact rfl)):Kn K mg κ x q st ps f fd:=
 ⟨a.F,a.F.binds hb,by rw [e];exact⟨c.m,a.i,a.s,c.k⟩,by rw [e];exact YQ X G c.a⟩
theorem _root_.L2.FnOk.up{CX:CXT}{k k':Nat}{f:Addr}{fd:FuncData}{ps:List Str}{sp:Sp}(h:FnOk P w K mg base CX k f fd ps sp)(hk:k<=k':=by decide):FnOk P w K mg base CX k' f fd ps sp:=h.mono hk
theorem wt9{l:PySem.W.OpenLaw}{q:Program}{loose:List Str}{XP:(tzA)->Heap->Prop}{YP:World->Heap->Prop}{d:DefRec}{K:Params->tz0}{lev:Nat}(hn:l.most=some 63)(hdf:d.params.defaults=[])(hr:Room lev callerA)
  (hY:∀(w:World) (h:Heap),YP w h->(K w.params).In h)
  (F:∀(w:World) (mg:tzA) (fa:Addr) (h:Heap),(K w.params).In h->h.Ns mainGlobals mg->mg d.name=some (.ref fa)->
   ∃fd:FuncData,(∀(s:Shared) (u:Value),BindsTo s fd ⟨[u],[]⟩ [("_law_script",u)])/\∀base:Heap,(K w.params).In base->base.Ns mainGlobals mg->FnOk l.prog w (K w.params) mg base CX0 lev fa fd ["_law_script"] (ye9 (K w.params))):
  PySem.W.WalkO q loose XP YP l.row.toRowW d [] (fun f vs=>PySem.call f vs):=
 L2.wa3 (n:=63) (k:=lev) (x:="_law_script") (CX:=fun _=>CX0) (sp:=fun w=>ye9 (K w.params)) hn (by decide) hdf hr hY F (fun _ H a ns hl hO hS=>⟨a,ns,rfl,by
  rcases hS with (h|h)|h
  ·rcases hO a with z|⟨o,xs,z⟩<;>rw [h] at z<;>cases z
  ·exact .inl h
  ·exact .inr h,hl,fun _=>rfl⟩) fun _ _ _ _ _ z=>z
end My
namespace My
open PySem PySem.Spec PyProof.Rows L2 L3
variable{P:Program}{w:World}{K:tz0}{mg:tzA}{base:Heap}{κ:tz9}
def yf0:tz6
 |[.con xs,.int k]=>match zf2 xs with
  |some ns=>some (.int (sJ ns k))
  |none=>none
 |_=>none
theorem xn5(ns:List Int)(k:Int):yf0 [.con (ns.map .int),.int k]=some (.int (sJ ns k)):=by
 show(match zf2 (ns.map .int) with|some ns=>some (D.int (sJ ns k))|none=>none)=_
 rw [yX]
theorem wr6{k:Nat}{f:Addr}{fd:FuncData}{ps:List Str}(F:FnOk P w K mg base CX0 k f fd ps (ym8 K)):FnOk P w K mg base CX0 k f fd ps (SpP 2 K κ yf0):=by
 refine F.imp fun vs H Q E ⟨_,ds,fp,d,r,e,q⟩=> ?_
 unfold yf0 at e
 split at e
 ·rename_i xs k
  split at e
  ·rename_i ns hns
   cases e
   obtain⟨v1,us,f,g,rfl,r1,r2,rfl⟩:=r.split
   obtain⟨v3,rfl,r5⟩:=r2.one_inv
   rw [r5.is_int]
   obtain⟨a,vs,rfl,hS,hs⟩:=r1.con_inv
   rw [uA hs hns] at hS
   exact⟨a,ns,k,rfl,hS.l,q _ H [] (SameK.refl H) (fun _ ha=>absurd ha (by simp)) Zn (.int _)⟩
  ·cases e
 ·cases e
end My
namespace My
open PySem PySem.Spec PyProof.Rows L2 L3
theorem wm1{l:PySem.W.OpenLaw}{w:World}{K:tz0}{h:Heap}{mg:tzA}{fa:Addr}(X:K.In h)(G:h.Ns mainGlobals mg)(hfa:mg "law"=some (.ref fa))
  (r6:FzT K "first_place" iY i5 gs)
  (ss:FzT K "holds_rows" jN ji i4)
  (qt:FzT K "takes_choice" iI gq fk)
  (vh:FzT K "ways" pB oq m6)
  (t9:FzT K "new_line" oK pz o8)
  (ul:FzT K "writing" mP lq ko)
  (tj:FzT K "ends_line" kG jr jg)
  (qm:FzT K "column_behind" gY f9 eu)
  (r8:FzT K "with_choice" kZ m7 mj)
  (qu:FzT K "behind_plain" jV mm l7)
  (qo:FzT K "behind_holder" jO l6 lu)
  (su:FzT K "behind_row" st_p_behind_row jh iz)
  (qq:FzT K "behind_pieces" hJ f8 et)
  (ua:FzT K "lines_of" lG kl jt)
  (vi:FzT K "fits" sM ue tu)
  (u9:FzT K "price" pX tw si)
  (sd:FzT K "roads_begin" jB i6 gx)
  (ux:FzT K "set_by" oB l9 lm)
  (qy:FzT K "best_choices" gF gw f7)
  (um:FzT K "pressed" mQ nu mw)
  (uo:FzT K "_law_cell_at" mL re p8)
  (va:FzT K "_law_mixed" gQ bu a9)
  (vj:FzT K "_law_word" sP ot m9)
  (vk:FzT K "_law_leaf" mS ja gl)
  (vm:FzT K "_law_shut" vZ uf tx)
  (wa:FzT K "_law_row" zJ u4 uj)
  (uq:FzT K "_law_wrapped" pZ rh qg)
  (tm:FzT K "_law_paragraph" nN pd oj)
  (sv:FzT K "_law_two_prices" lV ol nj)
  (ur:FzT K "_law_grouped" qA rj qh)
  (vn:FzT K "_law_next" wC uh t4)
  (vo:FzT K "_law_line" sT oy na)
  (uy:FzT K "_law_column" rM sj rf)
  (vp:FzT K "_law_stop" wE ug tz)
  (ub:FzT K "_law_leaf_set" oN p9 pb)
  (wb:FzT K "_law_set" zL u0 ui)
  (vd:FzT K "_law_drawn" tT t6 so)
  (vq:FzT K "_law_cost" wH uk t7)
  (uz:FzT K "_law_behind" rN sr rl)
  (ve:FzT K "_law_width" qC t5 sk)
  (ut:FzT K "_law_pressed" qE rk qj)
  (uu:FzT K "law" ze7 wx wk)
  (z0:PySem.W.nsIn K mainGlobals "len"=some none)
  (z1:PySem.W.nsIn K mainGlobals "enumerate"=some none)
  (z2:PySem.W.nsIn K mainGlobals "all"=some none)
  (z3:PySem.W.nsIn K mainGlobals "sum"=some none)
  (z4:PySem.W.nsIn K mainGlobals "min"=some none)
  (z5:PySem.W.nsIn K mainGlobals "max"=some none)
  (z6:PySem.W.nsIn K mainGlobals "range"=some none)
  (z7:PySem.W.nsIn K mainGlobals "tuple"=some none)
  (z8:PySem.W.nsIn K mainGlobals "int"=some none)
  (g0:PySem.W.nsIn K mainGlobals "HOLDERS"=some (some (.ref lr)))
  (vf:K.lookup lr=some ⟨.type "tuple",wm,.seq #[.str "group" wn,.str "hang" wo,.str "either" wq] wu,wv⟩)
  (uv:CzT K "Place" om)
  (uc:MzT K om "__init__" "Place.__init__" st_Place_init kc jq)
  (vt:PySem.W.findIn K (.ref om) "broken"=some none)
  (vy:PySem.W.findIn K (.ref om) "margin"=some none)
  (o4:CzT K "Front" lj)
  (ud:MzT K lj "__init__" "Front.__init__" st_Front_init c6 cg)
  (uw:MzT K lj "add" "Front.add" st_Front_add dk c7)
  (sf:MzT K lj "add_all" "Front.add_all" st_Front_add_all m8 ml)
  (wc:PySem.W.findIn K (.ref lj) "steps"=some none)
  (wf:PySem.W.findIn K (.ref lj) "best"=some none)
  (jk:CzT K "WithinWidth" eo)
  (ph:MzT K eo "__init__" "WithinWidth.__init__" st_WithinWidth_init lw kt)
  (ly:MzT K eo "state_behind" "WithinWidth.state_behind" st_WithinWidth_state_behind g9 gk)
  (on:MzT K eo "rag_of" "WithinWidth.rag_of" st_WithinWidth_rag_of kq j9)
  (wd:PySem.W.findIn K (.ref eo) "width"=some none)
  (jf:CzT K "Setter" dh)
  (tp:MzT K dh "__init__" "Setter.__init__" st_Setter_init o9 oh)
  (og:MzT K dh "choice_below" "Setter.choice_below" gR ka jp)
  (pj:MzT K dh "set_plain" "Setter.set_plain" jG lx kz)
  (o5:MzT K dh "set_holder" "Setter.set_holder" iN ky kr)
  (rc:MzT K dh "set_row" "Setter.set_row" st_Setter_set_row gu fm)
  (o6:MzT K dh "whole_text" "Setter.whole_text" st_Setter_whole_text ku km)
  (vg:PySem.W.findIn K (.ref dh) "choices"=some none)
  (wg:PySem.W.findIn K (.ref dh) "used"=some none)
  (vz:PySem.W.findIn K (.ref dh) "column"=some none)
  (we:PySem.W.findIn K (.ref dh) "parts"=some none)
  (v5:PySem.W.nsIn K mainGlobals "NoRoom"=some (some (.ref cu)))
  (v6:PySem.W.excIn K cu [.type "ValueError",.type "Exception",.type "BaseException",.type "object"] "ValueError.__new__"=true)
  :∃fd:FuncData,(∀(s:Shared) (v:Value),BindsTo s fd ⟨[v],[]⟩ [("_law_script",v)])/\∀base:Heap,K.In base->base.Ns mainGlobals mg->FnOk l.prog w K mg base CX0 47 fa fd ["_law_script"] (ye9 K):=by
 have e:=hfa.symm.trans (YQ X G uu.a)
 cases e
 have a7:=dY uS X G r6
 have bd:=dY vM X G ss
 have av:=dY tF X G qt
 have gn:=dY vN X G vh
 have du:=dY zW X G t9
 have cw:=dY uT X G ul
 have bx:=dY xC X G tj
 have aq:=dY rW X G qm
 have c9:=dY iT X G r8
 have cm:=dY gC X G qu
 have cb:=dY eQ X G qo
 have bf:=dY hX X G su
 have ar:=dY rX X G qq
 have b9:=dY zX X G ua
 have k8:=dY zz2 X G vi
 have j6:=dY tK X G u9
 have a8:=dY kT X G sd
 have di:=dY wL X G ux
 have ai:=dY nP X G qy
 have b7:=dY mE X G um
 have ez:=dY zb6 X G uo
 have af:=dY kS X G va
 have gy:=dY jL X G vj
 have bn:=dY zc1 X G vk
 have j3:=dY gU X G vm
 have mi:=dY mF X G wa
 have ie:=dY fL X G uq
 have eh:=dY nH X G tm
 have dq:=dY vO X G sv
 have ig:=dY pI X G ur
 have j4:=dY rY X G vn
 have gz:=dY zz3 X G vo
 have g4:=dY zi7 X G uy
 have lb:=dY zz4 X G vp
 have ge:=dY zY X G ub
 have ij:=dY iU X G wb
 have jb:=dY tL X G vd
 have jc:=dY oX X G vq
 have g5:=dY wM X G uz
 have j8:=dY pJ X G ve
 have iq:=dY uU X G ut
 have u8:=dY iH X G uu
 obtain⟨κ,hκ⟩:∃κ,κ=(kap [("Place",om),("Front",lj),("WithinWidth",eo),("Setter",dh)]):=⟨_,rfl⟩
 have o7:κ "Place"=om:=by rw [hκ];simp [kap,gD]
 have az:=zp7 o7 uv
 have ic:=xa1 zZ X G o7 uv uc
 have bq:=yY o7 vt
 have dj:=yY o7 vy
 have ll:κ "Front"=lj:=by rw [hκ];simp [kap,gD]
 have ae:=zp7 ll o4
 have ci:=xa1 za0 X G ll o4 ud
 have ao:=yZ zc2 ll o4 uw
 have da:=yZ oV ll o4 sf
 have cj:=yY ll wc
 have aj:=yY ll wf
 have gj:κ "WithinWidth"=eo:=by rw [hκ];simp [kap,gD]
 have ay:=zp7 gj jk
 have d9:=xa1 qL X G gj jk ph
 have al:=yZ fH gj jk ly
 have bi:=yZ oY gj jk on
 have fg:=yY gj wd
 have c8:κ "Setter"=dh:=by rw [hκ];simp [kap,gD]
 have ah:=zp7 c8 jf
 have k9:=xa1 xE X G c8 jf tp
 have ba:=yZ jR c8 jf og
 have b6:=yZ lM c8 jf pj
 have bw:=yZ eZ c8 jf o5
 have aw:=yZ nQ c8 jf rc
 have bv:=yZ pK c8 jf o6
 have cz:=yY c8 vg
 have ej:=yY c8 wg
 have gm:=yY c8 vz
 have g8:=yY c8 we
 have ac:=ZY X G z0
 have nk:=ZY X G z1
 have u5:=ZY X G z2
 have u6:=ZY X G z3
 have kn:=ZY X G z4
 have oo:=ZY X G z5
 have au:=ZY X G z6
 have bg:=ZY X G z7
 have u7:=ZY X G z8
 have pq:=YQ X G g0
 have pr:∀H,Rep K κ H (.ref lr) (.tup [(.str "group"),(.str "hang"),(.str "either")]) []:=fun H=>xr1 (ys:=[("group",_),("hang",_),("either",_)]) vf (Z3 rfl) H
 obtain⟨oc,od,kV,doc,pm,an,cdv,ct,osl,el,_,_⟩:=uu.F.ex
 refine⟨wk,fun s v=>by rw [el];exact .of_eq rfl,fun base KB _=> ?_⟩
 have i9:OwnCls "NoRoom" cu bmV "ValueError.__new__" mg base:=⟨YQ X G v5,wc3 KB v6⟩
 have H1:=yi1 (P:=l.prog) (w:=w) (base:=base) (n:=0) ez ac
 have H2:=yx8 (n:=1) af ez H1 ac oo
 have ag:=wt7 (κ:=κ) H2
 have jo:=wr6 (κ:=κ) H1
 have la:=xh4 (P:=l.prog) (w:=w) (base:=base) (κ:=κ) (n:=0) gy au
 have cv:=xh5 (n:=1) bn gy la.up
 have n8:=yi4 (n:=2) ie af ag.up bn cv.up au
 have ox:=xh6 (P:=l.prog) (w:=w) (base:=base) (κ:=κ) (n:=0) j3 bg ac
 have sy:=xs4 (n:=2) mi af ag.up j3 ox.up bn cv.up au bg ac
 have n9:=yi5 (n:=2) ig bn cv.up af ag.up
 have l5:=zt8 (n:=2) eh gy la.up af ag.up au bg
 have qi:=yy1 (n:=2) j8 af ag.up oo kn ac
 have o3:=xh7 (n:=2) j4 af ag.up ez jo.up
 have me:=yo7 (P:=l.prog) (w:=w) (base:=base) (κ:=κ) (n:=0) g4 ac
 have lc:=xh8 (P:=l.prog) (w:=w) (base:=base) (κ:=κ) (n:=0) gz
 have rz:=xh9 (n:=1) lb g4 me.up gz lc.up
 have mo:=yc4 (n:=2) ge lb rz.up gz lc.up
 have wj:∀n,FnOk l.prog w K mg base CX0 (n+3) _ _ ["_law_script","_law_row_here","_law_flat","_law_hang","_law_state","_law_salt"] (SpE 6 K κ (bI [false,false,false,false,true,false]) (oP (qG xb5 yf0) n)):=fun n=>by
  induction n with
  |zero=>exact FnOk.noneE (ps:=["_law_script","_law_row_here","_law_flat","_law_hang","_law_state","_law_salt"])
  |succ n ih=>exact xs5 ij j4 (o3.mono (by omega)) ih ge (mo.mono (by omega)) ac u7
 have j7:=wj 13
 have nh:=yy0 (n:=16) jb ij j7.up bg
 have lh:=zn5 (P:=l.prog) (w:=w) (base:=base) (κ:=κ) (n:=0) dq
 have dm:=zn3 (P:=l.prog) (w:=w) (base:=base) (κ:=κ) (n:=0) bd pq pr
 have ax:=yc6 (P:=l.prog) (w:=w) (base:=base) (κ:=κ) (n:=0) ci ae cj aj
 have kf:=yc1 (P:=l.prog) (w:=w) (base:=base) (κ:=κ) (n:=0) du
 have ir:=yi2 (n:=1) cw du kf.up az bq dj
 have d8:=zt7 (P:=l.prog) (w:=w) (base:=base) (κ:=κ) (n:=0) bx
 have cf:=zb7 (n:=1) aq bx d8.up ac
 have g7:=xD (P:=l.prog) (w:=w) (base:=base) (κ:=κ) (mg:=mg) (n:=0) bi ay fg
 have dg:=rZ (n:=2) al cw ir.up aq cf.up bx d8.up bi g7.up ay fg
 have bc:=yi7 (P:=l.prog) (w:=w) (base:=base) (κ:=κ) (mg:=mg) (n:=0) ao ae aj
 have jw:=zi0 (n:=2) cm ci ax.up al dg.up ao bc.up ae aj cj
 have dt:=yc5 (P:=l.prog) (w:=w) (base:=base) (κ:=κ) (n:=0) ic az bq dj
 have k7:=xh2 (n:=1) gn ic dt.up az bq dj
 have cq:=zh9 (P:=l.prog) (w:=w) (base:=base) (κ:=κ) (n:=0) av az bq
 have ki:=zj9 (n:=1) c9 ci ax.up ao bc.up ae aj cj
 have kj:=zk1 (n:=1) da ao bc.up ae aj
 have tq:∀n,FnOk l.prog w K mg base CX0 (3*n+4) _ _ ["front","row","place"] (SpP 3 K κ (zP n)):=fun n=>by
  induction n with
  |zero=>exact FnOk.noneP (ps:=["front","row","place"])
  |succ n ih=>exact zn4 (n:=3*n+6) bf bd (dm.mono (by omega)) cb (zb8 (n:=3*n+4) cb ci (ax.mono (by omega)) gn (k7.mono (by omega)) av (cq.mono (by omega)) c9 (ki.mono (by omega)) da (kj.mono (by omega)) bf (ih.mono (by omega)) ae cj nk) cm (jw.mono (by omega))
 have gc:=tq 13
 have db:=zj8 (n:=1) a7 ic dt.up
 have cc:=zb9 (n:=43) ar bf gc.up a7 db.up
 have i8:=za5 (P:=l.prog) (w:=w) (base:=base) (κ:=κ) (n:=0) d9 ay fg
 have gd:=yc2 (P:=l.prog) (w:=w) (base:=base) (κ:=κ) (n:=0) b9
 have rn:=xh3 (n:=1) k8 b9 gd.up u5 ac
 have p7:=yx9 (n:=2) j6 k8 rn.up b9 gd.up u6 ac
 have dc:=zk0 (n:=2) a8 ci ax.up d9 i8.up j6 p7.up ao bc.up
 have jn:=zc0 (P:=l.prog) (w:=w) (base:=base) (κ:=κ) (n:=0) ai i9 ae aj kn
 have mx:=yc3 (n:=44) b7 ai jn.up ar cc.up a8 dc.up i9
 have jy:=zi1 (P:=l.prog) (w:=w) (base:=base) (κ:=κ) (n:=0) ai ae aj kn
 have l3:=zt9 (P:=l.prog) (w:=w) (base:=base) (κ:=κ) (n:=0) k9 ah cz ej gm g8
 have je:=za6 (n:=2) b6 cw ir.up aq cf.up ah gm g8
 have gh:=wN (P:=l.prog) (w:=w) (base:=base) (κ:=κ) (n:=0) ba ah ej cz ac
 have sh:∀n,FnOk l.prog w K mg base CX0 (2*n+3) _ _ ["self","row","place"] (SpE 3 K κ (bI [true,false,false]) (tW n)):=fun n=>by
  induction n with
  |zero=>exact FnOk.noneE (ps:=["self","row","place"])
  |succ n ih=>exact zi2 (n:=2*n+4) aw bd (dm.mono (by omega)) bw (yE (n:=2*n+3) bw gn (k7.mono (by omega)) av (cq.mono (by omega)) ba (gh.mono (by omega)) aw ih ac) b6 (je.mono (by omega))
 have d7:=sh 13
 have iw:=yF (P:=l.prog) (w:=w) (base:=base) (κ:=κ) (n:=0) bv ah ej g8 cz ac
 have jj:=yo6 (n:=28) di k9 l3.up aw d7.up a7 db.up bv iw.up
 have nv:=yi3 (n:=44) b7 ai jy.up ar cc.up a8 dc.up di jj.up
 have oa:=yi6 (n:=45) iq b7 nv.up mx.up i9
 have mz:=xi0 (P:=l.prog) (w:=w) (base:=base) (κ:=κ) (n:=0) jc au ac
 have mh:=yo8 (P:=l.prog) (w:=w) (base:=base) (κ:=κ) (n:=0) g5 au kn ac
 have ww:=wk1 (n:=46) u8 ie n8.up mi sy.up af ag.up bn cv.up ig n9.up eh l5.up j8 qi.up jb nh.up dq lh.up iq oa.up di jj.up jc mz.up g5 mh.up au bg
 exact wt8 ww fun ns hl=>xa0 (by decide) (by decide) (by decide) (kM ns) (fun j s h0 h1 h2 h3=>xv7 hl j s h0 h1 h2 h3) (fun j _ _=>⟨_,xn5 ns j⟩)
end My
open PySem PySem.W PyProof.Rows
set_option maxRecDepth 100000 in
set_option maxHeartbeats 0 in
theorem PySem.Challenge.cw_linepress_k22_whole_best_holds : PySem.Challenge.rw_linepress_k22_whole_best.Holds := by
 w_on;o_law;k_head;(case hw=>w_witness2)
 k_fill
 refine My.wt9 (lev:=47) (l:=PySem.Challenge.rw_linepress_k22_whole_best) rfl rfl ⟨rfl,by decide,by decide⟩ (fun w h Y=>PySem.W.kIn_of Y) ?F
 case F=>
  intro w mg fa h KX G hmg
  apply My.wm1 KX G hmg
  all_goals first
   |(refine' My.FzT.mk ?a (L2.xd9 ?b ?c ?d);(case a=>k_is);(case b=>k_is);(case c=>k_is);(case d=>k_is))
   |(refine' My.MzT.mk ?a ?e (L2.xd9 ?b ?c ?d);(case a=>k_is);(case e=>k_is);(case b=>k_is);(case c=>k_is);(case d=>k_is))
   |(refine' My.CzT.mk ?a ?_ ?_ ?_ ?_ ?_ ?_;(case a=>k_is);all_goals k_is)
   |(refine' My.vz_mk ?a ?b;(case a=>k_is);(case b=>exact⟨_,rfl⟩))
   |k_is
   |rfl
   |kit_is
   |k_exc
   |kernel_rfl
#print axioms PySem.Challenge.cw_linepress_k22_whole_best_holds

