import PyProof.Rows.All
import Wide.All
import OpenK.AllK
import Wide.FinOn
import Lean
import PyProof.EqAt
import PyProof.EqKinds
import PyProof.TupleCall
import PySem.Challenge.RW_linepress_k31_narrowest
set_option Elab.async false
set_option genSizeOfSpec false
set_option genInjectivity false
def PySem.W.Fast.tw17698266592651277845:=()
def PySem.W.Fast.tw5895360396945649710:=()
def PySem.W.Fast.tw9854779211912786800:=()
def PySem.W.Fast.tw1369591662844538669:=()
def PySem.W.Fast.tw7665241005705166829:=()
def PySem.W.Fast.tw15330286526023735829:=()
def PySem.W.Fast.tw14755052317519248158:=()
def PySem.W.Fast.tw9296985878900037825:=()
def PySem.W.Fast.tw2876733754377176911:=()
def PySem.W.Fast.tw5738119434705742370:=()
def PySem.W.Fast.tw14719094242780049139:=()
def PySem.W.Fast.tw18262890147782500109:=()
def PySem.W.Fast.tw622275289131779264:=()
def PySem.W.Fast.tw336111024885989003:=()
def PySem.W.Fast.tw3458882941362070817:=()
def PySem.W.Fast.tw7359047978522642008:=()
def PySem.W.Fast.tw15373014937355182002:=()
def PySem.W.Fast.tw14013917293186613381:=()
def PySem.W.Fast.tw3238235677640562250:=()
def PySem.W.Fast.tw10882851183772362206:=()
def PySem.W.Fast.tw15513069364446609646:=()
def PySem.W.Fast.tw4971632234195724755:=()
def PySem.W.Fast.tw15409155361264608833:=()
def PySem.W.Fast.tw17000399821281473918:=()
def PySem.W.Fast.tw12336739540395820707:=()
def PySem.W.Fast.tw1108265027655741061:=()
def PySem.W.Fast.tw17971868635834692213:=()
def PySem.W.Fast.tw11807718765324003849:=()
def PySem.W.Fast.tw11535443800812588051:=()
def PySem.W.Fast.tw888828044937962972:=()
def PySem.W.Fast.tw3606797999015762251:=()
def PySem.W.Fast.tw12568391218184980498:=()
def PySem.W.Fast.tw18242755168046626637:=()
def PySem.W.Fast.tw12725266822153625973:=()
def PySem.W.Fast.tw5738555786298930606:=()
def PySem.W.Fast.tw4060054109245851006:=()
def PySem.W.Fast.tw12552699132975284737:=()
def PySem.W.Fast.tw13116029330339193552:=()
def PySem.W.Fast.tw7385819196179932342:=()
def PySem.W.Fast.tw13608924475870088188:=()
def PySem.W.Fast.tw6301381264336396165:=()
def PySem.W.Fast.tw15484349734297499101:=()
def PySem.W.Fast.tw8423515727056806058:=()
def PySem.W.Fast.tw14464799808642007548:=()
def PySem.W.Fast.tw17149010373300295189:=()
def PySem.W.Fast.tw4286854780373765785:=()
def PySem.W.Fast.tw13123016496259603294:=()
def PySem.W.Fast.tw3400045386572738910:=()
def PySem.W.Fast.tw6141471423455393164:=()
def PySem.W.Fast.tw12137562747566396580:=()
def PySem.W.Fast.tw17407108918608533433:=()
def PySem.W.Fast.tw10304258280246804636:=()
def PySem.W.Fast.tw13876040680949730484:=()
def PySem.W.Fast.tw16543889190166606182:=()
def PySem.W.Fast.tw11822643053316432124:=()
def PySem.W.Fast.tw5172722693347122944:=()
def PySem.W.Fast.tw9799104088200688778:=()
def PySem.W.Fast.tw10246684968512587771:=()
def PySem.W.Fast.tw15166164836392869543:=()
def PySem.W.Fast.tw17103947545069608729:=()
def PySem.W.Fast.tw9041983178847716232:=()
def PySem.W.Fast.tw15231355059746876644:=()
def PySem.W.Fast.tw5748353745983250619:=()
def PySem.W.Fast.tw1691727200822524425:=()
def PySem.W.Fast.tw14765117699796815904:=()
def PySem.W.Fast.tw3982278670903423283:=()
def PySem.W.Fast.tw2459797840073307693:=()
def PySem.W.Fast.tw16804185407104221666:=()
def PySem.W.Fast.tw18273443898182457353:=()
def PySem.W.Fast.tw7605547216231869156:=()
def PySem.W.Fast.tw10115095686507293742:=()
def PySem.W.Fast.tw1393398712723640870:=()
def PySem.W.Fast.tw14514621385570907971:=()
def PySem.W.Fast.tw2344982052609604970:=()
def PySem.W.Fast.tw11493816233087103999:=()
def PySem.W.Fast.tw12121635650173657497:=()
def PySem.W.Fast.tw5463831393796415237:=()
def PySem.W.Fast.tw11511945122975360144:=()
set_option linter.all false
set_option maxRecDepth 100000
set_option maxHeartbeats 1000000
abbrev NDb(x:PySem.Str):Prop:=(x==("__debug__":PySem.Str))=false
def Z0:=@List.mem_cons_self
def Z1:=@List.mem_cons_of_mem
def Z2:=@Option.bind_some
def Z3:=@List.length_append
def Z4:=@List.mem_cons
def Z5:=@List.getElem?_eq_some_iff
def Z6:=@List.length_cons
def Z7:=@Bool.false_ne_true
def Z8:=@List.mem_append_right
def Z9:=@List.map_cons
def Za:=@List.mem_singleton
def Zb:=@List.length_map
def Zc:=@Nat.le_refl
def Zd:=@decide_eq_false
def Ze:=@List.getElem?_map
def Zf:=@PySem.wpAny_bind
def Zg:=@Nat.le_of_ble_eq_true
def Zh:=@PySem.Heap.get?_push_of_some
def Zi:=@List.mem_append_left
def Zj:=@List.append_nil
def Zk:=@PySem.Heap.lt_size
def Zl:=@List.append_assoc
def Zm:=@List.nodup_nil
def Zn:=@List.mem_append
def Zo:=@List.size_toArray
def Zp:=@List.getElem?_eq_getElem
def Zq:=@decide_eq_true
def Zr:=@Option.map_eq_some_iff
def Zs:=@List.nodup_cons
def Zt:=@Nat.le_trans
def Zu:=@List.getElem?_set_ne
def Zv:=@PySem.Heap.get?_push_size
def Zw:=@Nat.lt_of_lt_of_le
def Zx:=@Bool.and_eq_true
def Zy:=@Int.emod_lt_of_pos
def Zz:=@Option.some.inj
def ZA:=@List.getElem?_set_self
def ZB:=@List.lookup_cons
def ZC:=@List.nodup_append
def ZD:=@PySem.wpAny_pure
def ZE:=@Nat.ne_of_lt
def ZF:=@Int.emod_nonneg
def ZG:=@PySem.W.mg_none_of
def ZH:=@PySem.wpAny_mono
def ZI:=@PySem.Paired.length
def ZJ:=@Nat.zero_le
def ZK:=@List.mem_of_getElem?
def ZL:=@PySem.W.kia_one
def ZM:=@PySem.PassesOwn.never
def ZN:=@congrArg
def ZO:=@List.getElem?_append_left
def ZP:=@List.drop_eq_getElem_cons
def ZQ:=@Array.length_toList
def ZR:=@PySem.wpAny_truthy_bool
def ZS:=@Bool.false_eq_true
def ZT:=@List.not_mem_nil
def ZU:=@List.cons_append
def ZV:=@Nat.le_add_right
def ZW:=@PySem.wpAny_Call_Name_kw
def ZX:=@decide_eq_true_eq
def ZY:=@PySem.boot_len
def ZZ:=@List.length_nil
def Y2:=@if_true
def Y3:=@PySem.Heap.get?_update_other
def Y4:=@Nat.lt_of_le_of_lt
def Y5:=@Nat.lt_irrefl
def Y6:=@PySem.sizeLine_eq
def Y7:=@PySem.W.mg_of
def Y8:=@Ne.symm
def Y9:=@List.map_append
def Ya:=@List.mem_map
def Yb:=@beq_eq_false_iff_ne
def Yc:=@PySem.W.hideAll_get
def Yd:=@PySem.mem_of_lookup
def Ye:=@List.replicate_succ
def Yf:=@List.mem_map_of_mem
def Yg:=@Int.le_refl
def Yh:=@PySem.W.callWith_K
def Yi:=@List.zip_cons_cons
def Yj:=@PySem.F.plain_min_loop
def Yk:=@PyProof.Rows.callWith_type1
def Yl:=@List.length_range
def Ym:=@PySem.wpAny_passesOwn
def Yn:=@PySem.wpAny_loadPart'
def Yo:=@PySem.Calls.Name_function_global
def Yp:=@List.find?_cons
def Yq:=@List.nil_append
def Yr:=@eq_self
def Ys:=@Nat.not_lt_zero
def Yt:=@of_decide_eq_false
def Yu:=@PySem.W.sortI_perm
def Yv:=@List.getElem?_replicate
def Yw:=@List.getElem?_cons_succ
def Yx:=@PySem.wpAny_holding
def Yy:=@if_false
def Yz:=@List.flatten_cons
def YA:=@List.map_map
def YB:=@PySem.wpAny_execs_nil
def YC:=@PySem.wpAny_getItem_str_slice
def YD:=@List.getElem?_eq_none
def YE:=@List.perm_append_comm
def YF:=@beq_iff_eq
def YG:=@List.length_take
def YH:=@decide_eq_decide
def YI:=@PySem.W.hideAll_none
def YJ:=@Bool.eq_iff_iff
def YK:=@Nat.le_of_lt
def YL:=@PySem.wpAny_execs_cons
def YM:=@Nat.zero_add
def YN:=@List.mem_filterMap
def YO:=@List.getElem?_append_right
def YQ:=@List.getD_eq_getElem?_getD
def YR:=@Int.toNat_natCast
def YS:=@PySem.codeAny_mono
def YT:=@PySem.F.args_tuple_add_2
def YU:=@List.any_cons
def YV:=@Nat.lt_succ_self
def YW:=@PySem.Calls.spliced_cons
def YX:=@PySem.F.entry_tuple_add
def YY:=@Option.join_some
def YZ:=@List.append_cancel_left
def X0:=@PySem.F.slot_tuple_add
def X1:=@List.sublist_cons_self
def X2:=@List.append_inj_right'
def X3:=@PySem.Calls.spliced_nil
def X4:=@PySem.W.methodCall_KW
def X5:=@List.length_replicate
def X6:=@List.append_inj_left'
def X7:=@List.mem_range
def X8:=@PySem.Calls.loadGlobal_global
def X9:=@or_false
def Xa:=@List.getElem?_of_mem
def Xb:=@List.filterMap_cons
def Xc:=@PySem.W.plainGet_of
def Xd:=@PySem.typeIs_str
def Xe:=@PySem.Calls.callWith_builtin
def Xf:=@ne_true_of_eq_false
def Xg:=@List.reverse_append
def Xh:=@List.length_reverse
def Xi:=@PySem.post_val_or_str
def Xj:=@PySem.codeAny_builtin
def Xk:=@List.cons.inj
def Xl:=@PySem.W.of_hideAll
def Xm:=@PySem.Heap.get?_update_self
def Xn:=@List.zip_nil_left
def Xo:=@List.map_nil
def Xp:=@of_decide_eq_true
def Xq:=@Nat.add_zero
def Xr:=@PySem.Around.under_plainId
def Xs:=@PySem.wpAny_tryCatch
def Xt:=@PyProof.Rows.callWith_builtin1
def Xu:=@List.length_drop
def Xv:=@List.nil_sublist
def Xw:=@List.drop_length
def Xx:=@Bool.not_eq_true
def Xy:=@Array.toList_inj
def Xz:=@PySem.plainId_quiet
def XA:=@List.eq_nil_of_length_eq_zero
def XB:=@PyProof.Rows.boot_tuple
def XC:=@List.of_mem_zip
def XD:=@List.length_set
def XE:=@PySem.call_meets
def XF:=@PySem.tupleKind_room_in1
def XG:=@PySem.F.args_str_split_2
def XH:=@List.takeWhile_append_of_pos
def XI:=@PySem.wpAny_Assign_Name
def XJ:=@Bool.false_and
def XL:=@Int.fdiv_eq_ediv_of_nonneg
def XM:=@PySem.F.entry_str_split
def XN:=@PySem.Txt.slice_le
def XO:=@List.drop_zero
def XQ:=@PySem.F.excBase_ValueError
def XR:=@List.sublist_append_right
def XS:=@Option.isSome_iff_exists
def XT:=@PySem.noFill_tuple_add
def XU:=@List.all_cons
def XV:=@PySem.F.slot_str_split
def XW:=@List.sublist_append_left
def XX:=@List.set_eq_of_length_le
def XY:=@PySem.F.entry_min_loop
def XZ:=@PySem.F.slot_dict_values
def W0:=@PySem.F.args_tuple_lt_2
def W1:=@PySem.F.plainAttrs_list
def W2:=@PySem.wpAny_letGo
def W3:=@Nat.ne_of_gt
def W4:=@PySem.W.cellsFrom_some
def W5:=@PySem.F.entry_tuple_lt
def W6:=@List.append_eq_nil_iff
def W7:=@Option.map_eq_none_iff
def W8:=@PySem.W.funFrames_hide
def W9:=@PySem.W.funFrames_base
def Wa:=@PySem.wpAny_updateSeq
def Wb:=@PySem.F.slot_str_split
def Wc:=@PySem.F.type_str_split
def Wd:=@Int.ofNat_le
def We:=@PySem.F.slot_tuple_lt
def Wf:=@List.length_singleton
def Wg:=@Array.getElem?_toList
def Wh:=@Sum.inl.inj
def Wi:=@PySem.Heap.size_push
def Wj:=@PySem.wpAny_call
def Wk:=@PySem.wpAny_seqItems
def Wl:=@Int.le_of_lt_add_one
def Wm:=@PySem.W.callWith_K0
def Wn:=@List.dropLast_cons₂
def Wo:=@Array.append_assoc
def Wp:=@PySem.wpAny_standAt
def Wq:=@PySem.W.kitx_tuple
def Ws:=@PySem.AutoSeq1.sub_tuple_tuple
def Wt:=@List.zip_nil_right
def Wu:=@PySem.seq_tuple_add
def Wv:=@PySem.wpAny_pyNext_values_item
def Ww:=@PySem.W.kitx_list
def Wx:=@PySem.W.kitx_dict
def Wy:=@Option.isSome_map
def Wz:=@Nat.le_succ_of_le
namespace L2
open PySem PySem.Spec PyProof.Rows
abbrev Key:=Sum Int Str
abbrev _root_.tz9:=Str->Addr
abbrev _root_.tz0:=PySem.W.Frag
abbrev _root_.tzA:=Str->Option Value
abbrev _root_.tzB:=List (Addr×Obj)
def xY:Key->Value->Bool
 | .inl k,v=>Value.isInt k v
 | .inr x,v=>Value.isStrOf x v
def wq6(w:World):Key->Int
 | .inl k=>hashInt k
 | .inr x=>hashStr w x
theorem fN:∀{k:Key} {v:Value},xY k v=true->(∃i t,k=Sum.inl i/\v=Value.int i t)\/(∃x t,k=Sum.inr x/\v=Value.str x t)
 | .inl i,v,h=>by
  obtain⟨t,e⟩:=Value.isInt_shape (k:=i) (v:=v) h
  exact .inl ⟨i,t,rfl,e⟩
 | .inr x,v,h=>by
  obtain⟨t,e⟩:=Value.isStrOf_shape (x:=x) (v:=v) h
  exact .inr ⟨x,t,rfl,e⟩
theorem yy5(i:Int)(t:Tok):xY (.inl i) (.int i t)=true:=by simp [xY,Value.isInt]
theorem yy6(x:Str)(t:Tok):xY (.inr x) (.str x t)=true:=by simp [xY,Value.isStrOf]
theorem wc6(a b:Int):decide ((Sum.inl a:Key)=Sum.inl b)=(a==b):=by
 by_cases e:a=b
 ·subst e;simp
 ·have h:¬(Sum.inl a:Key)=Sum.inl b:=fun q=>e (Wh q)
  rw [Zd h]
  exact(Yb.mpr e).symm
theorem wc7(a b:Str):decide ((Sum.inr a:Key)=Sum.inr b)=decide (a=b):=by
 by_cases e:a=b
 ·subst e;simp
 ·have h:¬(Sum.inr a:Key)=Sum.inr b:=fun q=>e (Sum.inr.inj q)
  rw [Zd h,Zd e]
theorem wc8(a:Int)(b:Str):decide ((Sum.inl a:Key)=Sum.inr b)=false:=Zd (fun q=>nomatch q)
theorem wc9(a:Str)(b:Int):decide ((Sum.inr a:Key)=Sum.inl b)=false:=Zd (fun q=>nomatch q)
def eQ(prog:Program)(w:World):PySem.KeyKind prog w Key where
 is:=xY
 hash:=wq6 w
 inj:=fun v a b ha hb=>by
  rcases fN ha with ⟨i,t,rfl,rfl⟩|⟨x,t,rfl,rfl⟩
  ·rcases fN hb with ⟨j,u,rfl,e⟩|⟨y,u,rfl,e⟩
   ·injection e with e1 _;rw [e1]
   ·exact nomatch e
  ·rcases fN hb with ⟨j,u,rfl,e⟩|⟨y,u,rfl,e⟩
   ·exact nomatch e
   ·injection e with e1 _;rw [e1]
 byValue:=fun k v h=>by
  rcases fN h with ⟨i,t,rfl,rfl⟩|⟨x,t,rfl,rfl⟩<;>rfl
 pyHash:=fun hv h=>by
  rcases fN hv with ⟨i,t,rfl,rfl⟩|⟨x,t,rfl,rfl⟩
  ·exact wpAny_pyHash_int h
  ·exact wpAny_pyHash_str h
 eqBool:=fun hu hv h=>by
  rcases fN hu with ⟨i,t,rfl,rfl⟩|⟨x,t,rfl,rfl⟩
  ·rcases fN hv with ⟨j,u,rfl,rfl⟩|⟨y,u,rfl,rfl⟩
   ·rw [wc6] at h;exact wpAny_eqBool_int h
   ·rw [wc8] at h;exact SeqAt.EqAt.int_str i t y u _ _ _ _ h
  ·rcases fN hv with ⟨j,u,rfl,rfl⟩|⟨y,u,rfl,rfl⟩
   ·rw [wc9] at h;exact SeqAt.EqAt.str_int x t j u _ _ _ _ h
   ·rw [wc7] at h;exact wpAny_eqBool_str h
 «strs»:=fun k x t v h=>by
  rcases fN h with ⟨i,u,rfl,e⟩|⟨y,u,rfl,e⟩
  ·exact nomatch e
  ·injection e with e1 _
   subst e1
   cases v<;>rfl
theorem yk0(prog:Program)(w:World)(i:Int)(t:Tok):(eQ prog w).is (.inl i) (.int i t)=true:=yy5 i t
theorem yk1(prog:Program)(w:World)(x:Str)(t:Tok):(eQ prog w).is (.inr x) (.str x t)=true:=yy6 x t
set_option genInjectivity true in
inductive V where
 |non|bl (b:Bool)|int (i:Int)|str (x:Str)|byt (b:Array UInt8)|flt (b:UInt64)|ref (a:Addr)|ty (n:String)
 deriving DecidableEq
def cG:V->Value->Prop
 | .non,u=>u=Value.none
 | .bl b,u=>u=Value.bool b
 | .int i,u=>∃t,u=Value.int i t
 | .str x,u=>∃t,u=Value.str x t
 | .byt b,u=>∃t,u=Value.bytes b t
 | .flt b,u=>∃t,u=Value.float b t
 | .ref a,u=>u=Value.ref a
 | .ty n,u=>u=Value.type n
abbrev bJ:List V->List Value->Prop:=Paired cG
theorem bJ.length{xs:List V}{us:List Value}(r:bJ xs us):xs.length=us.length:=ZI r
theorem bJ.get:∀{xs:List V} {us:List Value} {i:Nat} {x:V},bJ xs us->xs[i]? =some x->∃u,us[i]? =some u/\cG x u
 |_,_,_,_,.nil,e=>by simp at e
 |_,_,0,_,.cons r _,e=>by simp at e;subst e;exact⟨_,rfl,r⟩
 |_,_,i+1,x,.cons _ t,e=>by
  obtain⟨u,h1,h2⟩:=bJ.get (i:=i) (x:=x) t (by simpa using e)
  exact⟨u,by simpa using h1,h2⟩
theorem bJ.set{x:V}{u:Value}(r:cG x u):∀{xs:List V} {us:List Value} (i:Nat),bJ xs us->bJ (xs.set i x) (us.set i u)
 |_,_,_,.nil=> .nil
 |_,_,0,.cons _ t=> .cons r t
 |_,_,i+1,.cons q t=> .cons q (bJ.set r i t)
theorem bJ.append:∀{xs ys:List V} {us ws:List Value},bJ xs us->bJ ys ws->bJ (xs++ys) (us++ws)
 |_,_,_,_,.nil,s=>s
 |_,_,_,_,.cons r t,s=> .cons r (bJ.append t s)
theorem bJ.take:∀{xs:List V} {us:List Value} (n:Nat),bJ xs us->bJ (xs.take n) (us.take n)
 |_,_,0,_=> .nil
 |_,_,_+1,.nil=> .nil
 |_,_,n+1,.cons r t=> .cons r (bJ.take n t)
theorem bJ.drop:∀{xs:List V} {us:List Value} (n:Nat),bJ xs us->bJ (xs.drop n) (us.drop n)
 |_,_,0,r=>r
 |_,_,_+1,.nil=> .nil
 |_,_,n+1,.cons _ t=>bJ.drop n t
def kL:Option V->Option Value->Prop
 |some v,some u=>cG v u
 |none,none=>True
 |_,_=>False
def KV{U:Type}:List (U×V)->List (U×Value)->Prop:=Paired fun(p:U×V) (q:U×Value)=>p.1=q.1/\cG p.2 q.2
def kV:Key->V
 | .inl i=> .int i
 | .inr x=> .str x
inductive HO where
 |lst (xs:List V)
 |tup (xs:List V)
 |dK (kvs:List (Key×V))|dT (kvs:List (List Key×V))
 |set (S:Int->Bool) (n:Nat)
 |ins (C dx:Addr) (fs:List (Str×V))
 |own (x:Addr)
 |xd (fs:List (Str×V))
 |met (f x:Addr)
 |rng (lo hi:Int)
 |frz (o:Obj) (u:HO)
 |tbl (ps:Array Value)
 |ext (φ:Heap->Prop)
abbrev Hp:=Addr->Option HO
def upd(H:Hp)(a:Addr)(o:HO):Hp:=fun b=>if b=a then some o else H b
theorem cV{H:Hp}{a:Addr}{o:HO}:upd H a o a=some o:=by unfold upd;rw [if_pos rfl]
theorem bI{H:Hp}{a b:Addr}{o:HO}(h:b≠a):upd H a o b=H b:=by unfold upd;rw [if_neg h]
theorem wl5{H:Hp}{a b:Addr}{o u:HO}(h:H a=some o)(h':H b=some u)(d:o≠u):a≠b:=by
 intro e;subst e;rw [h] at h';exact d (Zz h')
theorem mP{H:Hp}{a b:Addr}{o:HO}(h:H a=some o)(h':H b=none):a≠b:=by
 intro e;subst e;rw [h] at h';cases h'
section
variable(P:Program)(w:World)
def dH(H:Hp)(h:Heap)(a:Addr):HO->Prop
 | .lst xs=>xs.length<=sizeLine/\∃(its:List Value) (n:Nat),bJ xs its/\h.get? a=some {cls:= .type "list",data:= .seq its.toArray n}
 | .tup xs=>xs.length<=sizeLine/\∃its:List Value,bJ xs its/\IsTup h a its.toArray
 | .dK kvs=>kvs.length<=sizeLine/\(a==sysModules)=false/\∃vs,KV kvs vs/\h.DictOf (eQ P w) a vs
 | .dT kvs=>kvs.length<=sizeLine/\(a==sysModules)=false/\∃xs:List (List Key×Addr×Value),
   Paired (fun(p:List Key×V) (q:List Key×Addr×Value)=>p.1=q.1/\H q.2.1=some (.tup (p.1.map kV))/\cG p.2 q.2.2) kvs xs/\
   ∃o es ep,h.get? a=some o/\o.ExactDict/\o.data= .dict es ep/\es.toList=xs.map (entryOfKey (tupleKind (eQ P w)))/\(xs.map (·.1)).Nodup
 | .set S n=>h.SetOf (intKind P w) a S n
 | .ins C dx fs=>H dx=some (.own a)/\fs.length<=1000/\dx≠a/\h.get? a=some (PySem.W.instObj C dx)/\
   ∃mA,h.Ns1 dx mA/\(∀f,kL (fs.lookup f) (mA f))/\PySem.Within mA (fs.map (·.1))
 | .own _=>∃o,h.get? a=some o
 | .xd fs=>∃mA,h.Ns1 a mA/\∀f,kL (fs.lookup f) (mA f)
 | .rng lo hi=>∃t u v,h.get? a=some {cls:= .type "range",data:= .fields #[.int lo t,.int hi u,.int 1 v]}
 | .frz o u=>h.get? a=some o/\dH H h a u
 | .tbl ps=>h.get? a=some {cls:= .none,data:= .fields ps}
 | .met f x=>h.get? a=some (PySem.W.methodObj (.ref f) (.ref x))
 | .ext φ=>φ h/\(∃o,h.get? a=some o)/\∀h1 h2:Heap,φ h1->(∀o,h1.get? a=some o->h2.get? a=some o)->φ h2
def HOk(H:Hp)(h:Heap):Prop:=∀a o,H a=some o->dH P w H h a o
end
section
variable{P:Program}{w:World}{H H':Hp}{h h':Heap}{a:Addr}{o:HO}
theorem dH.lt(x:dH P w H h a o):a<h.objs.size:=by
 cases o with
 |lst xs=>obtain⟨_,_,_,_,e⟩:=x;exact Zk e
 |tup xs=>obtain⟨_,_,_,p⟩:=x;exact p.lt
 |dK kvs=>obtain⟨_,_,_,_,o,_,_,e,_⟩:=x;exact Zk e
 |dT kvs=>obtain⟨_,_,_,_,o,_,_,e,_⟩:=x;exact Zk e
 |set S n=>obtain⟨o,_,_,_,e,_⟩:=x;exact Zk e
 |ins C dx fs=>obtain⟨_,_,_,e,_⟩:=x;exact Zk e
 |own y=>obtain⟨_,e⟩:=x;exact Zk e
 |xd fs=>obtain⟨_,⟨_,_,_,e,_⟩,_⟩:=x;exact Zk e
 |rng lo hi=>obtain⟨_,_,_,e⟩:=x;exact Zk e
 |frz ob u=>obtain⟨e,_⟩:=x;exact Zk e
 |tbl ps=>exact Zk (show h.get? a=some _ from x)
 |met f y=>exact Zk (show h.get? a=some _ from x)
 |ext φ=>obtain⟨_,⟨_,e⟩,_⟩:=x;exact Zk e
theorem Paired.mapP{α β:Type}{F G:α->β->Prop}:∀{l₁:List α} {l₂:List β},Paired F l₁ l₂->(∀a b,F a b->G a b)->Paired G l₁ l₂
 |_,_,.nil,_=> .nil
 |_,_,.cons r t,f=> .cons (f _ _ r) (Paired.mapP t f)
theorem dH.stay(x:dH P w H h a o)(k:∀b u,(b=a\/H b=some (.own a))->h.get? b=some u->h'.get? b=some u)
  (ho:∀b,H b=some (.own a)->H' b=some (.own a)) (ht:∀b xs,H b=some (.tup xs)->H' b=some (.tup xs)):dH P w H' h' a o:=by
 induction o with
 |lst xs=>obtain⟨z,its,n,r,e⟩:=x;exact⟨z,its,n,r,k _ _ (.inl rfl) e⟩
 |tup xs=>obtain⟨z,its,r,ob,e,c⟩:=x;exact⟨z,its,r,ob,k _ _ (.inl rfl) e,c⟩
 |dK kvs=>obtain⟨z,y,vs,r,ob,es,ep,e,c⟩:=x;exact⟨z,y,vs,r,ob,es,ep,k _ _ (.inl rfl) e,c⟩
 |dT kvs=>
  obtain⟨z,y,xs,r,ob,es,ep,e,c⟩:=x
  exact⟨z,y,xs,Paired.mapP r fun p q z=>⟨z.1,ht _ _ z.2.1,z.2.2⟩,ob,es,ep,k _ _ (.inl rfl) e,c⟩
 |set S n=>obtain⟨ob,es,ep,t,e,c⟩:=x;exact⟨ob,es,ep,t,k _ _ (.inl rfl) e,c⟩
 |ins C dx fs=>
  obtain⟨d,z,ne,e,mA,⟨od,es,ep,e2,c⟩,r⟩:=x
  exact⟨ho _ d,z,ne,k _ _ (.inl rfl) e,mA,⟨od,es,ep,k _ _ (.inr d) e2,c⟩,r⟩
 |own y=>obtain⟨ob,e⟩:=x;exact⟨ob,k _ _ (.inl rfl) e⟩
 |xd fs=>obtain⟨mA,⟨od,es,ep,e,c⟩,r⟩:=x;exact⟨mA,⟨od,es,ep,k _ _ (.inl rfl) e,c⟩,r⟩
 |rng lo hi=>obtain⟨t,u,v,e⟩:=x;exact⟨t,u,v,k _ _ (.inl rfl) e⟩
 |frz ob u ih=>obtain⟨e,q⟩:=x;exact⟨k _ _ (.inl rfl) e,ih q⟩
 |tbl ps=>
  have e:h.get? a=some {cls:= .none,data:= .fields ps}:=x
  show h'.get? a=some {cls:= .none,data:= .fields ps}
  exact k a _ (.inl rfl) e
 |met f y=>
  have e:h.get? a=some (PySem.W.methodObj (.ref f) (.ref y)):=x
  show h'.get? a=some (PySem.W.methodObj (.ref f) (.ref y))
  exact k a _ (.inl rfl) e
 |ext φ=>obtain⟨p,⟨o,e⟩,st⟩:=x;exact⟨st _ _ p fun o q=>k _ _ (.inl rfl) q,⟨o,k _ _ (.inl rfl) e⟩,st⟩
theorem HOk.lt(x:HOk P w H h)(e:H a=some o):a<h.objs.size:=(x a o e).lt
theorem HOk.fresh(x:HOk P w H h)(e:h.objs.size<=a):H a=none:=by
 cases q:H a with
 |none=>rfl
 |some u=>exact absurd (Zw (x.lt q) e) (Y5 _)
theorem HOk.kept(x:HOk P w H h)(k:∀b u,h.get? b=some u->h'.get? b=some u):HOk P w H h':=fun a o e=>
 (x a o e).stay (fun b u _ q=>k b u q) (fun _ q=>q) fun _ _ q=>q
theorem HOk.laid(x:HOk P w H h)(k:∀b u,h.get? b=some u->h'.get? b=some u)(hp:h.objs.size<=a)(new:dH P w (upd H a o) h' a o):HOk P w (upd H a o) h':=fun b u e=>by
 have hn:=x.fresh hp
 by_cases hb:b=a
 ·subst hb;rw [cV] at e;cases e;exact new
 ·rw [bI hb] at e
  exact(x b u e).stay (fun c v _ q=>k c v q) (fun c q=>by rw [bI (mP q hn)];exact q) fun c xs q=>by rw [bI (mP q hn)];exact q
end
def Rd(H:Hp)(a:Addr)(u:HO):Prop:=H a=some u\/∃o,H a=some (.frz o u)
theorem Rd.ok{P:Program}{w:World}{H:Hp}{h:Heap}{a:Addr}{u:HO}(r:Rd H a u)(x:HOk P w H h):dH P w H h a u:=by
 rcases r with r|⟨o,r⟩
 ·exact x a u r
 ·obtain⟨_,q⟩:=x a _ r
  exact q
def Mut:Option HO->Prop
 |some (.lst _)=>True
 |some (.dK _)=>True
 |some (.dT _)=>True
 |some (.set _ _)=>True
 |some (.ins _ _ _)=>True
 |some (.ext _)=>True
 |_=>False
section
variable{P:Program}{w:World}{H:Hp}{h h':Heap}{x e:Addr}{o':HO}
theorem HOk.write(ok:HOk P w H h)(mu:Mut (H x))(he:e=x\/H e=some (.own x))(k:∀b u,b≠e->h.get? b=some u->h'.get? b=some u)(heo:∃u,h'.get? e=some u)
  (new:dH P w (upd H x o') h' x o'):HOk P w (upd H x o') h':=fun b u q=>by
 have nown:∀c y,H c=some (.own y)->c≠x:=fun c y r z=>by subst z;rw [r] at mu;exact mu
 have ntup:∀c xs,H c=some (.tup xs)->c≠x:=fun c xs r z=>by subst z;rw [r] at mu;exact mu
 by_cases hb:b=x
 ·subst hb;rw [cV] at q;cases q;exact new
 ·rw [bI hb] at q
  by_cases hbe:b=e
  ·have q':H b=some (.own x):=by
    rcases he with z|z
    ·exact absurd (hbe.trans z) hb
    ·rw [hbe];exact z
   rw [q] at q';cases q'
   obtain⟨v,hv⟩:=heo
   exact⟨v,by rw [hbe];exact hv⟩
  ·refine(ok b u q).stay (fun c v hc r=>k c v ?_ r) (fun c r=>by rw [bI (nown c b r)];exact r) fun c xs r=>by rw [bI (ntup c xs r)];exact r
   rcases hc with rfl|hc
   ·exact hbe
   ·rintro rfl
    rcases he with z|z
    ·exact nown c b hc z
    ·rw [hc] at z;cases z;exact hb rfl
end
structure Un(fs ex:List Addr)(H H':Hp)(h h':Heap):Prop where
 keep:∀b o,h.get? b=some o->H b=none->b∉fs->b∉ex->h'.get? b=some o
 slot:∀b o,h.get? b=some o->H b=none->b∈fs->b∉ex->∃sl,h'.get? b=some {o with slots:=sl}
 free:∀b o,h.get? b=some o->H b=none->b∉ex->H' b=none
 there:∀b o,h.get? b=some o->b∉ex->∃o',h'.get? b=some o'
 tups:∀b xs,H b=some (.tup xs)->H' b=some (.tup xs)
 frzs:∀b o u,H b=some (.frz o u)->H' b=some (.frz o u)
 tbls:∀b ps,H b=some (.tbl ps)->∃more,H' b=some (.tbl (ps++more))
section
variable{fs fs' ex ex':List Addr}{H H1 H2:Hp}{h h1 h2 h':Heap}{a x e:Addr}{o:HO}
theorem Un.any(u:Un fs ex H H1 h h1){b:Addr}{ob:Obj}(q:h.get? b=some ob)(n:H b=none)(hx:b∉ex):∃sl,h1.get? b=some {ob with slots:=sl}:=by
 by_cases hb:b∈fs
 ·exact u.slot b ob q n hb hx
 ·exact⟨ob.slots,u.keep b ob q n hb hx⟩
theorem Un.trans(a:Un fs ex H H1 h h1)(b:Un fs ex H1 H2 h1 h2):Un fs ex H H2 h h2 where
 keep:=fun c ob q n hc hx=>b.keep c ob (a.keep c ob q n hc hx) (a.free c ob q n hx) hc hx
 slot:=fun c ob q n hc hx=>by
  obtain⟨sl,e1⟩:=a.slot c ob q n hc hx
  obtain⟨sl',e2⟩:=b.slot c _ e1 (a.free c ob q n hx) hc hx
  exact⟨sl',e2⟩
 free:=fun c ob q n hx=>by
  obtain⟨o',e1⟩:=a.there c ob q hx
  exact b.free c o' e1 (a.free c ob q n hx) hx
 there:=fun c ob q hx=>by
  obtain⟨o',e1⟩:=a.there c ob q hx
  exact b.there c o' e1 hx
 tups:=fun c xs q=>b.tups c xs (a.tups c xs q)
 frzs:=fun c ob xs q=>b.frzs c ob xs (a.frzs c ob xs q)
 tbls:=fun c ps q=>by
  obtain⟨m1,e1⟩:=a.tbls c ps q
  obtain⟨m2,e2⟩:=b.tbls c _ e1
  exact⟨m1++m2,by rw [e2,Wo]⟩
theorem Un.kept(k:∀b u,h.get? b=some u->h'.get? b=some u):Un fs ex H H h h':=
 ⟨fun b ob q _ _ _=>k b ob q,fun b ob q _ _ _=>⟨ob.slots,k b ob q⟩,fun _ _ _ n _=>n,fun b ob q _=>⟨ob,k b ob q⟩,fun _ _ q=>q,fun _ _ _ q=>q,fun _ ps q=>⟨#[],by rw [q];simp⟩⟩
theorem Un.refl:Un fs ex H H h h:=Un.kept fun _ _ q=>q
theorem Un.laid(k:∀b u,h.get? b=some u->h'.get? b=some u)(hp:h.objs.size<=a)(hn:H a=none):Un fs ex H (upd H a o) h h' where
 keep:=fun b u q _ _ _=>k b u q
 slot:=fun b u q _ _ _=>⟨u.slots,k b u q⟩
 free:=fun b u q n _=>by rw [bI (ZE (Zw (Zk q) hp))];exact n
 there:=fun b u q _=>⟨u,k b u q⟩
 tups:=fun b xs q=>by rw [bI (mP q hn)];exact q
 frzs:=fun b u xs q=>by rw [bI (mP q hn)];exact q
 tbls:=fun b ps q=>⟨#[],by rw [bI (mP q hn),q];simp⟩
theorem Un.write(mu:Mut (H x))(he:e=x\/H e=some (.own x))(k:∀b u,b≠e->h.get? b=some u->h'.get? b=some u)(heo:∃u,h'.get? e=some u):Un fs ex H (upd H x o) h h':=by
 have hx:∀b,H b=none->b≠x:=fun b n z=>by subst z;rw [n] at mu;exact mu
 have hb:∀b,H b=none->b≠e:=fun b n z=>by
  subst z
  rcases he with r|r
  ·exact hx b n r
  ·rw [n] at r;cases r
 have hm:∀b u,H b=some u->¬Mut (some u)->b≠x:=fun b u q nm z=>by subst z;rw [q] at mu;exact nm mu
 refine⟨fun b u q n _ _=>k b u (hb b n) q,fun b u q n _ _=>⟨u.slots,k b u (hb b n) q⟩,fun b u q n _=>by rw [bI (hx b n)];exact n,fun b u q _=> ?_,
  fun b xs q=>by rw [bI (hm b _ q fun z=>z)];exact q,fun b u xs q=>by rw [bI (hm b _ q fun z=>z)];exact q,fun b ps q=>⟨#[],by rw [bI (hm b _ q fun z=>z),q];simp⟩⟩
 by_cases hbe:b=e
 ·subst hbe;exact heo
 ·exact⟨u,k b u hbe q⟩
theorem Un.mono(u:Un fs ex H H1 h h1)(hs:∀b∈fs,b∈fs')(hx:∀b∈ex,b∈ex'):Un fs' ex' H H1 h h1:=
 ⟨fun b ob q n hb he=>u.keep b ob q n (fun z=>hb (hs b z)) fun z=>he (hx b z),fun _ _ q n _ he=>u.any q n fun z=>he (hx _ z),fun b ob q n he=>u.free b ob q n fun z=>he (hx b z),fun b ob q he=>u.there b ob q fun z=>he (hx b z),u.tups,u.frzs,u.tbls⟩
end
def trk(h:Heap)(H:Hp):List Addr:=(List.range h.objs.size).filter fun a=>(H a).isSome
def xZ(h:Heap)(H:Hp):Heap:=PySem.W.hideAll h (trk h H)
theorem yy7(h:Heap)(H:Hp):(xZ h H).objs.size=h.objs.size:=PySem.W.hideAll_size _ _
theorem xk6{h:Heap}{H:Hp}{b:Addr}{o:Obj}(e:h.get? b=some o)(n:H b=none):(xZ h H).get? b=some o:=
 Yc _ e fun hm=>by
  have q:(H b).isSome=true:=(List.mem_filter.mp hm).2
  rw [n] at q;simp at q
theorem xv2{h:Heap}{H:Hp}{b:Addr}{o:Obj}(e:(xZ h H).get? b=some o):h.get? b=some o/\H b=none:=by
 have e':h.get? b=some o:=Xl (trk h H) e
 refine⟨e',?_⟩
 cases q:H b with
 |none=>rfl
 |some x=>
  have hm:b∈trk h H:=List.mem_filter.mpr ⟨X7.mpr (Zk e'),by simp [q]⟩
  have z:(xZ h H).get? b=none:=YI (trk h H) hm
  rw [z] at e;cases e
structure Mod(K:tz0)(mg:tzA)(base:Heap):Prop where
 kin:K.In base
 glob:base.Ns mainGlobals mg
 blt:∃mb,base.Ns builtinsNs mb/\∀x:Str,x≠"__name__"->mb x=bootBuiltins x
 nolimit:base.NoLimit
structure Cx where
 prog:Program
 w:World
 K:tz0
 mg:tzA
 base:Heap
 A:Around
 N:List Str
 s₀:Shared
 H₀:Hp
 env:Env
 outer:List Env
 stack:List Env
 ex:List Addr
 fn:Str->Bool
 calm:Bool
 pn:tzB
 xe:Value->Shared->Prop
def frs(l:List Env):List Addr:=l.filterMap (·.frame)
abbrev Cx.fs(X:Cx):List Addr:=frs X.outer
def Vis(sc:Scope)(x:Str):Prop:=sc.names.lookup x=some .local\/sc.names.lookup x=some .cell\/sc.names.lookup x=some .free
def Loc(sc:Scope)(x:Str):Prop:=sc.names.lookup x=some .local\/sc.names.lookup x=some .cell
def wi8(env:Env)(h:Heap)(m:tzA)(x:Str)(u:Value):Prop:=
 (env.kindOf x=some .local/\m x=some u)\/((env.kindOf x=some .cell\/env.kindOf x=some .free)/\∃c,env.cells.lookup x=some c/\h.IsCell c (some u))
structure Cx.Ok(X:Cx):Prop where
 mod:Mod X.K X.mg X.base
 kind:X.env.scope.kind= .function
 glob:X.env.globals=mainGlobals
 blt:X.env.builtins=builtinsNs
 above:X.s₀.heap.objs.size<=X.env.locals
 inj:∀x y c,X.env.cells.lookup x=some c->X.env.cells.lookup y=some c->x=y
 has:∀x,(X.env.kindOf x=some .cell\/X.env.kindOf x=some .free)->∃c,X.env.cells.lookup x=some c
 cab:∀x c,X.fn x=true->X.env.cells.lookup x=some c->X.s₀.heap.objs.size<=c
 hd:X.calm=true->X.A.handled=none
 frames:X.A.frames=some X.stack
 stk:X.stack=X.outer\/(X.stack=X.env::X.outer/\X.env.frame=some X.env.locals)
 exf:∀b∈X.ex,b≠X.env.locals/\∀x c,X.env.cells.lookup x=some c->c≠b
 bs:∀b o,X.base.get? b=some o->X.s₀.heap.get? b=some o/\X.H₀ b=none
 bsz:X.base.objs.size<=X.s₀.heap.objs.size
 noex:∀b o,X.base.get? b=some o->b∉X.ex
 exfs:∀b∈X.ex,b∉X.fs
 funs:X.s₀.heap.FunFrames X.base X.outer
 frf:∀b∈X.fs,X.H₀ b=none
structure Inv(X:Cx)(pins:tzB)(σ:List (Option V))(H:Hp)(s:Shared):Prop where
 ok:X.Ok
 os:s.os=X.s₀.os
 bare:AllBare s.gens
 base:Un X.fs X.ex X.H₀ H X.s₀.heap s.heap
 loc:∃m,s.heap.Ns X.env.locals m/\∀(i:Nat) (x:Str) (v:V),X.N[i]? =some x->σ[i]? =some (some v)->Vis X.env.scope x->∃u,cG v u/\wi8 X.env s.heap m x u
 cell:∀x c,X.env.cells.lookup x=some c->∃v,s.heap.IsCell c v
 free:H X.env.locals=none
 freeC:∀x c,X.env.cells.lookup x=some c->H c=none
 pin:∀p∈X.pn++pins,s.heap.get? p.1=some p.2/\H p.1=none/\p.1≠X.env.locals/\p.1∉X.fs/\∀v,p.2.data≠ .cell v
 hok:HOk X.prog X.w H s.heap
 len:σ.length=X.N.length
section
variable{X:Cx}{pins:tzB}{σ:List (Option V)}{H H':Hp}{s:Shared}{h':Heap}
theorem Cx.Ok.nofr(ok:X.Ok){b:Addr}{o:Obj}(e:X.base.get? b=some o):b∉X.fs:=fun hb=>by
 have:=(ok.funs.mem hb).1
 rw [e] at this;cases this
theorem Inv.bs(I:Inv X pins σ H s):∀b o,X.base.get? b=some o->s.heap.get? b=some o/\H b=none:=fun b o e=>
 ⟨I.base.keep b o (I.ok.bs b o e).1 (I.ok.bs b o e).2 (I.ok.nofr e) (I.ok.noex b o e),I.base.free b o (I.ok.bs b o e).1 (I.ok.bs b o e).2 (I.ok.noex b o e)⟩
theorem Inv.bk(I:Inv X pins σ H s):∀b o,X.base.get? b=some o->s.heap.get? b=some o:=fun b o e=>(I.bs b o e).1
theorem Inv.mod(I:Inv X pins σ H s):Mod X.K X.mg X.base:=I.ok.mod
theorem Inv.kIn(I:Inv X pins σ H s):X.K.In s.heap:=I.ok.mod.kin.keeps I.bk
theorem Inv.lt(I:Inv X pins σ H s):X.env.locals<s.heap.objs.size:=let ⟨_,hn,_⟩:=I.loc;hn.lt
theorem Inv.sz(I:Inv X pins σ H s):X.s₀.heap.objs.size<=s.heap.objs.size:=Zt I.ok.above (YK I.lt)
theorem Inv.nofs(I:Inv X pins σ H s){a:Addr}(h:s.heap.objs.size<=a):a∉X.fs:=fun hb=>by
 obtain⟨_,o,ho,_⟩:=I.ok.funs.mem hb
 exact absurd (Zw (Zk ho) (Zt I.sz h)) (Y5 _)
theorem Inv.cne(I:Inv X pins σ H s):∀x c,X.env.cells.lookup x=some c->c≠X.env.locals:=fun x c e z=>by
 obtain⟨v,o,ho,hd⟩:=I.cell x c e
 obtain⟨m,⟨o',es,ep,ho',hd',_⟩,_⟩:=I.loc
 rw [z,ho'] at ho;cases ho;rw [hd'] at hd;cases hd
theorem Inv.funs(I:Inv X pins σ H s):s.heap.FunFrames X.base X.outer:=by
 have all:∀(l:List Env),(∀b∈frs l,b∈X.fs)->X.s₀.heap.FunFrames X.base l->s.heap.FunFrames X.base l:=by
  intro l
  induction l with
  |nil=>intro _ _;trivial
  |cons env r ih=>
   intro hs hl
   obtain⟨hk,⟨L,o,hf,hn,ho,hd⟩,hr⟩:=hl
   have hL:L∈X.fs:=hs L (by unfold frs;rw [Xb,hf];exact Z0)
   obtain⟨sl,e⟩:=I.base.slot L o ho (I.ok.frf L hL) hL fun z=>I.ok.exfs L z hL
   exact⟨hk,⟨L,_,hf,hn,e,hd⟩,ih (fun b hb=>hs b (by unfold frs;rw [Xb,hf];exact Z1 _ hb)) hr⟩
 exact all X.outer (fun _ hb=>hb) I.ok.funs
theorem Inv.stack(I:Inv X pins σ H s):s.heap.FunFrames X.base X.stack:=by
 rcases I.ok.stk with e|⟨e,hf⟩
 ·rw [e];exact I.funs
 ·rw [e]
  obtain⟨m,hn,_⟩:=I.loc
  refine .cons (by rw [I.ok.kind];decide) hf hn ?_ I.funs
  exact Heap.get?_none_of_le (Zt I.ok.bsz I.ok.above)
theorem Inv.stkSub(I:Inv X pins σ H s):∀b∈frs X.stack,b∈X.env.locals::X.fs:=fun b hb=>by
 rcases I.ok.stk with e|⟨e,hf⟩
 ·rw [e] at hb;exact Z1 _ hb
 ·rw [e] at hb
  unfold frs at hb
  rw [Xb,hf] at hb
  exact hb
theorem Inv.stkFree(I:Inv X pins σ H s):∀b∈frs X.stack,H b=none:=fun b hb=>by
 rcases Z4.mp (I.stkSub b hb) with e|hb
 ·rw [e];exact I.free
 ·obtain⟨_,o,ho,_⟩:=I.ok.funs.mem hb
  exact I.base.free b o ho (I.ok.frf b hb) fun z=>I.ok.exfs b z hb
theorem Inv.step{g':Array GenState}{t':Nat}{d':Drawn}{ch:List Addr}(I:Inv X pins σ H s)
  (hch:∀b∈ch,(b∈X.ex\/X.s₀.heap.objs.size<=b)/\b≠X.env.locals/\(∀x c,X.env.cells.lookup x=some c->c≠b)/\∀p∈X.pn++pins,p.1≠b)
  (keep:∀b o,b≠X.env.locals->b∉X.fs->b∉ch->s.heap.get? b=some o->H b=none->h'.get? b=some o)
  (slot:∀b o,b≠X.env.locals->b∈X.fs->b∉ch->s.heap.get? b=some o->H b=none->∃sl,h'.get? b=some {o with slots:=sl}) (free:∀b o,b∉ch->s.heap.get? b=some o->H b=none->H' b=none)
  (there:∀b o,b∉ch->s.heap.get? b=some o->∃o',h'.get? b=some o')
  (tups:∀b xs,H b=some (.tup xs)->H' b=some (.tup xs)) (frzs:∀b o u,H b=some (.frz o u)->H' b=some (.frz o u)) (tbls:∀b ps,H b=some (.tbl ps)->∃more,H' b=some (.tbl (ps++more)))
  (ns:∀m,s.heap.Ns X.env.locals m->h'.Ns X.env.locals m) (hok:HOk X.prog X.w H' h') (hg:AllBare g'):
  Inv X pins σ H' {s with heap:=h',gens:=g',drawn:=d',toks:=t'}:=by
 have neL:∀b o,X.s₀.heap.get? b=some o->b≠X.env.locals:=fun b o e=>ZE (Zw (Zk e) I.ok.above)
 have neC:∀b o,X.s₀.heap.get? b=some o->b∉X.ex->b∉ch:=fun b o e hx hb=>by
  rcases(hch b hb).1 with z|z
  ·exact hx z
  ·exact absurd (Zw (Zk e) z) (Y5 _)
 have cellK:∀x c,X.env.cells.lookup x=some c->∀v,s.heap.IsCell c v->h'.IsCell c v:=fun x c e v ⟨o,ho,hd⟩=>by
  have nch:c∉ch:=fun z=>(hch c z).2.2.1 x c e rfl
  by_cases hc:c∈X.fs
  ·obtain⟨sl,q⟩:=slot c o (I.cne x c e) hc nch ho (I.freeC x c e)
   exact⟨_,q,hd⟩
  ·exact⟨o,keep c o (I.cne x c e) hc nch ho (I.freeC x c e),hd⟩
 refine⟨I.ok,I.os,hg,⟨fun b o e n hb hx=> ?_,fun b o e n hb hx=> ?_,fun b o e n hx=> ?_,fun b o e hx=> ?_,fun b xs e=>tups b xs (I.base.tups b xs e),fun b o xs e=>frzs b o xs (I.base.frzs b o xs e),fun b ps e=> ?_⟩,?_,fun x c e=> ?_,?_,fun x c e=> ?_,fun p hp=> ?_,hok,I.len⟩
 ·exact keep b o (neL b o e) hb (neC b o e hx) (I.base.keep b o e n hb hx) (I.base.free b o e n hx)
 ·obtain⟨sl,e1⟩:=I.base.slot b o e n hb hx
  obtain⟨sl',e2⟩:=slot b _ (neL b o e) hb (neC b o e hx) e1 (I.base.free b o e n hx)
  exact⟨sl',e2⟩
 ·obtain⟨o',e1⟩:=I.base.there b o e hx
  exact free b o' (neC b o e hx) e1 (I.base.free b o e n hx)
 ·obtain⟨o',e1⟩:=I.base.there b o e hx
  exact there b o' (neC b o e hx) e1
 ·obtain⟨m1,e1⟩:=I.base.tbls b ps e
  obtain⟨m2,e2⟩:=tbls b _ e1
  exact⟨m1++m2,by rw [e2,Wo]⟩
 ·obtain⟨m,hn,hl⟩:=I.loc
  refine⟨m,ns m hn,fun i x v e1 e2 e3=> ?_⟩
  obtain⟨u,r,l⟩:=hl i x v e1 e2 e3
  refine⟨u,r,?_⟩
  rcases l with l|⟨k,c,e,z⟩
  ·exact .inl l
  ·exact .inr ⟨k,c,e,cellK x c e _ z⟩
 ·obtain⟨v,z⟩:=I.cell x c e
  exact⟨v,cellK x c e v z⟩
 ·obtain⟨m,⟨o,_,_,ho,_⟩,_⟩:=I.loc
  exact free _ o (fun z=>(hch _ z).2.1 rfl) ho I.free
 ·obtain⟨v,o,ho,hd⟩:=I.cell x c e
  exact free c o (fun z=>(hch c z).2.2.1 x c e rfl) ho (I.freeC x c e)
 ·obtain⟨e,n,ne,nf,d⟩:=I.pin p hp
  have nch:p.1∉ch:=fun z=>(hch p.1 z).2.2.2 p hp rfl
  exact⟨keep p.1 p.2 ne nf nch e n,free p.1 p.2 nch e n,ne,nf,d⟩
theorem Inv.un{t':Nat}(I:Inv X pins σ H s)(u:Un X.fs [] H H' s.heap h')(hok:HOk X.prog X.w H' h'):Inv X pins σ H' {s with heap:=h',toks:=t'}:=by
 obtain⟨m,⟨o,es,ep,ho,r⟩,_⟩:=id I.loc
 obtain⟨sl,hL⟩:=u.any ho I.free (by simp)
 exact I.step (g':=s.gens) (d':=s.drawn) (ch:=[]) (fun _ z=>nomatch z) (fun b o _ hb _ e n=>u.keep b o e n hb (by simp)) (fun b o _ hb _ e n=>u.slot b o e n hb (by simp)) (fun b o _ e n=>u.free b o e n (by simp)) (fun b o _ e=>u.there b o e (by simp)) u.tups u.frzs u.tbls (fun m' hm=>by
  obtain⟨o',es',ep',ho',r'⟩:=hm
  rw [ho] at ho';cases ho'
  exact⟨_,es',ep',hL,r'⟩) hok I.bare
theorem Inv.call{g':Array GenState}{t':Nat}{d':Drawn}{ch:List Addr}(I:Inv X pins σ H s)(u:Un (frs X.stack) ch H H' s.heap h')(hok:HOk X.prog X.w H' h')(hg:AllBare g')
  (hch:∀b∈ch,(b∈X.ex\/X.s₀.heap.objs.size<=b)/\b≠X.env.locals/\(∀x c,X.env.cells.lookup x=some c->c≠b)/\∀p∈X.pn++pins,p.1≠b):
  Inv X pins σ H' {s with heap:=h',gens:=g',drawn:=d',toks:=t'}:=by
 obtain⟨m,⟨o,es,ep,ho,r⟩,_⟩:=id I.loc
 obtain⟨sl,hL⟩:=u.any ho I.free fun z=>(hch _ z).2.1 rfl
 exact I.step (ch:=ch) hch (fun b o hL hb hc e n=>u.keep b o e n (fun z=>(Z4.mp (I.stkSub b z)).elim hL hb) hc) (fun b o _ _ hc e n=>u.any e n hc) (fun b o hc e n=>u.free b o e n hc) (fun b o hc e=>u.there b o e hc) u.tups u.frzs u.tbls (fun m' hm=>by
  obtain⟨o',es',ep',ho',r'⟩:=hm
  rw [ho] at ho';cases ho'
  exact⟨_,es',ep',hL,r'⟩) hok hg
theorem Inv.turned{t':Nat}{it:Addr}(I:Inv X pins σ H s)(k:∀b o,b≠it->s.heap.get? b=some o->h'.get? b=some o)(hn:H it=none)(hL:it≠X.env.locals)
  (h1:it∈X.ex\/X.s₀.heap.objs.size<=it) (h2:∀x c,X.env.cells.lookup x=some c->c≠it) (h3:∀p∈X.pn++pins,p.1≠it):Inv X pins σ H {s with heap:=h',toks:=t'}:=by
 have nit:∀b u,H b=some u->b≠it:=fun b u e z=>by rw [z,hn] at e;cases e
 refine I.step (g':=s.gens) (d':=s.drawn) (ch:=[it]) (fun b hb=> ?_) (fun b o _ _ hc e _=>k b o (fun z=>hc (by simp [z])) e) (fun b o _ _ hc e _=>⟨o.slots,k b o (fun z=>hc (by simp [z])) e⟩) (fun _ _ _ _ n=>n)
  (fun b o hc e=>⟨o,k b o (fun z=>hc (by simp [z])) e⟩) (fun _ _ e=>e) (fun _ _ _ e=>e) (fun b ps e=>⟨#[],by rw [e];simp⟩) (fun m hm=> ?_) (fun b u e=> ?_) I.bare
 ·have e:b=it:=by simpa using hb
  subst e
  exact⟨h1,hL,h2,h3⟩
 ·obtain⟨o,es,ep,ho,r⟩:=hm
  exact⟨o,es,ep,k _ o (Y8 hL) ho,r⟩
 ·refine(I.hok b u e).stay (fun c v hc q=>k c v ?_ q) (fun _ q=>q) fun _ _ q=>q
  rcases hc with z|z
  ·rw [z];exact nit b u e
  ·exact nit c _ z
theorem Inv.tok(I:Inv X pins σ H s)(t:Nat):Inv X pins σ H {s with toks:=t}:=I.un (h':=s.heap) (t':=t) Un.refl I.hok
theorem Inv.kept{t':Nat}(I:Inv X pins σ H s)(k:∀b u,s.heap.get? b=some u->h'.get? b=some u):Inv X pins σ H {s with heap:=h',toks:=t'}:=I.un (Un.kept k) (I.hok.kept k)
theorem Inv.laid{a:Addr}{o:HO}{t':Nat}(I:Inv X pins σ H s)(k:∀b u,s.heap.get? b=some u->h'.get? b=some u)(hp:s.heap.objs.size<=a)(new:dH X.prog X.w (upd H a o) h' a o):
  Inv X pins σ (upd H a o) {s with heap:=h',toks:=t'}:=I.un (Un.laid k hp (I.hok.fresh hp)) (I.hok.laid k hp new)
theorem Inv.write{x e:Addr}{o:HO}{t':Nat}(I:Inv X pins σ H s)(mu:Mut (H x))(he:e=x\/H e=some (.own x))(k:∀b u,b≠e->s.heap.get? b=some u->h'.get? b=some u)(heo:∃u,h'.get? e=some u)
  (new:dH X.prog X.w (upd H x o) h' x o):Inv X pins σ (upd H x o) {s with heap:=h',toks:=t'}:=I.un (Un.write mu he k heo) (I.hok.write mu he k heo new)
theorem Inv.pins_of{pins':tzB}(I:Inv X pins σ H s)(h:∀p∈pins',s.heap.get? p.1=some p.2/\H p.1=none/\p.1≠X.env.locals/\p.1∉X.fs/\∀v,p.2.data≠ .cell v):Inv X pins' σ H s:=
 ⟨I.ok,I.os,I.bare,I.base,I.loc,I.cell,I.free,I.freeC,fun p hp=>(Zn.mp hp).elim (fun z=>I.pin p (Zi _ z)) (h p),I.hok,I.len⟩
theorem ya6{N:List Str}(hN:N.Nodup){i j:Nat}{x:Str}(a:N[i]? =some x)(b:N[j]? =some x):i=j:=by
 obtain⟨h1,e1⟩:=Z5.mp a
 obtain⟨h2,e2⟩:=Z5.mp b
 exact(List.getElem_inj hN).mp (e1.trans e2.symm)
theorem yy8{M:Model}{A:Around}{E:Value->Shared->Prop}{i:Nat}{x:Str}{v:V}{u:Value}{Q:Unit->Shared->Prop}(I:Inv X pins σ H s)(hN:X.N.Nodup)(hi:X.N[i]? =some x)(hx:Loc X.env.scope x)(r:cG v u)
  (h:∀s',Inv X pins (σ.set i (some v)) H s'->(∃a,Heap.SameBut a s.heap s'.heap/\(a=X.env.locals\/X.env.cells.lookup x=some a))->Q () s') (hf:X.fn x=true\/X.env.scope.names.lookup x=some .local:=by first|exact .inl rfl|exact .inr rfl|assumption):wpAny M A (storeName X.env x u) Q E s:=by
 obtain⟨m,hn,hl⟩:=id I.loc
 have hcls:(X.env.scope.kind== .class||(X.env.scope.kind== .module&&X.env.locals !=X.env.globals))=false:=by rw [I.ok.kind];rfl
 have hiσ:i<σ.length:=by rw [I.len];exact(Z5.mp hi).1
 have cne:=I.cne
 have tracked:∀{a:Addr} {h':Heap},(∃o,s.heap.get? a=some o/\H a=none)->Heap.SameBut a s.heap h'->HOk X.prog X.w H h':=fun {a h'} ha hs b ob e=>by
  obtain⟨_,_,hfree⟩:=ha
  refine(I.hok b ob e).stay (fun c w' hc q=>(hs.2 c ?_).trans q) (fun _ q=>q) fun _ _ q=>q
  rintro rfl
  rcases hc with rfl|hc
  ·rw [hfree] at e;cases e
  ·rw [hfree] at hc;cases hc
 rcases hx with hk|hk
 ·refine wpAny_storeName_local hk hn (fun h' hn' hs=> ?_) hcls
  obtain⟨oL,_,_,hoL,_⟩:=id hn
  refine h _ ⟨I.ok,I.os,I.bare,⟨fun b o e n hb hx=> ?_,fun b o e n hb hx=> ?_,I.base.free,fun b o e hx=> ?_,I.base.tups,I.base.frzs,I.base.tbls⟩,⟨_,hn',fun j y v' e1 e2 e3=> ?_⟩,fun y c e=> ?_,I.free,I.freeC,fun p hp=> ?_,tracked ⟨oL,hoL,I.free⟩ hs,by simpa using I.len⟩ ⟨_,hs,.inl rfl⟩
  ·exact(hs.2 b (ZE (Zw (Zk e) I.ok.above))).trans (I.base.keep b o e n hb hx)
  ·obtain⟨sl,e1⟩:=I.base.slot b o e n hb hx
   exact⟨sl,(hs.2 b (ZE (Zw (Zk e) I.ok.above))).trans e1⟩
  ·obtain⟨o',e1⟩:=I.base.there b o e hx
   exact⟨o',(hs.2 b (ZE (Zw (Zk e) I.ok.above))).trans e1⟩
  ·by_cases hj:j=i
   ·subst hj
    rw [hi] at e1;cases e1
    rw [ZA hiσ] at e2
    cases e2
    exact⟨u,r,.inl ⟨hk,by simp⟩⟩
   ·rw [Zu (Y8 hj)] at e2
    obtain⟨u',r',q⟩:=hl j y v' e1 e2 e3
    refine⟨u',r',?_⟩
    rcases q with ⟨k,e⟩|⟨k,c,e,z⟩
    ·refine .inl ⟨k,?_⟩
     have:y≠x:=fun e=>hj (ya6 hN e1 (e▸hi))
     simp [this,e]
    ·exact .inr ⟨k,c,e,z.sameBut hs (cne y c e)⟩
  ·obtain⟨w',z⟩:=I.cell y c e
   exact⟨w',z.sameBut hs (cne y c e)⟩
  ·obtain⟨e,n,ne,nf,d⟩:=I.pin p hp
   exact⟨(hs.2 p.1 ne).trans e,n,ne,nf,d⟩
 ·have hfn:X.fn x=true:=by
   rcases hf with z|z
   ·exact z
   ·rw [z] at hk;cases hk
  obtain⟨c,hc⟩:=I.ok.has x (.inl hk)
  obtain⟨w',z⟩:=I.cell x c hc
  refine wpAny_storeName_cell I.ok.kind hk hc z (fun h' hc' hs=> ?_)
  obtain⟨oc,hoc,hocd⟩:=id z
  refine h {s with heap:=h'} ⟨I.ok,I.os,I.bare,⟨fun b o e n hb hx=> ?_,fun b o e n hb hx=> ?_,I.base.free,fun b o e hx=> ?_,I.base.tups,I.base.frzs,I.base.tbls⟩,⟨m,hn.sameBut hs (Y8 (cne x c hc)),fun j y v' e1 e2 e3=> ?_⟩,fun y c' e=> ?_,I.free,I.freeC,fun p hp=> ?_,tracked ⟨oc,hoc,I.freeC x c hc⟩ hs,by simpa using I.len⟩ ⟨c,hs,.inr hc⟩
  ·exact(hs.2 b (ZE (Zw (Zk e) (I.ok.cab x c hfn hc)))).trans (I.base.keep b o e n hb hx)
  ·obtain⟨sl,e1⟩:=I.base.slot b o e n hb hx
   exact⟨sl,(hs.2 b (ZE (Zw (Zk e) (I.ok.cab x c hfn hc)))).trans e1⟩
  ·obtain⟨o',e1⟩:=I.base.there b o e hx
   exact⟨o',(hs.2 b (ZE (Zw (Zk e) (I.ok.cab x c hfn hc)))).trans e1⟩
  ·by_cases hj:j=i
   ·subst hj
    rw [hi] at e1;cases e1
    rw [ZA hiσ] at e2
    cases e2
    exact⟨u,r,.inr ⟨.inl hk,c,hc,hc'⟩⟩
   ·rw [Zu (Y8 hj)] at e2
    obtain⟨u',r',q⟩:=hl j y v' e1 e2 e3
    refine⟨u',r',?_⟩
    rcases q with q|⟨k,c',e,z'⟩
    ·exact .inl q
    ·refine .inr ⟨k,c',e,z'.sameBut hs ?_⟩
     rintro rfl
     exact hj (ya6 hN e1 (I.ok.inj _ _ _ e hc▸hi))
  ·by_cases hcc:c'=c
   ·subst hcc;exact⟨_,hc'⟩
   ·obtain⟨w2,z2⟩:=I.cell y c' e
    exact⟨w2,z2.sameBut hs hcc⟩
  ·obtain⟨e,n,ne,nf,d⟩:=I.pin p hp
   refine⟨(hs.2 p.1 ?_).trans e,n,ne,nf,d⟩
   intro q
   rw [q,hoc] at e
   have q':oc=p.2:=Zz e
   exact d w' (by rw [<-q'];exact hocd)
theorem zg5{M:Model}{A:Around}{E:Value->Shared->Prop}{i:Nat}{x:Str}{v:V}{u:Value}{Q:Unit->Shared->Prop}(I:Inv X pins σ H s)(hN:X.N.Nodup)(hi:X.N[i]? =some x)(hx:Loc X.env.scope x)(r:cG v u)
  (h:∀s',Inv X pins (σ.set i (some v)) H s'->Q () s') (hf:X.fn x=true\/X.env.scope.names.lookup x=some .local:=by first|exact .inl rfl|exact .inr rfl|assumption):wpAny M A (storeName X.env x u) Q E s:=
 yy8 I hN hi hx r (fun s' I' _=>h s' I') hf
theorem Inv.call'{s':Shared}{ch:List Addr}(I:Inv X pins σ H s)(ho:s'.os=s.os)(u:Un (frs X.stack) ch H H' s.heap s'.heap)(hok:HOk X.prog X.w H' s'.heap)(hg:AllBare s'.gens)
  (hch:∀b∈ch,(b∈X.ex\/X.s₀.heap.objs.size<=b)/\b≠X.env.locals/\(∀x c,X.env.cells.lookup x=some c->c≠b)/\∀p∈X.pn++pins,p.1≠b):Inv X pins σ H' s':=by
 obtain⟨h',g',d',t',o'⟩:=s'
 have e:o'=s.os:=ho
 subst e
 exact I.call (g':=g') (t':=t') (d':=d') u hok hg hch
end
abbrev XK:=Value->Option Addr->Hp->Prop
abbrev St:=List (Option V)
abbrev VK:=V->Hp->Prop
abbrev TE:=St->Hp->VK->Prop
abbrev TT:=St->Hp->(Bool->Hp->Prop)->Prop
abbrev TA:=St->Hp->(List V->Hp->Prop)->Prop
structure Ends where
 nx:St->Hp->Prop
 rt:VK
 bk:St->Hp->Prop:=fun _ _=>False
 ct:St->Hp->Prop:=fun _ _=>False
abbrev TS:=Ends->St->Hp->Prop
def EP(X:Cx)(pins:tzB)(σ:St)(Q:VK)(u:Value)(s':Shared):Prop:=∃v H',Inv X pins σ H' s'/\cG v u/\Q v H'
def TP(X:Cx)(pins:tzB)(σ:St)(Q:Bool->Hp->Prop)(b:Bool)(s':Shared):Prop:=∃H',Inv X pins σ H' s'/\Q b H'
def AP(X:Cx)(pins:tzB)(σ:St)(Q:List V->Hp->Prop)(us:List Value)(s':Shared):Prop:=∃vs H',Inv X pins σ H' s'/\bJ vs us/\Q vs H'
def SP(X:Cx)(pins:tzB)(D:Ends)(f:Flow)(s':Shared):Prop:=
 match f with
 | .next=>∃σ' H',Inv X pins σ' H' s'/\D.nx σ' H'
 | .brk=>∃σ' H',Inv X pins σ' H' s'/\D.bk σ' H'
 | .cont=>∃σ' H',Inv X pins σ' H' s'/\D.ct σ' H'
 | .ret u=>∃v σ' H',Inv X pins σ' H' s'/\cG v u/\D.rt v H'
def PEd(X:Cx)(e:Expr)(t:TE):Prop:=
 ∀(pins:tzB) (s:Shared) (σ:St) (H:Hp) (Q:VK),Inv X pins σ H s->t σ H Q->wpAny (model X.prog X.w) X.A (eval e X.env) (EP X pins σ Q) X.xe s
structure PE(X:Cx)(e:Expr)(t:TE):Prop where
 go:PEd X e t
instance {X:Cx} {e:Expr} {t:TE}:CoeFun (PE X e t) fun _=>PEd X e t:=⟨PE.go⟩
def PTd(X:Cx)(e:Expr)(t:TT):Prop:=
 ∀(pins:tzB) (s:Shared) (σ:St) (H:Hp) (Q:Bool->Hp->Prop),Inv X pins σ H s->t σ H Q->wpAny (model X.prog X.w) X.A (isTrue e X.env (eval e X.env)) (TP X pins σ Q) X.xe s
structure PT(X:Cx)(e:Expr)(t:TT):Prop where
 go:PTd X e t
instance {X:Cx} {e:Expr} {t:TT}:CoeFun (PT X e t) fun _=>PTd X e t:=⟨PT.go⟩
def PWd(X:Cx)(e:Expr)(t:TT):Prop:=
 ∀(whole:Sem Value) (pins:tzB) (s:Shared) (σ:St) (H:Hp) (Q:Bool->Hp->Prop),Inv X pins σ H s->t σ H Q->wpAny (model X.prog X.w) X.A (isTrue e X.env whole) (TP X pins σ Q) X.xe s
structure PW(X:Cx)(e:Expr)(t:TT):Prop where
 go:PWd X e t
instance {X:Cx} {e:Expr} {t:TT}:CoeFun (PW X e t) fun _=>PWd X e t:=⟨PW.go⟩
theorem PW.pt{X:Cx}{e:Expr}{t:TT}(h:PW X e t):PT X e t:=⟨h _⟩
def PAd(X:Cx)(es:List Expr)(t:TA):Prop:=
 ∀(pos:Pos) (pins:tzB) (s:Shared) (σ:St) (H:Hp) (Q:List V->Hp->Prop),Inv X pins σ H s->t σ H Q->wpAny (model X.prog X.w) X.A (spliced (backTo pos (starEach es X.env))) (AP X pins σ Q) X.xe s
structure PA(X:Cx)(es:List Expr)(t:TA):Prop where
 go:PAd X es t
instance {X:Cx} {es:List Expr} {t:TA}:CoeFun (PA X es t) fun _=>PAd X es t:=⟨PA.go⟩
def PSd(X:Cx)(st:Stmt)(t:TS):Prop:=
 ∀(pins:tzB) (s:Shared) (σ:St) (H:Hp) (D:Ends),Inv X pins σ H s->t D σ H->wpAny (model X.prog X.w) X.A (exec st X.env) (SP X pins D) X.xe s
structure PS(X:Cx)(st:Stmt)(t:TS):Prop where
 go:PSd X st t
instance {X:Cx} {st:Stmt} {t:TS}:CoeFun (PS X st t) fun _=>PSd X st t:=⟨PS.go⟩
def wi9(X:Cx)(st:List Stmt)(t:TS):Prop:=
 ∀(pins:tzB) (s:Shared) (σ:St) (H:Hp) (D:Ends),Inv X pins σ H s->t D σ H->wpAny (model X.prog X.w) X.A (execs st X.env) (SP X pins D) X.xe s
structure PSs(X:Cx)(st:List Stmt)(t:TS):Prop where
 go:wi9 X st t
instance {X:Cx} {st:List Stmt} {t:TS}:CoeFun (PSs X st t) fun _=>wi9 X st t:=⟨PSs.go⟩
theorem thn{α:Type}{t:Sem α}{Q Q':α->Shared->Prop}{M:Model}{A:Around}{E:Value->Shared->Prop}{s:Shared}(h:wpAny M A t Q E s)(hQ:∀a s,Q a s->Q' a s):wpAny M A t Q' E s:=ZH h hQ fun _ _ x=>x
section
variable{X:Cx}
def wj0(i:Nat):TE:=fun σ H Q=>∃v,σ[i]? =some (some v)/\Q v H
def tC(v:V):TE:=fun _ H Q=>Q v H
theorem qH{i:Nat}{x:Str}{pos:Pos}(hN:X.N[i]? =some x)(hv:Vis X.env.scope x)(hd:NDb x:=by decide)(hcd:(x==("__classdict__":Str))=false:=by decide):PE X (.Name x pos) (wj0 i):=⟨by
 intro pins s σ H Q I h
 obtain⟨v,e,h⟩:=h
 obtain⟨m,hn,hl⟩:=I.loc
 obtain⟨u,r,l⟩:=hl i x v hN e hv
 have fin:EP X pins σ Q u s:=⟨v,H,I,r,h⟩
 rcases l with ⟨hk,hm⟩|⟨hk,c,hc,hcell⟩
 ·exact wpAny_Name (wpAny_loadName_local I.ok.kind hk hn hm fin) hd
 ·rcases hk with hk|hk
  ·exact wpAny_Name (wpAny_loadName_cell I.ok.kind hk hc hcell fin) hd
  ·exact wpAny_Name (wpAny_loadName_free I.ok.kind hk hc hcell fin hcd) hd⟩
theorem iG{i j pos}:PE X (.Constant (.int i) j pos) (tC (.int i)):=⟨fun _ _ _ H _ I h=>wpAny_Constant_int ⟨.int i,H,I.tok _,⟨_,rfl⟩,h⟩⟩
theorem xt1{b j pos}:PE X (.Constant (.bool b) j pos) (tC (.bl b)):=⟨fun _ _ _ H _ I h=>Constant_bool ⟨.bl b,H,I,rfl,h⟩⟩
theorem yy9{j pos}:PE X (.Constant .none j pos) (tC .non):=⟨fun _ _ _ H _ I h=>Constant_none ⟨.non,H,I,rfl,h⟩⟩
theorem yz0{x j pos}:PE X (.Constant (.str x) j pos) (tC (.str x)):=⟨fun _ _ _ H _ I h=>Calls.Constant_str ⟨.str x,H,I.tok _,⟨_,rfl⟩,h⟩⟩
def Gl(X:Cx)(x:Str):Prop:=X.env.kindOf x=some .globalImplicit
theorem pH{E:Value->Shared->Prop}{pins:tzB}{s:Shared}{σ:St}{H:Hp}{x:Str}{u:Value}{pos:Pos}{Q:Value->Shared->Prop}(I:Inv X pins σ H s)(hg:Gl X x)(hm:X.mg x=some u)(h:Q u s)
  (hd:NDb x:=by decide):wpAny (model X.prog X.w) X.A (eval (.Name x pos) X.env) Q E s:=
 Yo I.ok.kind hg (X8 (by rw [I.ok.glob];exact I.mod.glob.keeps I.bk) hm h) hd
theorem sR{E:Value->Shared->Prop}{pins:tzB}{s:Shared}{σ:St}{H:Hp}{x:Str}{u:Value}{pos:Pos}{Q:Value->Shared->Prop}(I:Inv X pins σ H s)(hg:Gl X x)(hm:X.mg x=none)(hv:bootBuiltins x=some u)(h:Q u s)
  (hn:x≠"__name__":=by decide) (hd:NDb x:=by decide):wpAny (model X.prog X.w) X.A (eval (.Name x pos) X.env) Q E s:=by
 obtain⟨mb,h1,h2⟩:=I.mod.blt
 exact Yo I.ok.kind hg (Calls.loadGlobal_builtin (by rw [I.ok.glob];exact I.mod.glob.keeps I.bk) hm (by rw [I.ok.blt];exact h1.keeps I.bk) ((h2 x hn).trans hv) h) hd
theorem zc2{x:Str}{v:V}{u:Value}{pos:Pos}(hg:Gl X x)(hm:X.mg x=some u)(r:cG v u)(hd:NDb x:=by decide):PE X (.Name x pos) (tC v):=
 ⟨fun _ _ _ H _ I h=>pH I hg hm ⟨v,H,I,r,h⟩ hd⟩
theorem yl4{x:Str}{v:V}{u:Value}{pos:Pos}(hg:Gl X x)(hm:X.mg x=none)(hv:bootBuiltins x=some u)(r:cG v u)(hn:x≠"__name__":=by decide)(hd:NDb x:=by decide):PE X (.Name x pos) (tC v):=
 ⟨fun _ _ _ H _ I h=>sR I hg hm hv ⟨v,H,I,r,h⟩ hn hd⟩
variable{a b:Expr}{ta tb:TE}{pos:Pos}
def PC(X:Cx)(op:CmpOp)(a b:Expr)(t:TE):Prop:=
 ∀(pins:tzB) (s:Shared) (σ:St) (H:Hp) (Q:VK),Inv X pins σ H s->t σ H Q->
  wpAny (model X.prog X.w) X.A (eval a X.env) (fun v s₁=>wpAny (model X.prog X.w) X.A (eval b X.env) (fun u s₂=>wpAny (model X.prog X.w) X.A (compareOp op v u) (EP X pins σ Q) X.xe s₂) X.xe s₁) X.xe s
def tB(t:TE):TT:=fun σ H Q=>t σ H fun x H1=>∃c,x= .bl c/\Q c H1
theorem wd0{op:CmpOp}{t:TE}(h:PC X op a b t)(h1:behindInMarks op b=false:=by first|exact nobehind _ (by decide) (by decide)|rfl):PT X (.Compare a [op] [b] pos) (tB t):=⟨by
 intro pins s σ H Q I hw
 refine wpAny_isTrue_Compare1 (thn (h pins s σ H _ I hw) fun v s1 h1=>thn h1 fun u s2 h2=>thn h2 fun c s3 ⟨x,H1,I1,r1,q1⟩=> ?_) h1
 obtain⟨d,rfl,q⟩:=q1
 cases r1
 exact ZR ⟨H1,I1,q⟩⟩
theorem ya7{e:Expr}{t:TE}(h:PE X e t)(he:∀whole,isTrue e X.env whole=(do let v<-whole;standAt e.pos;holding [v] (truthy v)):=by intro _;rfl):PT X e (tB t):=⟨by
 intro pins s σ H Q I hw
 refine isTrue_plain (thn (h pins s σ H _ I hw) fun v s1 ⟨x,H1,I1,r1,q1⟩=> ?_) (he _)
 obtain⟨d,rfl,q⟩:=q1
 cases r1
 exact ZR ⟨H1,I1,q⟩⟩
variable{tA tB':TT}{rest:List Expr}
def wq7(t u:TT):TT:=fun σ H Q=>t σ H fun c H1=>if c=true then u σ H1 Q else Q false H1
def tOr(t u:TT):TT:=fun σ H Q=>t σ H fun c H1=>if c=true then Q true H1 else u σ H1 Q
def wq8(t:TT):TT:=fun σ H Q=>t σ H fun c H1=>Q (!c) H1
theorem xv3(ha:PT X a tA):PW X (.BoolOp .And [a] pos) tA:=⟨by
 intro wh pins s σ H Q I h
 refine isTrue_and (thn (ha pins s σ H Q I h) fun c s1 e=> ?_)
 cases c with
 |true=>exact isTrue_and_nil e
 |false=>exact e⟩
theorem yz1(ha:PT X a tA):PW X (.BoolOp .Or [a] pos) tA:=⟨by
 intro wh pins s σ H Q I h
 refine isTrue_or (thn (ha pins s σ H Q I h) fun c s1 e=> ?_)
 cases c with
 |false=>exact isTrue_or_nil e
 |true=>exact e⟩
theorem wd1(ha:PT X a tA)(hb:PW X (.BoolOp .And (b::rest) pos) tB'):PW X (.BoolOp .And (a::b::rest) pos) (wq7 tA tB'):=⟨by
 intro wh pins s σ H Q I h
 refine isTrue_and (thn (ha pins s σ H _ I h) fun c s1 ⟨H1,I1,q1⟩=> ?_)
 cases c with
 |true=>exact hb wh pins s1 σ H1 Q I1 q1
 |false=>exact⟨H1,I1,q1⟩⟩
theorem yr2(ha:PT X a tA)(hb:PW X (.BoolOp .Or (b::rest) pos) tB'):PW X (.BoolOp .Or (a::b::rest) pos) (tOr tA tB'):=⟨by
 intro wh pins s σ H Q I h
 refine isTrue_or (thn (ha pins s σ H _ I h) fun c s1 ⟨H1,I1,q1⟩=> ?_)
 cases c with
 |true=>exact⟨H1,I1,q1⟩
 |false=>exact hb wh pins s1 σ H1 Q I1 q1⟩
theorem zj0(ha:PT X a tA):PT X (.UnaryOp .Not a pos) (wq8 tA):=⟨by
 intro pins s σ H Q I h
 exact isTrue_not (ha pins s σ H (fun c H1=>Q (!c) H1) I h)⟩
def wo2(ta tb:TE):TE:=fun σ H Q=>ta σ H fun x H1=>∃c,x= .bl c/\if c=true then tb σ H1 Q else Q (.bl false) H1
def wq9(ta tb:TE):TE:=fun σ H Q=>ta σ H fun x H1=>∃c,x= .bl c/\if c=true then Q (.bl true) H1 else tb σ H1 Q
theorem yz2{op}{t:TE}(h:PE X a t):PE X (.BoolOp op [a] pos) t:=⟨fun pins s σ H Q I hw=>BoolOp_one (h pins s σ H Q I hw)⟩
theorem yz3(ha:PE X a ta)(hb:PE X (.BoolOp .And (b::rest) pos) tb):PE X (.BoolOp .And (a::b::rest) pos) (wo2 ta tb):=⟨by
 intro pins s σ H Q I h
 refine BoolOp_and (thn (ha pins s σ H _ I h) fun v s1 ⟨x,H1,I1,r1,q1⟩=> ?_)
 obtain⟨c,rfl,q1⟩:=q1
 cases r1
 refine ZR ?_
 cases c with
 |true=>exact hb pins s1 σ H1 Q I1 q1
 |false=>exact⟨.bl false,H1,I1,rfl,q1⟩⟩
theorem wl6(ha:PE X a ta)(hb:PE X (.BoolOp .Or (b::rest) pos) tb):PE X (.BoolOp .Or (a::b::rest) pos) (wq9 ta tb):=⟨by
 intro pins s σ H Q I h
 refine BoolOp_or (thn (ha pins s σ H _ I h) fun v s1 ⟨x,H1,I1,r1,q1⟩=> ?_)
 obtain⟨c,rfl,q1⟩:=q1
 cases r1
 refine ZR ?_
 cases c with
 |false=>exact hb pins s1 σ H1 Q I1 q1
 |true=>exact⟨.bl true,H1,I1,rfl,q1⟩⟩
end
def SqL(K:tz0)(H:Hp)(a:Addr)(xs:List V):Prop:=
 Rd H a (.lst xs)\/
  ∃(o:Obj) (its:Array Value) (n:Nat),K.lookup a=some o/\o.cls= .type "list"/\o.dict=none/\o.data= .seq its n/\its.size<=sizeLine/\bJ xs its.toList
def SqT(K:tz0)(H:Hp)(a:Addr)(xs:List V):Prop:=
 Rd H a (.tup xs)\/
  ∃(o:Obj) (its:Array Value) (n:Nat),K.lookup a=some o/\o.cls= .type "tuple"/\o.data= .seq its n/\its.size<=sizeLine/\bJ xs its.toList
def wr0:Value->Option V
 | .none=>some .non
 | .bool b=>some (.bl b)
 | .int i _=>some (.int i)
 | .str x _=>some (.str x)
 | .bytes b _=>some (.byt b)
 | .float b _=>some (.flt b)
 | .ref a=>some (.ref a)
 | .type n=>some (.ty n)
 |_=>none
theorem cG.abs{x:V}{u:Value}(r:cG x u):wr0 u=some x:=by
 cases x with
 |non=>cases r;rfl
 |bl _=>cases r;rfl
 |int _=>obtain⟨t,rfl⟩:=r;rfl
 |str _=>obtain⟨t,rfl⟩:=r;rfl
 |byt _=>obtain⟨t,rfl⟩:=r;rfl
 |flt _=>obtain⟨t,rfl⟩:=r;rfl
 |ref _=>cases r;rfl
 |ty _=>cases r;rfl
theorem cG.inj{x y:V}{u:Value}(r:cG x u)(q:cG y u):x=y:=Zz (r.abs.symm.trans q.abs)
theorem bJ.inj:∀{xs ys:List V} {us:List Value},bJ xs us->bJ ys us->xs=ys
 |_,_,_,.nil,.nil=>rfl
 |_,_,_,.cons r t,.cons r' t'=>by rw [r.inj r',bJ.inj t t']
section
variable{X:Cx}{pins:tzB}{σ:St}{H:Hp}{s:Shared}{a:Addr}{xs ys:List V}
theorem Inv.list(I:Inv X pins σ H s)(h:SqL X.K H a xs):∃its:List Value,bJ xs its/\PlainL s.heap a its.toArray/\xs.length<=sizeLine:=by
 rcases h with h|⟨o,its,n,hk,hc,hd,hs,hz,r⟩
 ·obtain⟨z,its,n,r,e⟩:=h.ok I.hok
  exact⟨its,r,⟨_,n,e,rfl,rfl,rfl⟩,z⟩
 ·refine⟨its.toList,r,⟨o,n,I.kIn a o hk,hc,hd,by simpa using hs⟩,?_⟩
  have e:=r.length
  simp only [ZQ] at e
  omega
theorem Inv.tuple(I:Inv X pins σ H s)(h:SqT X.K H a xs):∃its:List Value,bJ xs its/\IsTup s.heap a its.toArray/\xs.length<=sizeLine:=by
 rcases h with h|⟨o,its,n,hk,hc,hs,hz,r⟩
 ·obtain⟨z,its,r,p⟩:=h.ok I.hok
  exact⟨its,r,p,z⟩
 ·refine⟨its.toList,r,⟨o,I.kIn a o hk,hc,n,by simpa using hs⟩,?_⟩
  have e:=r.length
  simp only [ZQ] at e
  omega
theorem Inv.list_inj(I:Inv X pins σ H s)(h:SqL X.K H a xs)(h':SqL X.K H a ys):xs=ys:=by
 obtain⟨its,r,⟨o,n,e,_,_,d⟩,_⟩:=I.list h
 obtain⟨its',r',⟨o',n',e',_,_,d'⟩,_⟩:=I.list h'
 rw [e] at e';cases e'
 rw [d] at d'
 injection d' with d1 _
 have:its=its':=by simpa using ZN Array.toList d1
 subst this
 exact r.inj r'
theorem Inv.tuple_inj(I:Inv X pins σ H s)(h:SqT X.K H a xs)(h':SqT X.K H a ys):xs=ys:=by
 obtain⟨its,r,⟨o,e,_,n,d⟩,_⟩:=I.tuple h
 obtain⟨its',r',⟨o',e',_,n',d'⟩,_⟩:=I.tuple h'
 rw [e] at e';cases e'
 rw [d] at d'
 injection d' with d1 _
 have:its=its':=by simpa using ZN Array.toList d1
 subst this
 exact r.inj r'
end
abbrev Cx.wish(X:Cx)(E:Value->Shared->Prop):Cx:={X with xe:=E}
abbrev Cx.nox(X:Cx):Cx:=X.wish fun _ _=>False
theorem Cx.Ok.wish{X:Cx}(ok:X.Ok)(E:Value->Shared->Prop):(X.wish E).Ok:=
 ⟨ok.mod,ok.kind,ok.glob,ok.blt,ok.above,ok.inj,ok.has,ok.cab,ok.hd,ok.frames,ok.stk,ok.exf,ok.bs,ok.bsz,ok.noex,ok.exfs,ok.funs,ok.frf⟩
theorem Cx.Ok.unwish{X:Cx}{E:Value->Shared->Prop}(ok:(X.wish E).Ok):X.Ok:=
 ⟨ok.mod,ok.kind,ok.glob,ok.blt,ok.above,ok.inj,ok.has,ok.cab,ok.hd,ok.frames,ok.stk,ok.exf,ok.bs,ok.bsz,ok.noex,ok.exfs,ok.funs,ok.frf⟩
section
variable{X:Cx}{pins:tzB}{σ:St}{H:Hp}{s:Shared}{E:Value->Shared->Prop}
theorem Inv.wish(I:Inv X pins σ H s)(E:Value->Shared->Prop):Inv (X.wish E) pins σ H s:=⟨I.ok.wish E,I.os,I.bare,I.base,I.loc,I.cell,I.free,I.freeC,I.pin,I.hok,I.len⟩
theorem Inv.unwish(I:Inv (X.wish E) pins σ H s):Inv X pins σ H s:=⟨I.ok.unwish,I.os,I.bare,I.base,I.loc,I.cell,I.free,I.freeC,I.pin,I.hok,I.len⟩
theorem SP.unwish{D:Ends}{f:Flow}{s':Shared}(h:SP (X.wish E) pins D f s'):SP X pins D f s':=by
 cases f with
 |next=>obtain⟨σ',H',I,q⟩:=h;exact⟨σ',H',I.unwish,q⟩
 |brk=>obtain⟨σ',H',I,q⟩:=h;exact⟨σ',H',I.unwish,q⟩
 |cont=>obtain⟨σ',H',I,q⟩:=h;exact⟨σ',H',I.unwish,q⟩
 |ret u=>obtain⟨v,σ',H',I,r,q⟩:=h;exact⟨v,σ',H',I.unwish,r,q⟩
theorem PT.nox{e:Expr}{t:TT}(h:PT X.nox e t):PT X e t:=⟨fun pins s σ H Q I hw=>
 ZH (h pins s σ H Q (I.wish _) hw) (fun _ _ ⟨H',I',q⟩=>⟨H',I'.unwish,q⟩) fun _ _ z=>False.elim z⟩
theorem PSs.nox{st:List Stmt}{t:TS}(h:PSs X.nox st t):PSs X st t:=⟨fun pins s σ H D I hw=>
 ZH (h pins s σ H D (I.wish _) hw) (fun _ _ q=>q.unwish) fun _ _ z=>False.elim z⟩
end
section
variable{X:Cx}{st:Stmt}{rest:List Stmt}{t u:TS}{e:Expr}{te:TE}{pos:Pos}
def wo3:TS:=fun D σ H=>D.nx σ H
def wr1(t u:TS):TS:=fun D σ H=>t {D with nx:=u D} σ H
theorem zp4:PSs X [] wo3:=⟨fun _ _ σ H _ I h=>YB ⟨σ,H,I,h⟩⟩
theorem jM(h1:PS X st t)(h2:PSs X rest u):PSs X (st::rest) (wr1 t u):=⟨by
 intro pins s σ H D I h
 refine YL (thn (h1 pins s σ H {D with nx:=u D} I h) fun f s1 q=> ?_)
 cases f with
 |next=>
  obtain⟨σ',H',I',q⟩:=q
  exact h2 pins s1 σ' H' D I' q
 |ret v=>exact q
 |brk=>exact q
 |cont=>exact q⟩
theorem vM(h1:PS X st t):PSs X [st] t:=⟨by
 intro pins s σ H D I h
 refine YL (thn (h1 pins s σ H D I h) fun f s1 q=> ?_)
 cases f with
 |next=>exact YB q
 |ret v=>exact q
 |brk=>exact q
 |cont=>exact q⟩
theorem Inv.quiet{pins:tzB}{σ:St}{H:Hp}{s:Shared}(I:Inv X pins σ H s):interactive X.env=false:=by simp [interactive,I.ok.kind]
def wo4(te:TE):TS:=fun D σ H=>te σ H fun _ H1=>D.nx σ H1
theorem xv4(he:PE X e te)(hs:swapsWith e none pos.line X.env=pure false:=by rfl):PS X (.Expr e pos) (wo4 te):=⟨by
 intro pins s σ H D I h
 exact wpAny_Expr_any (thn (he pins s σ H _ I h) fun v s1 ⟨x,H1,I1,r1,q1⟩=>⟨σ,H1,I1,q1⟩) I.quiet hs⟩
def wr2(te:TE):TS:=fun D σ H=>te σ H D.rt
theorem vN(he:PE X e te):PS X (.Return (some e) pos) (wr2 te):=⟨by
 intro pins s σ H D I h
 exact wpAny_Return_some (thn (he pins s σ H _ I h) fun v s1 ⟨x,H1,I1,r1,q1⟩=>⟨x,σ,H1,I1,r1,q1⟩)⟩
def wr3(c:TT)(t u:TS):TS:=fun D σ H=>c σ H fun b H1=>if b=true then t D σ H1 else u D σ H1
theorem zy4{c:Expr}{a b:List Stmt}{tc:TT}(hc:PT X c tc)(ha:PSs X a t)(hb:PSs X b u):PS X (.If c a b pos) (wr3 tc t u):=⟨by
 intro pins s σ H D I h
 refine wpAny_If (thn (hc pins s σ H _ I h) fun d s1 ⟨H1,I1,q1⟩=> ?_)
 cases d with
 |true=>exact ha pins s1 σ H1 D I1 q1
 |false=>exact hb pins s1 σ H1 D I1 q1⟩
def wj1:TS:=fun _ _ _=>False
theorem xk7:PS X st wj1:=⟨fun _ _ _ _ _ _ h=>h.elim⟩
end
abbrev TG:=V->St->Hp->(St->Hp->Prop)->Prop
abbrev TGs:=List V->St->Hp->(St->Hp->Prop)->Prop
def PGd(X:Cx)(target:Expr)(t:TG):Prop:=
 ∀(pins:tzB) (s:Shared) (σ:St) (H:Hp) (v:V) (u:Value) (Q:St->Hp->Prop),Inv X pins σ H s->cG v u->t v σ H Q->
  wpAny (model X.prog X.w) X.A (assign target X.env u) (fun _ s'=>∃σ' H',Inv X pins σ' H' s'/\Q σ' H') X.xe s
structure PG(X:Cx)(target:Expr)(t:TG):Prop where
 go:PGd X target t
instance {X:Cx} {target:Expr} {t:TG}:CoeFun (PG X target t) fun _=>PGd X target t:=⟨PG.go⟩
def wj2(X:Cx)(ts:List Expr)(t:TGs):Prop:=
 ∀(pins:tzB) (s:Shared) (σ:St) (H:Hp) (vs:List V) (us:List Value) (Q:St->Hp->Prop),Inv X pins σ H s->bJ vs us->t vs σ H Q->
  wpAny (model X.prog X.w) X.A (assignInOrder ((assignEach ts X.env).map (·.2)) us) (fun _ s'=>∃σ' H',Inv X pins σ' H' s'/\Q σ' H') X.xe s
structure PGs(X:Cx)(ts:List Expr)(t:TGs):Prop where
 go:wj2 X ts t
instance {X:Cx} {ts:List Expr} {t:TGs}:CoeFun (PGs X ts t) fun _=>wj2 X ts t:=⟨PGs.go⟩
abbrev xr5:=V->V->V->Hp->(Hp->Prop)->Prop
def wj3(X:Cx)(t:xr5):Prop:=
 ∀(pins:tzB) (s:Shared) (σ:St) (H:Hp) (o i v:V) (ov iv u:Value) (Q:Hp->Prop),Inv X pins σ H s->cG o ov->cG i iv->cG v u->t o i v H Q->
  wpAny (model X.prog X.w) X.A (setItem ov iv u) (fun _ s'=>∃H',Inv X pins σ H' s'/\Q H') X.xe s
section
variable{X:Cx}{pos:Pos}
def yA(i:Nat):TG:=fun v σ H Q=>Q (σ.set i (some v)) H
theorem hV{i:Nat}{x:Str}(hN:X.N.Nodup)(hi:X.N[i]? =some x)(hx:Loc X.env.scope x)(hf:X.fn x=true\/X.env.scope.names.lookup x=some .local:=by first|exact .inl rfl|exact .inr rfl|assumption):PG X (.Name x pos) (yA i):=⟨by
 intro pins s σ H v u Q I r h
 exact wpAny_assign_Name (zg5 I hN hi hx r (fun s' I'=>⟨_,H,I',h⟩) hf)⟩
def wj4:TGs:=fun vs σ H Q=>vs=[]/\Q σ H
def xu4(t:TG)(u:TGs):TGs:=fun vs σ H Q=>∃v r,vs=v::r/\t v σ H fun σ' H'=>u r σ' H' Q
theorem yl5:PGs X [] wj4:=⟨by
 intro pins s σ H vs us Q I r h
 obtain⟨e,h⟩:=h
 subst e
 cases r
 exact assignInOrder_nil ⟨σ,H,I,h⟩⟩
theorem pI{e:Expr}{es:List Expr}{t:TG}{u:TGs}(h1:PG X e t)(h2:PGs X es u)
  (hs:(assignEach (e::es) X.env).map (·.2)=assign e X.env::(assignEach es X.env).map (·.2):=by rfl):PGs X (e::es) (xu4 t u):=⟨by
 intro pins s σ H vs us Q I r h
 obtain⟨v,vr,e1,h⟩:=h
 subst e1
 cases r with
 |cons r rr=>
  rw [hs]
  refine assignInOrder_cons (thn (h1 pins s σ H _ _ _ I r h) fun _ s1 ⟨σ1,H1,I1,q1⟩=> ?_)
  exact h2 pins s1 σ1 H1 _ _ Q I1 rr q1⟩
def xr6(K:tz0)(n:Nat)(t:TGs):TG:=fun v σ H Q=>∃a xs,v= .ref a/\SqT K H a xs/\xs.length=n/\t xs σ H Q
theorem wd2{es:List Expr}{k:Nat}{t:TGs}{n:Nat}(hc:X.calm=true)(h:PGs X es t)
  (hn:(assignEach es X.env).length=n:=by rfl) (hst:(assignEach es X.env).findIdx? (·.1)=none:=by rfl):PG X (.Tuple es k pos) (xr6 X.K n t):=⟨by
 intro pins s σ H v u Q I r hw
 obtain⟨a,xs,e1,hq,hl,hw⟩:=hw
 subst e1
 cases r
 obtain⟨its,rv,ht,hz⟩:=I.tuple hq
 refine assign_Tuple_tuple (I.ok.hd hc) ht (by simp [hn,<-hl,rv.length]) hst fun h' hx=> ?_
 have I1:Inv X pins σ H {s with heap:=h'}:=I.kept (t':=s.toks) fun b o e=>hx b o (ZE (Zk e)) e
 exact h pins _ σ H xs _ Q I1 (by simpa using rv) hw⟩
def wr4(to ti:TE)(t:xr5):TG:=fun v σ H Q=>to σ H fun o H1=>ti σ H1 fun i H2=>t o i v H2 fun H3=>Q σ H3
theorem wd3{o i:Expr}{to ti:TE}{t:xr5}(ho:PE X o to)(hi:PE X i ti)(hs:wj3 X t)
  (ha:∀v,assign (.Subscript o i pos) X.env v=(do
   let ov<-holding [v] (eval o X.env)
   let iv<-holding [v,ov] (eval i X.env)
   standAt pos
   holding [v,ov,iv] (setItem ov iv v)
   release [v,ov,iv] []):=by intro _;rfl):PG X (.Subscript o i pos) (wr4 to ti t):=⟨by
 intro pins s σ H v u Q I r h
 rw [ha]
 refine Zf (Yx (thn (ho pins s σ H _ I h) fun ov s1 ⟨x,H1,I1,r1,q1⟩=> ?_))
 refine Zf (Yx (thn (hi pins s1 σ H1 _ I1 q1) fun iv s2 ⟨y,H2,I2,r2,q2⟩=> ?_))
 refine Zf (Wp (Zf (Yx (thn (hs pins s2 σ H2 x y v ov iv u _ I2 r1 r2 r q2) fun _ s3 ⟨H3,I3,q3⟩=> ?_))))
 exact wpAny_release ⟨σ,H3,I3,q3⟩⟩
def wj5(te:TE)(g:TG):TS:=fun D σ H=>te σ H fun x H1=>g x σ H1 D.nx
theorem yz4{tg e:Expr}{te:TE}{g:TG}(he:PE X e te)(hg:PG X tg g)(hs:swapsWithSole [tg] e pos.line X.env=pure false:=by rfl)(hw:swappedStores [tg] e X.env=pure none:=by rfl)
  (h1:(assignEach [tg] X.env).map (·.2)=[assign tg X.env]:=by rfl):PS X (.Assign [tg] e pos) (wj5 te g):=⟨by
 intro pins s σ H D I h
 refine wpAny_Assign_stores (thn (he pins s σ H _ I h) fun v s1 ⟨x,H1,I1,r1,q1⟩=> ?_) hs hw
 rw [h1]
 exact thn (hg pins s1 σ H1 x v _ I1 r1 q1) fun _ s2 q=>q⟩
theorem sS{i:Nat}{x:Str}{e:Expr}{te:TE}{pos':Pos}(hN:X.N.Nodup)(hi:X.N[i]? =some x)(hx:Loc X.env.scope x)(he:PE X e te)(hs:swapsWith e (some (.Name x pos')) pos.line X.env=pure false:=by rfl)(hf:X.fn x=true\/X.env.scope.names.lookup x=some .local:=by first|exact .inl rfl|exact .inr rfl|assumption):
  PS X (.Assign [.Name x pos'] e pos) (wj5 te (yA i)):=⟨by
 intro pins s σ H D I h
 refine XI (thn (he pins s σ H _ I h) fun v s1 ⟨y,H1,I1,r1,q1⟩=> ?_) hs
 exact zg5 I1 hN hi hx r1 (fun s2 I2=>⟨_,H1,I2,q1⟩) hf⟩
def wj6(c:TT)(tb:TS):TS:=fun D σ H=>∃W:Nat->St->Hp->Prop,(∃m,W m σ H)/\∀m σ H,W m σ H->
 c σ H fun b H1=>if b=true then ∃N:St->Hp->Prop,(∀σ' H',N σ' H'->∃m',m'<m/\W m' σ' H')/\tb {D with nx:=N,ct:=N,bk:=D.nx} σ H1 else D.nx σ H1
theorem xk8{c:Expr}{body:List Stmt}{tc:TT}{tb:TS}(hp:PassesOwn (model X.prog X.w) X.A X.env X.xe)(hc:PT X c tc)(hb:PSs X body tb):PS X (.While c body [] pos) (wj6 tc tb):=⟨by
 intro pins s σ H D I h
 obtain⟨W,⟨m0,w0⟩,turn⟩:=h
 refine wpAny_While (codeAny_whileLoop (fun n s'=>∃σ' H',Inv X pins σ' H' s'/\W n σ' H') ?_ m0 ⟨σ,H,I,w0⟩)
 rintro n s1 ⟨σ1,H1,I1,w1⟩
 refine Ym hp (thn (hc pins s1 σ1 H1 _ I1 (turn n σ1 H1 w1)) fun b s2 ⟨H2,I2,q2⟩=> ?_)
 cases b with
 | true=>
  obtain⟨N,hN,q2⟩:=q2
  rw [if_pos rfl]
  refine Ym hp (thn (hb pins s2 σ1 H2 _ I2 q2) fun f s3 q3=> ?_)
  cases f with
  |next=>
   obtain⟨σ3,H3,I3,n3⟩:=q3
   obtain⟨m',hm,w3⟩:=hN σ3 H3 n3
   exact⟨m',hm,σ3,H3,I3,w3⟩
  |cont=>
   obtain⟨σ3,H3,I3,n3⟩:=q3
   obtain⟨m',hm,w3⟩:=hN σ3 H3 n3
   exact⟨m',hm,σ3,H3,I3,w3⟩
  |brk=>exact q3
  |ret v=>exact q3
 |false=>
  rw [if_neg Z7]
  exact YB ⟨σ1,H2,I2,q2⟩⟩
end
structure It where
 go:Nat->Hp->Prop
 yld:Nat->Hp->V->Hp->Prop
 stop:Nat->Hp->Prop
def oR(X:Cx)(pins:tzB)(H:Hp)(b:Addr):Prop:=
 H b=none/\b≠X.env.locals/\b∉X.fs/\(b∈X.ex\/X.s₀.heap.objs.size<=b)/\(∀x c,X.env.cells.lookup x=some c->c≠b)/\∀p∈X.pn++pins,p.1≠b
theorem Inv.fpOk{X:Cx}{pins:tzB}{σ:St}{H H':Hp}{s:Shared}{b:Addr}(I:Inv X pins σ H s)(hb:s.heap.objs.size<=b)(hn:H' b=none):oR X pins H' b:=by
 refine⟨hn,W3 (Zw I.lt hb),I.nofs hb,.inr (Zt I.sz hb),fun x c e z=> ?_,fun p hp z=> ?_⟩
 ·obtain⟨v,q⟩:=I.cell x c e
  exact absurd (Zw q.lt (by rw [z];exact hb)) (Y5 _)
 ·exact absurd (Zw (Zk (I.pin p hp).1) (by rw [z];exact hb)) (Y5 _)
structure Turn(P:Program)(w:World)(K:tz0)(tg:Expr)(J:It)(fp:List Addr)(it:Addr)(tn:Nat->Heap->Prop):Prop where
 mem:it∈fp
 obj:∀i h,tn i h->∀b∈fp,∃o,h.get? b=some o/\∀v,o.data≠ .cell v
 keep:∀i h h',tn i h->(∀b∈fp,∀o,h.get? b=some o->h'.get? b=some o)->tn i h'
 item:∀(X:Cx),X.prog=P->X.w=w->X.K=K->X.calm=true->∀(i:Nat) (pins:tzB) (s:Shared) (σ:St) (H:Hp) (E:Value->Shared->Prop),Inv X pins σ H s->(∀b∈fp,oR X pins H b)->tn i s.heap->J.go i H->
  wpAny (model P w) X.A (pyNext (.ref it)) (fun r s1=>∃u,r=some u/\
   wpAny (model P w) X.A (letOwnedTupleGo tg (.ref it) u) (fun _ s2=>∃x H',Inv X pins σ H' s2/\cG x u/\J.yld i H x H'/\tn (i+1) s2.heap/\∀b∈fp,H' b=none) E s1) E s
 done:∀(X:Cx),X.prog=P->X.w=w->X.K=K->X.calm=true->∀(i:Nat) (pins:tzB) (s:Shared) (σ:St) (H:Hp) (E:Value->Shared->Prop),Inv X pins σ H s->(∀b∈fp,oR X pins H b)->tn i s.heap->J.stop i H->
  wpAny (model P w) X.A (pyNext (.ref it)) (fun r s1=>r=none/\Inv X pins σ H s1) E s
 self:∀(A:Around) (i:Nat) (s:Shared) (Q:Value->Shared->Prop) (E:Value->Shared->Prop),tn i s.heap->Q (.ref it) s->wpAny (model P w) A (pyIter (.ref it)) Q E s
abbrev TI:=St->Hp->(It->Hp->Prop)->Prop
def PIE(X:Cx)(pins:tzB)(σ:St)(tg:Expr)(R:It->Hp->Prop)(itv:Value)(s2:Shared):Prop:=
 ∃(it:Addr) (fp:List Addr) (tn:Nat->Heap->Prop) (J:It) (H':Hp),itv= .ref it/\Inv X pins σ H' s2/\Turn X.prog X.w X.K tg J fp it tn/\tn 0 s2.heap/\(∀b∈fp,oR X pins H' b)/\R J H'
def PId(X:Cx)(tg iter:Expr)(wi:TI):Prop:=
 ∀(pins:tzB) (s:Shared) (σ:St) (H:Hp) (R:It->Hp->Prop),Inv X pins σ H s->wi σ H R->
  wpAny (model X.prog X.w) X.A (eval iter X.env) (fun v s1=>wpAny (model X.prog X.w) X.A (pyIter v) (PIE X pins σ tg R) X.xe s1) X.xe s
structure PI(X:Cx)(tg iter:Expr)(wi:TI):Prop where
 go:PId X tg iter wi
instance {X:Cx} {tg iter:Expr} {wi:TI}:CoeFun (PI X tg iter wi) fun _=>PId X tg iter wi:=⟨PI.go⟩
theorem zy5{M:Model}{A:Around}{E:Value->Shared->Prop}{s:Shared}{tg:Expr}{it:Addr}{u:Value}{o:Obj}{n:String}{vs:Array Value}{Q:Unit->Shared->Prop}(ho:s.heap.get? it=some o)(hc:o.cls= .type n)(hd:o.data= .fields vs)
  (hn:["enumerate","zip","dict_itemiterator","dict_reverseitemiterator","odict_iterator","itertools.zip_longest","itertools.pairwise"].contains n=false) (hQ:Q () s):wpAny M A (letOwnedTupleGo tg (.ref it) u) Q E s:=by
 unfold letOwnedTupleGo
 cases tg<;>first
  |exact ZD hQ
  | (cases u<;>first
    |exact ZD hQ
    | (refine Zf (wpAny_load ho ?_)
       rw [hc,hd]
       show wpAny M A (if (["enumerate","zip","dict_itemiterator","dict_reverseitemiterator","odict_iterator","itertools.zip_longest","itertools.pairwise"].contains n&&vs[0]? ==some (rawInt _))=true then _ else _) Q E s
       rw [if_neg (by intro h;rw [hn,XJ] at h;cases h)]
       exact ZD hQ))
def Itl(K:tz0)(a:Addr):It:=
 ⟨fun i H=>∃xs x,SqL K H a xs/\xs[i]? =some x,fun i H x H'=>H'=H/\∀xs,SqL K H a xs->xs[i]? =some x,fun i H=>∃xs,SqL K H a xs/\xs.length<=i⟩
def Itt(K:tz0)(a:Addr):It:=
 ⟨fun i H=>∃xs x,SqT K H a xs/\xs[i]? =some x,fun i H x H'=>H'=H/\∀xs,SqT K H a xs->xs[i]? =some x,fun i H=>∃xs,SqT K H a xs/\xs.length<=i⟩
def Itr(lo:Int)(n:Nat):It:=⟨fun i _=>i<n,fun i H x H'=>H'=H/\x= .int (lo+i),fun i _=>n<=i⟩
theorem yz5{P:Program}{w:World}{K:tz0}{tg:Expr}(a it:Addr):Turn P w K tg (Itl K a) [it] it (fun i h=>h.IsListIter it a i) where
 mem:=by simp
 obj:=fun i h st b hb=>by
  have e:b=it:=by simpa using hb
  subst e
  obtain⟨o,e,c,d⟩:=st
  exact⟨o,e,fun v z=>by rw [d] at z;cases z⟩
 keep:=fun i h h' st k=>st.at fun o e=>k it (by simp) o e
 item:=by
  intro X hP hw hK hc i pins s σ H E I hf st hg
  subst hP hw hK
  obtain⟨xs,x,hq,hx⟩:=hg
  obtain⟨its,rv,p,hz⟩:=I.list hq
  obtain⟨u,hu,ru⟩:=rv.get hx
  obtain⟨f0,f1,f2,f3,f4,f5⟩:=hf it (by simp)
  refine wpAny_pyNext_list_item st p.isList (x:=u) (by simpa using hu) fun h' st' sb=> ?_
  have I1:Inv X pins σ H {s with heap:=h'}:=I.turned (t':=s.toks) (fun b o hb e=>(sb.2 b hb).trans e) f0 f1 f3 f4 f5
  obtain⟨o,e,c,d⟩:=id st'
  exact⟨u,rfl,zy5 (s:={s with heap:=h'}) e c d (by decide) ⟨x,H,I1,ru,⟨rfl,fun ys hy=>by rw [I.list_inj hy hq];exact hx⟩,st',fun b hb=>(hf b hb).1⟩⟩
 done:=by
  intro X hP hw hK hc i pins s σ H E I hf st hg
  subst hP hw hK
  obtain⟨xs,hq,hx⟩:=hg
  obtain⟨its,rv,p,hz⟩:=I.list hq
  obtain⟨f0,f1,f2,f3,f4,f5⟩:=hf it (by simp)
  have hl:=rv.length
  exact wpAny_pyNext_list_end (I.ok.hd hc) st p.isList (by simp;omega) fun h' eb=>⟨rfl,I.turned (t':=s.toks) (fun b o hb e=>eb b o hb e) f0 f1 f3 f4 f5⟩
 self:=fun _ _ _ _ _ st h=>wpAny_pyIter_listiter st h
theorem yr3{P:Program}{w:World}{K:tz0}{tg:Expr}(a it:Addr):Turn P w K tg (Itt K a) [it] it (fun i h=>h.IsTupleIter it a i) where
 mem:=by simp
 obj:=fun i h st b hb=>by
  have e:b=it:=by simpa using hb
  subst e
  obtain⟨o,e,c,d⟩:=st
  exact⟨o,e,fun v z=>by rw [d] at z;cases z⟩
 keep:=fun i h h' st k=>st.at fun o e=>k it (by simp) o e
 item:=by
  intro X hP hw hK hc i pins s σ H E I hf st hg
  subst hP hw hK
  obtain⟨xs,x,hq,hx⟩:=hg
  obtain⟨its,rv,p,hz⟩:=I.tuple hq
  obtain⟨u,hu,ru⟩:=rv.get hx
  obtain⟨f0,f1,f2,f3,f4,f5⟩:=hf it (by simp)
  refine wpAny_pyNext_tuple_item st (show s.heap.IsTuple a its.toArray from p) (x:=u) (by simpa using hu) fun h' st' sb=> ?_
  have I1:Inv X pins σ H {s with heap:=h'}:=I.turned (t':=s.toks) (fun b o hb e=>(sb.2 b hb).trans e) f0 f1 f3 f4 f5
  obtain⟨o,e,c,d⟩:=id st'
  exact⟨u,rfl,zy5 (s:={s with heap:=h'}) e c d (by decide) ⟨x,H,I1,ru,⟨rfl,fun ys hy=>by rw [I.tuple_inj hy hq];exact hx⟩,st',fun b hb=>(hf b hb).1⟩⟩
 done:=by
  intro X hP hw hK hc i pins s σ H E I hf st hg
  subst hP hw hK
  obtain⟨xs,hq,hx⟩:=hg
  obtain⟨its,rv,p,hz⟩:=I.tuple hq
  obtain⟨f0,f1,f2,f3,f4,f5⟩:=hf it (by simp)
  have hl:=rv.length
  exact wpAny_pyNext_tuple_end (I.ok.hd hc) st (show s.heap.IsTuple a its.toArray from p) (by simp;omega) fun h' eb=>⟨rfl,I.turned (t':=s.toks) (fun b o hb e=>eb b o hb e) f0 f1 f3 f4 f5⟩
 self:=fun _ _ _ _ _ st h=>wpAny_pyIter_tupleiter st h
theorem yr4{P:Program}{w:World}{K:tz0}{tg:Expr}(it:Addr)(lo:Int)(n:Nat):Turn P w K tg (Itr lo n) [it] it (fun i h=>IsRangeIter h it (lo+(i:Nat)*1) ((n:Int)-(i:Nat)) 1) where
 mem:=by simp
 obj:=fun i h st b hb=>by
  have e:b=it:=by simpa using hb
  subst e
  exact⟨_,st,fun v z=>by
   have z':Data.fields _=Data.cell v:=z
   cases z'⟩
 keep:=fun i h h' st k=>k it (by simp) _ st
 item:=by
  intro X hP hw hK hc i pins s σ H E I hf st hg
  subst hP hw hK
  obtain⟨f0,f1,f2,f3,f4,f5⟩:=hf it (by simp)
  have W:=Walks.range (prog:=X.prog) (w:=X.w) (I.ok.hd hc) it lo 1 n
  refine W.item i s _ _ hg st fun v h' tk hv st' kk=> ?_
  obtain⟨t,rfl⟩:=hv
  have I1:Inv X pins σ H {s with heap:=h',toks:=tk}:=I.turned (fun b o hb e=>kk b o (by simpa using hb) e) f0 f1 f3 f4 f5
  refine⟨_,rfl,zy5 (s:={s with heap:=h',toks:=tk}) (n:="range_iterator") st' rfl rfl (by decide) ⟨.int (lo+i),H,I1,⟨t,?_⟩,⟨rfl,rfl⟩,st',fun b hb=>(hf b hb).1⟩⟩
  rw [Int.mul_one]
 done:=by
  intro X hP hw hK hc i pins s σ H E I hf st hg
  subst hP hw hK
  obtain⟨f0,f1,f2,f3,f4,f5⟩:=hf it (by simp)
  exact wpAny_pyNext_range_end (I.ok.hd hc) st (by have:n<=i:=hg;omega) fun h' eb=>⟨rfl,I.turned (t':=s.toks) (fun b o hb e=>eb b o hb e) f0 f1 f3 f4 f5⟩
 self:=fun _ _ _ _ _ st h=>wpAny_pyIter_rangeiter st h
section
variable{X:Cx}{tg:Expr}
theorem ya8{pins:tzB}{σ:St}{H:Hp}{s:Shared}{R:It->Hp->Prop}{E:Value->Shared->Prop}{lo hi:Int}{t u v:Tok}{tk:Nat}(I:Inv X pins σ H s)(h1: -(2^62)<=lo)(h2:lo<2^62)(h3: -(2^62)<=hi)(h4:hi<2^62)
  (q:R (Itr lo (hi-lo).toNat) H):wpAny (model X.prog X.w) X.A (pyIter (.ref s.heap.objs.size)) (PIE X pins σ tg R) E {s with heap:=s.heap.push {cls:= .type "range",data:= .fields #[.int lo t,.int hi u,.int 1 v]},toks:=tk}:=by
 refine wpAny_pyIter_range (IsRange.new ..) (small_one h1 h2 h3 h4) ?_
 have I1:Inv X pins σ H {s with heap:=s.heap.push {cls:= .type "range",data:= .fields #[.int lo t,.int hi u,.int 1 v]},toks:=tk}:=I.kept fun b o e=>Zh _ e
 refine⟨(s.heap.push {cls:= .type "range",data:= .fields #[.int lo t,.int hi u,.int 1 v]}).objs.size,[(s.heap.push {cls:= .type "range",data:= .fields #[.int lo t,.int hi u,.int 1 v]}).objs.size],_,_,H,rfl,
  I1.kept (t':=tk) fun b o e=>Zh _ e,yr4 _ lo (hi-lo).toNat,?_,fun b hb=> ?_,q⟩
 ·have e1:lo+((0:Nat):Int)*1=lo:=by simp
  have e2:(((hi-lo).toNat:Nat):Int)-((0:Nat):Int)=Builtin.Range.rangeSize lo hi 1:=by rw [rangeSize_one];split<;>omega
  show IsRangeIter _ _ (lo+((0:Nat):Int)*1) ((((hi-lo).toNat:Nat):Int)-((0:Nat):Int)) 1
  rw [e1,e2]
  exact Zv _ rfl
 ·have e:b=(s.heap.push {cls:= .type "range",data:= .fields #[.int lo t,.int hi u,.int 1 v]}).objs.size:=by simpa using hb
  subst e
  exact I1.fpOk (Zc _) (I1.hok.fresh (Zc _))
def wo5(ta:TA):TI:=fun σ H R=>ta σ H fun vs H1=>∃j:Int,vs=[.int j]/\ -(2^62)<=j/\j<2^62/\R (Itr 0 j.toNat) H1
def wo6(ta:TA):TI:=fun σ H R=>ta σ H fun vs H1=>∃i j:Int,vs=[.int i,.int j]/\(-(2^62)<=i/\i<2^62/\ -(2^62)<=j/\j<2^62)/\R (Itr i (j-i).toNat) H1
theorem yz6{a:Expr}{ta:TA}{p pos:Pos}(hg:Gl X "range")(hm:X.mg "range"=none)(ha:PA X [a] ta)(hs:starEach [a] X.env=[(false,eval a X.env)]:=by rfl):PI X tg (.Call (.Name "range" p) [a] [] pos) (wo5 ta):=⟨by
 intro pins s σ H R I h
 refine Call_ (sR I hg hm boot_range (Yk (thn (ha pos pins s σ H _ I h) fun us s1 ⟨vs,H1,I1,r1,q1⟩=> ?_) hs rfl))
 obtain⟨j,e,q1,q2,q⟩:=q1
 subst e
 cases r1 with
 |cons r rr=>
  cases rr
  obtain⟨t,rfl⟩:=r
  exact call_range_1 (ya8 I1 (by omega) (by omega) q1 q2 (by simpa using q))⟩
theorem yz7{a b:Expr}{ta:TA}{p pos:Pos}(hg:Gl X "range")(hm:X.mg "range"=none)(ha:PA X [a,b] ta)(hs:starEach [a,b] X.env=[(false,eval a X.env),(false,eval b X.env)]:=by rfl)(hs2:starEach [b] X.env=[(false,eval b X.env)]:=by rfl):
  PI X tg (.Call (.Name "range" p) [a,b] [] pos) (wo6 ta):=⟨by
 intro pins s σ H R I h
 refine Call_ (sR I hg hm boot_range (Yk (thn (ha pos pins s σ H _ I h) fun us s1 ⟨vs,H1,I1,r1,q1⟩=> ?_) (by rw [hs,hs2]) (by rw [hs2];rfl)))
 obtain⟨i,j,e,⟨q1,q2,q3,q4⟩,q⟩:=q1
 subst e
 cases r1 with
 | cons r rr=>
  cases rr with
  |cons r' rr=>
   cases rr
   obtain⟨t,rfl⟩:=r
   obtain⟨t',rfl⟩:=r'
   exact call_range_2 (ya8 I1 q1 q2 q3 q4 q)⟩
def wr5(wi:TI)(g:TG)(tb:TS):TS:=fun D σ H=>wi σ H fun J H1=>∃W:Nat->Nat->St->Hp->Prop,(∃m,W 0 m σ H1)/\∀i m σ H,W i m σ H->
 (J.stop i H/\D.nx σ H)\/(J.go i H/\∃N:St->Hp->Prop,(∀σ' H',N σ' H'->∃m',m'<m/\W (i+1) m' σ' H')/\∀x H',J.yld i H x H'->g x σ H' fun σ2 H2=>tb {D with nx:=N,ct:=N,bk:=D.nx} σ2 H2)
def wC(fp:List Addr)(h:Heap):tzB:=fp.filterMap fun b=>(h.get? b).map fun o=>(b,o)
theorem rT{fp:List Addr}{h:Heap}{b:Addr}{o:Obj}(hb:b∈fp)(e:h.get? b=some o):(b,o)∈wC fp h:=YN.mpr ⟨b,hb,by rw [e];rfl⟩
theorem yz8{fp:List Addr}{h:Heap}{p:Addr×Obj}(hp:p∈wC fp h):p.1∈fp/\h.get? p.1=some p.2:=by
 obtain⟨b,hb,e⟩:=YN.mp hp
 cases q:h.get? b with
 |none=>rw [q] at e;cases e
 |some o=>
  rw [q] at e
  have e':(b,o)=p:=Zz e
  subst e'
  exact⟨hb,q⟩
theorem Inv.pinned{pins:tzB}{σ:St}{H:Hp}{s:Shared}{fp:List Addr}(I:Inv X pins σ H s)(hf:∀b∈fp,oR X pins H b)(ho:∀b∈fp,∃o,s.heap.get? b=some o/\∀v,o.data≠ .cell v):Inv X (pins++wC fp s.heap) σ H s:=
 I.pins_of fun p hp=>(Zn.mp hp).elim (fun z=>I.pin p (Z8 _ z)) fun z=>by
  obtain⟨hb,e⟩:=yz8 z
  obtain⟨f0,f1,f2,_⟩:=hf p.1 hb
  obtain⟨o,e',d⟩:=ho p.1 hb
  rw [e] at e';cases e'
  exact⟨e,f0,f1,f2,d⟩
theorem Inv.unpinned{pins pl:tzB}{σ:St}{H:Hp}{s:Shared}(I:Inv X (pins++pl) σ H s):Inv X pins σ H s:=I.pins_of fun p hp=>I.pin p (Z8 _ (Zi _ hp))
theorem ya9{iter:Expr}{body:List Stmt}{wi:TI}{g:TG}{tb:TS}{pos:Pos}(hp:PassesOwn (model X.prog X.w) X.A X.env X.xe)(hc:X.calm=true)(hi:PI X tg iter wi)(hg:PG X tg g)(hb:PSs X body tb)
  (hs:∀x,foldedSetIterable iter X.env x=pure x:=by intro _;rfl):PS X (.For tg iter body [] pos) (wr5 wi g tb):=⟨by
 intro pins s σ H D I h
 refine wpAny_For (thn (hi pins s σ H _ I h) fun v s1 h1=>thn h1 fun itv s2 h2=> ?_) hs
 obtain⟨it,fp,tn,J,H2,e,I2,T,st2,f2,W,⟨m0,w0⟩,turn⟩:=h2
 subst e
 have stat:∀{H':Hp},(∀b∈fp,H' b=none)->∀b∈fp,oR X pins H' b:=fun hn b hb=>⟨hn b hb,(f2 b hb).2⟩
 refine codeAny_forLoop_any (fun n s'=>∃i σ' H',Inv X pins σ' H' s'/\tn i s'.heap/\(∀b∈fp,H' b=none)/\W i n σ' H') ?_ m0 ⟨0,σ,H2,I2,st2,fun b hb=>(f2 b hb).1,w0⟩
 rintro n s3 ⟨i,σ3,H3,I3,st3,fr3,w3⟩
 rcases turn i n σ3 H3 w3 with ⟨stop,qn⟩|⟨go,N,hN,step⟩
 ·refine Ym hp (thn (T.done X rfl rfl rfl hc i pins s3 σ3 H3 X.xe I3 (stat fr3) st3 stop) fun r s4 ⟨hr,I4⟩=> ?_)
  subst hr
  exact YB ⟨σ3,H3,I4,qn⟩
 ·refine Ym hp (thn (T.item X rfl rfl rfl hc i pins s3 σ3 H3 X.xe I3 (stat fr3) st3 go) fun r s4 ⟨u,hr,h4⟩=> ?_)
  subst hr
  refine Ym hp (thn h4 fun _ s5 ⟨x,H5,I5,r5,y5,st5,fr5⟩=> ?_)
  have I5':=I5.pinned (stat fr5) (T.obj _ _ st5)
  refine Ym hp (thn (hg _ s5 σ3 H5 x u _ I5' r5 (step x H5 y5)) fun _ s6 ⟨σ6,H6,I6,q6⟩=> ?_)
  refine Ym hp (thn (hb _ s6 σ6 H6 _ I6 q6) fun f s7 q7=> ?_)
  have again:∀{σ7:St} {H7:Hp},Inv X (pins++wC fp s5.heap) σ7 H7 s7->N σ7 H7->∃m,m<n/\∃i σ' H',Inv X pins σ' H' s7/\tn i s7.heap/\(∀b∈fp,H' b=none)/\W i m σ' H':=fun {σ7 H7} I7 n7=>by
   obtain⟨m',hm,w7⟩:=hN σ7 H7 n7
   refine⟨m',hm,i+1,σ7,H7,I7.unpinned,T.keep _ _ _ st5 fun b hb o e=>(I7.pin (b,o) (Z8 _ (Z8 _ (rT hb e)))).1,fun b hb=> ?_,w7⟩
   obtain⟨o,e,d⟩:=T.obj _ _ st5 b hb
   exact(I7.pin (b,o) (Z8 _ (Z8 _ (rT hb e)))).2.1
  cases f with
  |next=>obtain⟨σ7,H7,I7,n7⟩:=q7;exact again I7 n7
  |cont=>obtain⟨σ7,H7,I7,n7⟩:=q7;exact again I7 n7
  |brk=>obtain⟨σ7,H7,I7,q7⟩:=q7;exact⟨σ7,H7,I7.unpinned,q7⟩
  |ret v=>obtain⟨x7,σ7,H7,I7,r7,q7⟩:=q7;exact⟨x7,σ7,H7,I7.unpinned,r7,q7⟩⟩
end
abbrev R2:=V->V->Hp->VK->Prop
def wj7(X:Cx)(f:Value->Value->Sem Value)(r:R2):Prop:=
 ∀(pins:tzB) (s:Shared) (σ:St) (H:Hp) (x y:V) (v u:Value) (Q:VK),Inv X pins σ H s->cG x v->cG y u->r x y H Q->
  wpAny (model X.prog X.w) X.A (f v u) (EP X pins σ Q) X.xe s
structure OpR(X:Cx)(f:Value->Value->Sem Value)(r:R2):Prop where
 go:wj7 X f r
instance {X:Cx} {f:Value->Value->Sem Value} {r:R2}:CoeFun (OpR X f r) fun _=>wj7 X f r:=⟨OpR.go⟩
def UnR(X:Cx)(f:Value->Sem Value)(r:V->Hp->VK->Prop):Prop:=
 ∀(pins:tzB) (s:Shared) (σ:St) (H:Hp) (x:V) (v:Value) (Q:VK),Inv X pins σ H s->cG x v->r x H Q->
  wpAny (model X.prog X.w) X.A (f v) (EP X pins σ Q) X.xe s
def xk0(X:Cx)(f:Value)(r:List V->Hp->VK->Prop):Prop:=
 ∀(pins:tzB) (s:Shared) (σ:St) (H:Hp) (xs:List V) (us:List Value) (Q:VK),Inv X pins σ H s->bJ xs us->r xs H Q->
  wpAny (model X.prog X.w) X.A (call f us) (EP X pins σ Q) X.xe s
structure CallR(X:Cx)(f:Value)(r:List V->Hp->VK->Prop):Prop where
 go:xk0 X f r
instance {X:Cx} {f:Value} {r:List V->Hp->VK->Prop}:CoeFun (CallR X f r) fun _=>xk0 X f r:=⟨CallR.go⟩
def wr6(X:Cx)(r:V->Hp->(Bool->Hp->Prop)->Prop):Prop:=
 ∀(pins:tzB) (s:Shared) (σ:St) (H:Hp) (x:V) (v:Value) (Q:Bool->Hp->Prop),Inv X pins σ H s->cG x v->r x H Q->
  wpAny (model X.prog X.w) X.A (truthy v) (TP X pins σ Q) X.xe s
def tOp(r:R2)(ta tb:TE):TE:=fun σ H Q=>ta σ H fun x H1=>tb σ H1 fun y H2=>r x y H2 Q
def tUn(r:V->Hp->VK->Prop)(ta:TE):TE:=fun σ H Q=>ta σ H fun x H1=>r x H1 Q
def rI(C:Int->Int->Prop)(g:Int->Int->V):R2:=fun x y H Q=>∃i j,x= .int i/\y= .int j/\C i j/\Q (g i j) H
def rI0(g:Int->Int->V):R2:=fun x y H Q=>∃i j,x= .int i/\y= .int j/\Q (g i j) H
def rU(g:Int->V):V->Hp->VK->Prop:=fun x H Q=>∃i,x= .int i/\Q (g i) H
section
variable{X:Cx}{a b c:Expr}{ta tb tc:TE}{pos:Pos}
theorem xk9(ha:PE X a ta)(hb:PE X b tb){pins:tzB}{s:Shared}{σ:St}{H:Hp}{R:V->V->Hp->Prop}(I:Inv X pins σ H s)
  (h:ta σ H fun x H1=>tb σ H1 fun y H2=>R x y H2) {Q:Value->Shared->Prop} {f:Value->Value->Sem Value}
  (hf:∀v u s2 x y H2,Inv X pins σ H2 s2->cG x v->cG y u->R x y H2->wpAny (model X.prog X.w) X.A (f v u) Q X.xe s2):
  wpAny (model X.prog X.w) X.A (eval a X.env) (fun v s₁=>wpAny (model X.prog X.w) X.A (eval b X.env) (fun u s₂=>wpAny (model X.prog X.w) X.A (f v u) Q X.xe s₂) X.xe s₁) X.xe s:=by
 refine thn (ha pins s σ H _ I h) fun v s1 ⟨x,H1,I1,r1,q1⟩=> ?_
 refine thn (hb pins s1 σ H1 _ I1 q1) fun u s2 ⟨y,H2,I2,r2,q2⟩=> ?_
 exact hf v u s2 x y H2 I2 r1 r2 q2
theorem gJ{op:Operator}{r:R2}(ho:OpR X (binaryOp op) r)(ha:PE X a ta)(hb:PE X b tb):PE X (.BinOp a op b pos) (tOp r ta tb):=⟨by
 intro pins s σ H Q I h
 exact wpAny_BinOp (xk9 ha hb I h fun v u s2 x y H2 I2 rx ry q=>ho pins s2 σ H2 x y v u Q I2 rx ry q)⟩
theorem wl7{op:UnaryOp}{r:V->Hp->VK->Prop}(ho:UnR X (unaryOp op) r)(ha:PE X a ta):PE X (.UnaryOp op a pos) (tUn r ta):=⟨by
 intro pins s σ H Q I h
 exact UnaryOp_ (thn (ha pins s σ H _ I h) fun v s1 ⟨x,H1,I1,r1,q1⟩=>ho pins s1 σ H1 x v Q I1 r1 q1)⟩
theorem opI{f:Value->Value->Sem Value}{C:Int->Int->Prop}{g:Int->Int->Int}
  (rule:∀(i j:Int) (t u:Tok) (s:Shared) (Q:Value->Shared->Prop) (E:Value->Shared->Prop),C i j->Q (.int (g i j) s.toks) {s with toks:=s.toks+1}->wpAny (model X.prog X.w) X.A (f (.int i t) (.int j u)) Q E s):
  OpR X f (rI C fun i j=> .int (g i j)):=⟨by
 intro pins s σ H x y v u Q I rx ry h
 obtain⟨i,j,rfl,rfl,hc,q⟩:=h
 obtain⟨t,rfl⟩:=rx
 obtain⟨t',rfl⟩:=ry
 exact rule i j t t' s _ _ hc ⟨.int (g i j),H,I.tok _,⟨_,rfl⟩,q⟩⟩
theorem xl0{f:Value->Value->Sem Value}{g:Int->Int->Int}
  (rule:∀(i j:Int) (t u:Tok) (s:Shared) (Q:Value->Shared->Prop) (E:Value->Shared->Prop),Q (.int (g i j) s.toks) {s with toks:=s.toks+1}->wpAny (model X.prog X.w) X.A (f (.int i t) (.int j u)) Q E s):
  OpR X f (rI0 fun i j=> .int (g i j)):=⟨by
 intro pins s σ H x y v u Q I rx ry h
 obtain⟨i,j,rfl,rfl,q⟩:=h
 obtain⟨t,rfl⟩:=rx
 obtain⟨t',rfl⟩:=ry
 exact rule i j t t' s _ _ ⟨.int (g i j),H,I.tok _,⟨_,rfl⟩,q⟩⟩
theorem yr5{f:Value->Value->Sem Value}{g:Int->Int->Bool}
  (rule:∀(i j:Int) (t u:Tok) (s:Shared) (Q:Value->Shared->Prop) (E:Value->Shared->Prop),Q (.bool (g i j)) s->wpAny (model X.prog X.w) X.A (f (.int i t) (.int j u)) Q E s):
  OpR X f (rI0 fun i j=> .bl (g i j)):=⟨by
 intro pins s σ H x y v u Q I rx ry h
 obtain⟨i,j,rfl,rfl,q⟩:=h
 obtain⟨t,rfl⟩:=rx
 obtain⟨t',rfl⟩:=ry
 exact rule i j t t' s _ _ ⟨.bl (g i j),H,I,rfl,q⟩⟩
def wr7(i j:Int):Prop:=0<j/\j<1073741824
def xr7(i j:Int):Prop:=(-(2^64)<i/\i<2^64)\/(-(2^64)<j/\j<2^64)
theorem xr7.ok{i j:Int}(h:xr7 i j):IntMulOk i j:=by
 rcases h with ⟨h1,h2⟩|⟨h1,h2⟩
 ·exact .of_left (intBits_le_64 h1 h2)
 ·exact .of_right (intBits_le_64 h1 h2)
theorem yr6(k:Nat):(0:Int)<=2^k:=by
 rw [two_pow_cast]
 exact Int.natCast_nonneg _
theorem vO:OpR X (binaryOp .Add) (rI0 fun i j=> .int (i+j)):=xl0 fun _ _ _ _ _ _ _ q=>add_int q
theorem wd4:OpR X (binaryOp .Sub) (rI0 fun i j=> .int (i-j)):=xl0 fun _ _ _ _ _ _ _ q=>sub_int q
theorem oE:OpR X (binaryOp .Mult) (rI xr7 fun i j=> .int (i*j)):=opI fun _ _ _ _ _ _ _ hc q=>mul_int q hc.ok
theorem yl6:OpR X (binaryOp .FloorDiv) (rI wr7 fun i j=> .int (i/j)):=opI fun i j _ _ _ _ _ hc q=>by
 have h1:(0:Int)<j:=hc.1
 have h2:j<1073741824:=hc.2
 exact floordiv_int (by omega) (by rw [XL i (by omega)];exact q) (.inl (PyProof.noPylong_small (by omega)))
theorem zj1:OpR X (binaryOp .Mod) (rI (fun _ j=>0<j) fun i j=> .int (i % j)):=opI fun i j _ _ _ _ _ hc q=>by
 have h1:(0:Int)<j:=hc
 exact mod_int' (by omega) (by rw [Int.fmod_eq_emod_of_nonneg i (by omega)];exact q)
theorem wd5:OpR X (binaryOp .RShift) (rI (fun _ j=>0<=j) fun i j=> .int (i/2^j.toNat)):=opI fun i j _ _ _ _ _ hc q=>
 rshift_int hc (by rw [XL i (yr6 _)];exact q)
theorem yz9:OpR X (binaryOp .BitAnd) (rI0 fun i j=> .int (Builtin.bitAnd i j)):=xl0 fun _ _ _ _ _ _ _ q=>and_int q
theorem unI{f:Value->Sem Value}{g:Int->Int}
  (rule:∀(i:Int) (t:Tok) (s:Shared) (Q:Value->Shared->Prop) (E:Value->Shared->Prop),Q (.int (g i) s.toks) {s with toks:=s.toks+1}->wpAny (model X.prog X.w) X.A (f (.int i t)) Q E s):
  UnR X f (rU fun i=> .int (g i)):=by
 intro pins s σ H x v Q I rx h
 obtain⟨i,rfl,q⟩:=h
 obtain⟨t,rfl⟩:=rx
 exact rule i t s _ _ ⟨.int (g i),H,I.tok _,⟨_,rfl⟩,q⟩
theorem wd6:UnR X (unaryOp .USub) (rU fun i=> .int (-i)):=unI fun _ _ _ _ _ q=>neg_int q
end
def wj8:V->V->Bool
 | .non,.non=>true| .non,.int _=>true| .int _,.non=>true| .non,.bl _=>true| .bl _,.non=>true| .non,.str _=>true| .str _,.non=>true
 | .int _,.int _=>true| .bl _,.bl _=>true| .str _,.str _=>true| .byt _,.byt _=>true
 | .int _,.str _=>true| .str _,.int _=>true| .bl _,.str _=>true| .str _,.bl _=>true
 |_,_=>false
def rEq:R2:=fun x y H Q=>wj8 x y=true/\Q (.bl (decide (x=y))) H
def rNe:R2:=fun x y H Q=>wj8 x y=true/\Q (.bl (!decide (x=y))) H
theorem yl7{i j:Int}:decide (V.int i=V.int j)=(i==j):=by
 rw [YJ]
 simp
theorem xa0{i j:Bool}:decide (V.bl i=V.bl j)=(i==j):=by
 rw [YJ]
 simp
theorem yl8{i j:Str}:decide (V.str i=V.str j)=(i==j):=by
 rw [YJ]
 simp
theorem yl9{i j:Array UInt8}:decide (V.byt i=V.byt j)=(i.toList==j.toList):=by
 rw [YJ]
 cases i
 cases j
 simp
section
variable{X:Cx}{a b c:Expr}{ta tb tc:TE}{pos:Pos}
theorem dF{pins:tzB}{σ:St}{H:Hp}{s:Shared}{Q:VK}{k k':Bool}(I:Inv X pins σ H s)(q:Q (.bl k) H)(e:k=k'):EP X pins σ Q (.bool k') s:=by
 subst e
 exact⟨.bl k,H,I,rfl,q⟩
theorem yr7:OpR X (compareOp .Eq) rEq:=⟨by
 intro pins s σ H x y v u Q I rx ry h
 obtain⟨hs,q⟩:=h
 cases x with
 |non=>
  cases rx
  cases y with
  |non=>cases ry;exact PySem.EqNone.eq_none_none (dF I q (by simp))
  |bl j=>cases ry;exact PySem.EqNone.eq_none_bool (dF I q (by simp))
  |int j=>obtain⟨t',rfl⟩:=ry;exact PySem.EqNone.eq_none_int (dF I q (by simp))
  |str j=>obtain⟨t',rfl⟩:=ry;exact PySem.EqNone.eq_none_str (dF I q (by simp))
  |_=>exact absurd (show false=true from hs) Z7
 |bl i=>
  cases rx
  cases y with
  |non=>cases ry;exact PySem.EqNone.eq_bool_none (dF I q (by simp))
  |bl j=>cases ry;exact eq_bool (dF I q xa0)
  |str j=>obtain⟨t',rfl⟩:=ry;exact PySem.EqMixed.eq_bool_str (dF I q (by simp))
  |_=>exact absurd (show false=true from hs) Z7
 |int i=>
  obtain⟨t,rfl⟩:=rx
  cases y with
  |non=>cases ry;exact PySem.EqNone.eq_int_none (dF I q (by simp))
  |int j=>obtain⟨t',rfl⟩:=ry;exact eq_int (dF I q yl7)
  |str j=>obtain⟨t',rfl⟩:=ry;exact PySem.EqMixed.eq_int_str (dF I q (by simp))
  |_=>exact absurd (show false=true from hs) Z7
 |str i=>
  obtain⟨t,rfl⟩:=rx
  cases y with
  |non=>cases ry;exact PySem.EqNone.eq_str_none (dF I q (by simp))
  |bl j=>cases ry;exact PySem.EqMixed.eq_str_bool (dF I q (by simp))
  |int j=>obtain⟨t',rfl⟩:=ry;exact PySem.EqMixed.eq_str_int (dF I q (by simp))
  |str j=>obtain⟨t',rfl⟩:=ry;exact eq_str (dF I q yl8)
  |_=>exact absurd (show false=true from hs) Z7
 |byt i=>
  obtain⟨t,rfl⟩:=rx
  cases y with
  |byt j=>obtain⟨t',rfl⟩:=ry;exact PySem.W.eq_bytes (dF I q yl9)
  |_=>exact absurd (show false=true from hs) Z7
 |_=>cases y<;>exact absurd (show false=true from hs) Z7⟩
theorem xt2:OpR X (compareOp .NotEq) rNe:=⟨by
 intro pins s σ H x y v u Q I rx ry h
 obtain⟨hs,q⟩:=h
 cases x with
 |non=>
  cases rx
  cases y with
  |non=>cases ry;exact PySem.EqNone.ne_none_none (dF I q (by simp))
  |bl j=>cases ry;exact PySem.EqNone.ne_none_bool (dF I q (by simp))
  |int j=>obtain⟨t',rfl⟩:=ry;exact PySem.EqNone.ne_none_int (dF I q (by simp))
  |str j=>obtain⟨t',rfl⟩:=ry;exact PySem.EqNone.ne_none_str (dF I q (by simp))
  |_=>exact absurd (show false=true from hs) Z7
 |bl i=>
  cases rx
  cases y with
  |non=>cases ry;exact PySem.EqNone.ne_bool_none (dF I q (by simp))
  |bl j=>cases ry;exact ne_bool (dF I q (ZN not xa0))
  |str j=>obtain⟨t',rfl⟩:=ry;exact PySem.EqMixed.ne_bool_str (dF I q (by simp))
  |_=>exact absurd (show false=true from hs) Z7
 |int i=>
  obtain⟨t,rfl⟩:=rx
  cases y with
  |non=>cases ry;exact PySem.EqNone.ne_int_none (dF I q (by simp))
  |int j=>obtain⟨t',rfl⟩:=ry;exact ne_int (dF I q (ZN not yl7))
  |str j=>obtain⟨t',rfl⟩:=ry;exact PySem.EqMixed.ne_int_str (dF I q (by simp))
  |_=>exact absurd (show false=true from hs) Z7
 |str i=>
  obtain⟨t,rfl⟩:=rx
  cases y with
  |non=>cases ry;exact PySem.EqNone.ne_str_none (dF I q (by simp))
  |bl j=>cases ry;exact PySem.EqMixed.ne_str_bool (dF I q (by simp))
  |int j=>obtain⟨t',rfl⟩:=ry;exact PySem.EqMixed.ne_str_int (dF I q (by simp))
  |str j=>obtain⟨t',rfl⟩:=ry;exact ne_str (dF I q (ZN not yl8))
  |_=>exact absurd (show false=true from hs) Z7
 |byt i=>
  obtain⟨t,rfl⟩:=rx
  cases y with
  |byt j=>obtain⟨t',rfl⟩:=ry;exact PySem.W.ne_bytes (dF I q (ZN not yl9))
  |_=>exact absurd (show false=true from hs) Z7
 |_=>cases y<;>exact absurd (show false=true from hs) Z7⟩
theorem wl8:OpR X (compareOp .Lt) (rI0 fun i j=> .bl (decide (i<j))):=yr5 fun _ _ _ _ _ _ _ q=>lt_int q
theorem wl9:OpR X (compareOp .LtE) (rI0 fun i j=> .bl (decide (i<=j))):=yr5 fun _ _ _ _ _ _ _ q=>le_int q
theorem wm0:OpR X (compareOp .Gt) (rI0 fun i j=> .bl (decide (j<i))):=yr5 fun _ _ _ _ _ _ _ q=>gt_int q
theorem wm1:OpR X (compareOp .GtE) (rI0 fun i j=> .bl (decide (j<=i))):=yr5 fun _ _ _ _ _ _ _ q=>ge_int q
theorem wd7:OpR X (compareOp .Is) (fun x y H Q=>y= .non/\Q (.bl (decide (x= .non))) H):=⟨by
 intro pins s σ H x y v u Q I rx ry h
 obtain⟨rfl,q⟩:=h
 cases ry
 refine is_none_gen (dF I q ?_)
 cases x<;>first
  |(cases rx;rfl)
  |(obtain⟨t,rfl⟩:=rx;rfl)⟩
theorem xv5:OpR X (compareOp .IsNot) (fun x y H Q=>y= .non/\Q (.bl (!decide (x= .non))) H):=⟨by
 intro pins s σ H x y v u Q I rx ry h
 obtain⟨rfl,q⟩:=h
 cases ry
 refine isnot_none_gen (dF I q ?_)
 cases x<;>first
  |(cases rx;rfl)
  |(obtain⟨t,rfl⟩:=rx;rfl)⟩
theorem bH(b:Expr){op:CmpOp}(h:op≠ .In:=by decide)(h2:op≠ .NotIn:=by decide):behindInMarks op b=false:=by
 have e1:(op==CmpOp.In)=false:=by cases op<;>first|rfl|exact absurd rfl h
 have e2:(op==CmpOp.NotIn)=false:=by cases op<;>first|rfl|exact absurd rfl h2
 cases b<;>simp [behindInMarks,e1,e2]
theorem xv6{op:CmpOp}{r:R2}(ho:OpR X (compareOp op) r)(ha:PE X a ta)(hb:PE X b tb)(hm:behindInMarks op b=false):PE X (.Compare a [op] [b] pos) (tOp r ta tb):=⟨by
 intro pins s σ H Q I h
 exact wpAny_Compare1 (xk9 ha hb I h fun v u s2 x y H2 I2 rx ry q=>ho pins s2 σ H2 x y v u Q I2 rx ry q) hm⟩
def xu5(t:TE):TT:=fun σ H Q=>t σ H fun x H'=>∃k,x= .bl k/\Q k H'
theorem ym0{op:CmpOp}{r:R2}(ho:OpR X (compareOp op) r)(ha:PE X a ta)(hb:PE X b tb)(hm:behindInMarks op b=false):PT X (.Compare a [op] [b] pos) (xu5 (tOp r ta tb)):=⟨by
 intro pins s σ H Q I h
 refine wpAny_isTrue_Compare1 (thn (ha pins s σ H _ I h) fun v s1 ⟨x,H1,I1,r1,q1⟩=>thn (hb pins s1 σ H1 _ I1 q1) fun u s2 ⟨y,H2,I2,r2,q2⟩=>
  thn (ho pins s2 σ H2 x y v u _ I2 r1 r2 q2) fun c s3 ⟨z,H3,I3,r3,k,e,q3⟩=> ?_) hm
 subst e
 cases r3
 exact ZR ⟨H3,I3,q3⟩⟩
def xk1(r r':R2)(ta tb tc:TE):TE:=fun σ H Q=>ta σ H fun x H1=>tb σ H1 fun y H2=>r x y H2 fun z H3=>∃k,z= .bl k/\
 (if k=true then tc σ H3 fun w' H4=>r' y w' H4 Q else Q (.bl false) H3)
theorem xl1{op op':CmpOp}{r r':R2}(ho:OpR X (compareOp op) r)(ho':OpR X (compareOp op') r')(ha:PE X a ta)(hb:PE X b tb)(hc:PE X c tc)
  (hm:lastMarks [op,op'] [b,c]=false:=by with_unfolding_all rfl):PT X (.Compare a [op,op'] [b,c] pos) (xu5 (xk1 r r' ta tb tc)):=⟨by
 intro pins s σ H Q I h
 refine isTrue_chain (thn (ha pins s σ H _ I h) fun v s1 ⟨x,H1,I1,r1,q1⟩=>test_link (thn (hb pins s1 σ H1 _ I1 q1) fun u s2 ⟨y,H2,I2,r2,q2⟩=>
  thn (ho pins s2 σ H2 x y v u _ I2 r1 r2 q2) fun d s3 ⟨z,H3,I3,r3,k,e,q3⟩=> ?_)) hm
 subst e
 cases r3
 refine ZR ?_
 cases k with
 |false=>
  obtain⟨k',e',q'⟩:=q3
  cases e'
  exact ite_ff ⟨H3,I3,q'⟩
 |true=>
  refine ite_tt (test_last (thn (hc pins s3 σ H3 _ I3 q3) fun w' s4 ⟨z',H4,I4,r4,q4⟩=>thn (ho' pins s4 σ H4 y z' u w' _ I4 r2 r4 q4) fun d' s5 ⟨z2,H5,I5,r5,k2,e2,q5⟩=> ?_))
  subst e2
  cases r5
  exact ZR ⟨H5,I5,q5⟩⟩
def xr8(K:tz0)(x:V)(H:Hp)(k:Bool):Prop:=
 match x with
 | .non=>k=false
 | .bl b=>k=b
 | .int i=>k=(i !=0)
 | .str y=>y.length<=sizeLine/\k=((y.length:Int) !=0)
 | .byt y=>y.size<=sizeLine/\k=((y.size:Int) !=0)
 | .ref p=>(∃xs,SqL K H p xs/\k= !xs.isEmpty)\/(∃xs,SqT K H p xs/\k= !xs.isEmpty)\/∃kvs,H p=some (.dK kvs)/\k= !kvs.isEmpty
 |_=>False
theorem yr8{U:Type}{kvs:List (U×V)}{vs:List (U×Value)}(r:KV kvs vs):(!vs.isEmpty)= !kvs.isEmpty:=by
 cases r<;>rfl
theorem zj2{xs:List V}{its:List Value}(r:bJ xs its):(!its.toArray.isEmpty)= !xs.isEmpty:=by
 cases r<;>simp
theorem sT:(sizeLine:Nat)<2^63:=by rw [Y6];decide
theorem wd8:wr6 X (fun x H Q=>∃k,xr8 X.K x H k/\Q k H):=by
 intro pins s σ H x v Q I rx h
 obtain⟨k,e,q⟩:=h
 have hl:=sT
 have hs:sizeLine=16777216:=Y6
 cases x with
 |non=>
  cases rx
  have e':k=false:=e
  subst e'
  exact truthy_none ⟨H,I,q⟩
 |bl b=>
  cases rx
  have e':k=b:=e
  subst e'
  exact ZR ⟨H,I,q⟩
 |int i=>
  obtain⟨t,rfl⟩:=rx
  have e':k=(i !=0):=e
  subst e'
  exact PySem.P.truthy_int ⟨H,I,q⟩
 |str y=>
  obtain⟨t,rfl⟩:=rx
  obtain⟨hy,e'⟩:y.length<=sizeLine/\k=((y.length:Int) !=0):=e
  subst e'
  exact PySem.P.truthy_str (by omega) ⟨H,I.tok _,q⟩
 |byt y=>
  obtain⟨t,rfl⟩:=rx
  obtain⟨hy,e'⟩:y.size<=sizeLine/\k=((y.size:Int) !=0):=e
  subst e'
  exact PySem.W.truthy_bytes (by omega) ⟨H,I.tok _,q⟩
 | ref p=>
  cases rx
  have e':(∃xs,SqL X.K H p xs/\k= !xs.isEmpty)\/(∃xs,SqT X.K H p xs/\k= !xs.isEmpty)\/∃kvs,H p=some (.dK kvs)/\k= !kvs.isEmpty:=e
  rcases e' with ⟨xs,hx,e'⟩|⟨xs,hx,e'⟩|⟨kvs,hx,e'⟩
  ·subst e'
   obtain⟨its,r,pl,hz⟩:=I.list hx
   have hlen:=r.length
   exact wpAny_truthy_list pl.isList (by simp only [Zo];omega) ⟨H,I.tok _,by rw [zj2 r];exact q⟩
  ·subst e'
   obtain⟨its,r,pl,hz⟩:=I.tuple hx
   have hlen:=r.length
   exact truthy_tuple pl (by simp only [Zo];omega) ⟨H,I.tok _,by rw [zj2 r];exact q⟩
  ·subst e'
   obtain⟨hz,hS,vs,r,m⟩:kvs.length<=sizeLine/\(p==sysModules)=false/\∃vs,KV kvs vs/\s.heap.DictOf (eQ X.prog X.w) p vs:=I.hok p _ hx
   have hlen:kvs.length=vs.length:=ZI r
   exact wpAny_truthy_dict hS m (by omega) ⟨H,I.tok _,by rw [yr8 r];exact q⟩
 |_=>exact(show False from e).elim
theorem yb0(ha:PE X a ta)(he:∀whole,isTrue a X.env whole=(do let v<-whole;standAt a.pos;holding [v] (truthy v))):
  PT X a (fun σ H Q=>ta σ H fun x H'=>∃k,xr8 X.K x H' k/\Q k H'):=⟨by
 intro pins s σ H Q I h
 exact isTrue_plain (thn (ha pins s σ H _ I h) fun v s1 ⟨x,H1,I1,r1,q1⟩=>wd8 pins s1 σ H1 x v Q I1 r1 q1) (he _)⟩
theorem yr9:OpR X (binaryOp .Add) (fun x y H Q=>∃i j,x= .str i/\y= .str j/\i.length+j.length<=sizeLine/\Q (.str (i++j)) H):=⟨by
 intro pins s σ H x y v u Q I rx ry h
 obtain⟨i,j,rfl,rfl,hz,q⟩:=h
 obtain⟨t,rfl⟩:=rx
 obtain⟨t',rfl⟩:=ry
 exact add_str (fun t' tk=>⟨.str (i++j),H,I.tok _,⟨_,rfl⟩,q⟩) hz⟩
theorem oF{x:V}{us:List Value}(r:bJ [x] us):∃u,us=[u]/\cG x u:=by
 cases r with
 |cons r1 r2=>cases r2;exact⟨_,rfl,r1⟩
theorem ys0{x y:V}{us:List Value}(r:bJ [x,y] us):∃u w',us=[u,w']/\cG x u/\cG y w':=by
 cases r with
 |cons r1 r2=>
  cases r2 with
  |cons r3 r4=>cases r4;exact⟨_,_,rfl,r1,r3⟩
theorem zt1(hc:X.calm=true):CallR X (.builtin "max") (fun xs H Q=>∃i j,xs=[.int i,.int j]/\Q (.int (if j>i then j else i)) H):=⟨by
 intro pins s σ H xs us Q I r h
 obtain⟨i,j,rfl,q⟩:=h
 obtain⟨u,w',rfl,⟨t,rfl⟩,⟨t',rfl⟩⟩:=ys0 r
 refine max_two_ints (I.ok.hd hc) fun h' tk k=>⟨_,H,I.kept k,?_,q⟩
 by_cases hj:j>i
 ·rw [if_pos hj,if_pos hj];exact⟨_,rfl⟩
 ·rw [if_neg hj,if_neg hj];exact⟨_,rfl⟩⟩
end
structure ObjM(h:Heap)(x dx C:Addr)(mA:tzA):Prop where
 obj:h.get? x=some (PySem.W.instObj C dx)
 ns:h.Ns1 dx mA
 ne:dx≠x
theorem xa1{h:Heap}{dx:Addr}{mA:tzA}(n:h.Ns1 dx mA):∃od,h.get? dx=some od/\∀name,PySem.W.lookIn name od=some (mA name):=by
 obtain⟨o,es,ep,ho,hd,hk,_,hm⟩:=n
 refine⟨o,ho,fun name=> ?_⟩
 have e:=hm name
 unfold nsFind findBy at e
 rw [<-Array.find?_toList] at e
 unfold PySem.W.lookIn
 rw [hd]
 dsimp only
 split
 ·rename_i y q
  rw [q] at e
  exact ZN some e
 ·rename_i q
  rw [q] at e
  have a:es.toList.any (·.refKey)=false:=by
   rw [List.any_eq_false]
   intro y hy
   obtain⟨z,t,hkey⟩:=hk y (Array.mem_toList_iff.mp hy)
   simp [DictEntry.refKey,hkey]
  have a':¬es.toList.any (·.refKey)=true:=by rw [a];exact Z7
  rw [if_neg a']
  exact ZN some e
theorem ObjM.look{h:Heap}{x dx C:Addr}{mA:tzA}(I:ObjM h x dx C mA):∃od,PySem.W.InstAt h x (PySem.W.instObj C dx) C (some od)/\∀name,PySem.W.lookIn name od=some (mA name):=
 let ⟨od,ho,hl⟩:=xa1 I.ns
 ⟨od,⟨I.obj,rfl,rfl,ho⟩,hl⟩
section
variable{prog:Program}{w:World}{A:Around}{E:Value->Shared->Prop}{s:Shared}{K:tz0}{x dx C f:Addr}{mA:tzA}{name:Str}{v:Value}
theorem ym1{expr:Bool}{Q:Value->Shared->Prop}(X:K.In s.heap)(I:ObjM s.heap x dx C mA)(hg:PySem.W.plainGet K C name=true)(hh:PySem.W.hasDictIn K C=true)
  (ha:PySem.W.findIn K (.ref C) name=some none) (hv:mA name=some v) (hv':PySem.W.handedIn v=true) (h:Q v {s with toks:=s.toks+1}):
  wpAny (model prog w) A (getAttr (.ref x) name expr) Q E s:=by
 obtain⟨od,J,hl⟩:=I.look
 exact PySem.W.get_value X J (Xc hg).1 (PySem.W.findObj_own hh ha rfl (by rw [hl,hv])) hv' h
theorem yb1{pl:Sem Bool}{Q:Value×List Value->Shared->Prop}(X:K.In s.heap)(I:ObjM s.heap x dx C mA)(hg:PySem.W.plainGet K C name=true)
  (hf:PySem.W.findIn K (.ref C) name=some (some (.ref f))) (ht:PySem.W.isFn K (.ref f)=true) (hv:mA name=none) (h:Q (.ref f,[.ref x]) s):
  wpAny (model prog w) A (getMethod (.ref x) name pl) Q E s:=by
 obtain⟨od,J,hl⟩:=I.look
 exact PySem.W.method_fn X J (Xc hg).1 (Xc hg).2 hf (YF.mp ht) (by show(PySem.W.lookIn name od).map (·.isSome)=some false;rw [hl,hv];rfl) h
theorem xv7{ns:List Str}{Q:Unit->Shared->Prop}(X:K.In s.heap)(I:ObjM s.heap x dx C mA)
  (hs:PySem.W.findIn K (.ref C) "__setattr__"=some (some (.builtin "object.__setattr__"))) (hp:PySem.W.plainOver K C=true) (ht:PySem.W.takerIn K C name=some none) (hh:PySem.W.hasDictIn K C=true)
  (hw:PySem.Within mA ns) (hsz:ns.length<=sizeLine)
  (h:∀h',ObjM h' x dx C (fun y=>if y=name then some v else mA y)->Heap.SameBut dx s.heap h'->Q () {s with heap:=h',toks:=s.toks+2}):
  wpAny (model prog w) A (setAttr (.ref x) name v) Q E s:=by
 obtain⟨od,J,hl⟩:=I.look
 refine PySem.W.set_plain X J hs (PySem.W.osa_open (s:={s with toks:=s.toks+1}) (r:=none) X J hp ht fun b=> ?_)
 obtain⟨cd,hc,hd'⟩:=PySem.W.any_some hh
 have hx:s.heap.get? x=some ⟨.ref C,some dx,.plain,#[]⟩:=I.obj
 refine Zf (ZD (Zf (Zf (wpAny_loadPart hx (Zf (PySem.W.Looks.here (s:={s with toks:=s.toks+1}) (PySem.W.looks_clsIn X hc) ?_))))))
 rw [hd']
 refine ZD (a:=some dx) (Zf (ZD (Zf ?_)))
 refine wpAny_nsSet1 (s:={s with toks:=s.toks+1}) I.ns fun h' hn2 hs2=> ?_
 obtain⟨oD,esD,epD,hoD,hdD,hcD⟩:=hn2.count (PySem.Within.cons name v hw)
 refine Zf (wpAny_lookBehind hoD (by rw [hdD];exact pastItsLine_dict (Zt hcD (by rw [Z6];omega))) ?_)
 exact ZD (h _ ⟨(hs2.2 _ (Y8 I.ne)).trans I.obj,hn2,I.ne⟩ hs2)
theorem xl2{R:Result->Shared->Prop}{vs:List Value}{kw:List (Str×Value)}(X:K.In s.heap)(hm:PySem.W.makesIn K C=true)
  (hi:PySem.W.findIn K (.ref C) "__init__"=some (some (.ref f))) (hf:PySem.W.typeIn K (.ref f)=some (.type "function"))
  (h:codeAny (model prog w) (A.under (.builtin "type.__call__" ⟨.ref C::vs,kw⟩)) (.call (.ref f) ⟨.ref (s.heap.objs.size+1)::vs,kw⟩) (PySem.W.InitBack (s.heap.objs.size+1) R)
   {s with heap:=(s.heap.push PySem.W.emptyDict).push (PySem.W.instObj C s.heap.objs.size)}):
  codeAny (model prog w) A (.call (.ref C) ⟨vs,kw⟩) R s:=by
 obtain⟨hh,g,d,t,os⟩:=s
 exact PySem.W.make_core (PySem.W.makes_of X hm) (PySem.W.looks_findIn X hi) (fun self=>PySem.W.bind_fn X self hf) (.inl rfl) h
end
def gS(f:Str)(v:V):List (Str×V)->List (Str×V)
 |[]=>[(f,v)]
 |(g,x)::r=>if g=f then(g,v)::r else(g,x)::gS f v r
theorem zf9(f g:Str)(v:V):∀fs:List (Str×V),(gS f v fs).lookup g=if g=f then some v else fs.lookup g
 | []=>by
  show List.lookup g [(f,v)]=_
  by_cases h:g=f
  ·have hb:(g==f)=true:=YF.mpr h
   simp only [List.lookup,hb,if_pos h]
  ·have hb:(g==f)=false:=Yb.mpr h
   simp only [List.lookup,hb,if_neg h]
 | (k,x)::r=>by
  have ih:=zf9 f g v r
  rw [show gS f v ((k,x)::r)=(if k=f then(k,v)::r else(k,x)::gS f v r) from rfl]
  by_cases hk:k=f
  ·rw [if_pos hk]
   by_cases h:g=k
   ·have hb:(g==k)=true:=YF.mpr h
    simp only [List.lookup,hb,if_pos (h.trans hk)]
   ·have hb:(g==k)=false:=Yb.mpr h
    simp only [List.lookup,hb,if_neg (fun e:g=f=>h (e.trans hk.symm))]
  ·rw [if_neg hk]
   by_cases h:g=k
   ·have hb:(g==k)=true:=YF.mpr h
    simp only [List.lookup,hb,if_neg (fun e:g=f=>hk (h.symm.trans e))]
   ·have hb:(g==k)=false:=Yb.mpr h
    simp only [List.lookup,hb]
    exact ih
theorem zB(f:Str)(v:V):∀fs:List (Str×V),f∈(gS f v fs).map (·.1)/\∀g,g∈fs.map (·.1)->g∈(gS f v fs).map (·.1)
 |[]=>⟨by simp [gS],fun g h=>by simp at h⟩
 | (k,x)::r=>by
  obtain⟨i1,i2⟩:=zB f v r
  rw [show gS f v ((k,x)::r)=(if k=f then(k,v)::r else(k,x)::gS f v r) from rfl]
  by_cases hk:k=f
  ·rw [if_pos hk]
   subst hk
   exact⟨by simp,fun g h=>by simpa using h⟩
  ·rw [if_neg hk]
   refine⟨?_,fun g h=> ?_⟩
   ·rw [Z9]
    exact Z1 _ i1
   ·rw [Z9] at h|-
    rcases Z4.mp h with e|e
    ·exact Z4.mpr (.inl e)
    ·exact Z1 _ (i2 g e)
theorem zg0(f:Str)(v:V):∀fs:List (Str×V),(gS f v fs).length<=fs.length+1
 |[]=>by simp [gS]
 |(k,x)::r=>by
  have ih:=zg0 f v r
  rw [show gS f v ((k,x)::r)=(if k=f then(k,v)::r else(k,x)::gS f v r) from rfl]
  by_cases hk:k=f
  ·rw [if_pos hk,Z6,Z6];omega
  ·rw [if_neg hk,Z6,Z6];omega
theorem kL.some_of{v:V}{o:Option Value}(r:kL (some v) o):∃u,o=some u/\cG v u:=by
 cases o with
 |none=>exact(show False from r).elim
 |some u=>exact⟨u,rfl,r⟩
theorem kL.none_of{o:Option Value}(r:kL none o):o=none:=by
 cases o with
 |none=>rfl
 |some u=>exact(show False from r).elim
theorem zt2{v:V}{u:Value}(r:cG v u):PySem.W.handedIn u=true:=by
 cases v with
 |non=>cases(show u=Value.none from r);rfl
 |bl b=>cases(show u=Value.bool b from r);rfl
 |int i=>obtain⟨t,e⟩:=(show ∃t,u=Value.int i t from r);cases e;rfl
 |str x=>obtain⟨t,e⟩:=(show ∃t,u=Value.str x t from r);cases e;rfl
 |byt b=>obtain⟨t,e⟩:=(show ∃t,u=Value.bytes b t from r);cases e;rfl
 |flt b=>obtain⟨t,e⟩:=(show ∃t,u=Value.float b t from r);cases e;rfl
 |ref a=>cases(show u=Value.ref a from r);rfl
 |ty n=>cases(show u=Value.type n from r);rfl
section
variable{P:Program}{w:World}{H H':Hp}{h h':Heap}{a C dx:Addr}{fs fs':List (Str×V)}
theorem zc3(hok:HOk P w H h)(e:H a=some (.ins C dx fs)):∃mA,ObjM h a dx C mA/\(∀f,kL (fs.lookup f) (mA f))/\PySem.Within mA (fs.map (·.1))/\fs.length<=1000/\H dx=some (.own a):=by
 obtain⟨d,z,ne,ob,mA,n,r,q⟩:=(show dH P w H h a (.ins C dx fs) from hok a _ e)
 exact⟨mA,⟨ob,n,ne⟩,r,q,z,d⟩
end
structure Cls(K:tz0)(C:Addr):Prop where
 pg:PySem.W.plainGet K C Str.empty=true
 hd:PySem.W.hasDictIn K C=true
 po:PySem.W.plainOver K C=true
 sa:PySem.W.findIn K (.ref C) "__setattr__"=some (some (.builtin "object.__setattr__"))
theorem Cls.get{K:tz0}{C:Addr}(c:Cls K C)(f:Str):PySem.W.plainGet K C f=true:=c.pg
def cD(K:tz0)(C:Addr)(f:Str):Prop:=PySem.W.findIn K (.ref C) f=some none
theorem cD.taker{K:tz0}{C:Addr}{f:Str}(n:cD K C f):PySem.W.takerIn K C f=some none:=by
 unfold PySem.W.takerIn
 rw [show PySem.W.findIn K (.ref C) f=some none from n]
 rfl
structure Meth(K:tz0)(C:Addr)(m:Str)(f:Addr):Prop where
 at_:PySem.W.findIn K (.ref C) m=some (some (.ref f))
 fn:PySem.W.isFn K (.ref f)=true
 kp:PySem.W.keepIn K (.ref f)=true
section
variable{X:Cx}{pins:tzB}{σ:St}{H:Hp}{s:Shared}{a C dx:Addr}{fs:List (Str×V)}{f:Str}{v:V}{A:Around}{E:Value->Shared->Prop}
theorem ys1{b:Bool}{Q:Value->Shared->Prop}(I:Inv X pins σ H s)(e:H a=some (.ins C dx fs))(c:Cls X.K C)(n:cD X.K C f)(l:fs.lookup f=some v)
  (h:∀u s',Inv X pins σ H s'->cG v u->Q u s'):wpAny (model X.prog X.w) A (getAttr (.ref a) f b) Q E s:=by
 obtain⟨mA,O,r,_,_,_⟩:=zc3 I.hok e
 obtain⟨u,hu,ru⟩:=kL.some_of (v:=v) (o:=mA f) (by rw [<-l];exact r f)
 exact ym1 I.kIn O (c.get f) c.hd n hu (zt2 ru) (h u _ (I.tok _) ru)
theorem zj3{m:Str}{g:Addr}{pl:Sem Bool}{Q:Value×List Value->Shared->Prop}(I:Inv X pins σ H s)(e:H a=some (.ins C dx fs))(c:Cls X.K C)(k:Meth X.K C m g)(l:fs.lookup m=none)
  (h:Q (.ref g,[.ref a]) s):wpAny (model X.prog X.w) A (getMethod (.ref a) m pl) Q E s:=by
 obtain⟨mA,O,r,_,_,_⟩:=zc3 I.hok e
 have hn:mA m=none:=kL.none_of (by rw [<-l];exact r m)
 exact yb1 I.kIn O (c.get m) k.at_ k.fn hn h
theorem ys2{y:V}{u:Value}{Q:Unit->Shared->Prop}(I:Inv X pins σ H s)(e:H a=some (.ins C dx fs))(c:Cls X.K C)(n:cD X.K C f)(hl:fs.length<1000)(ry:cG y u)
  (h:∀s',Inv X pins σ (upd H a (.ins C dx (gS f y fs))) s'->Q () s'):wpAny (model X.prog X.w) A (setAttr (.ref a) f u) Q E s:=by
 obtain⟨mA,O,r,wi,_,ho⟩:=zc3 I.hok e
 have hz:(fs.map (·.1)).length<=sizeLine:=by rw [Zb,Y6];omega
 refine xv7 I.kIn O c.sa c.po n.taker c.hd wi hz fun h' O' sb=>h _ ?_
 have hd:∃o,h'.get? dx=some o:=let ⟨o,_,_,e',_⟩:=O'.ns;⟨o,e'⟩
 refine I.write (x:=a) (e:=dx) (by rw [e];exact True.intro) (.inr ho) (fun b q hb z=>(sb.2 b hb).trans z) hd ?_
 refine⟨by rw [bI O.ne];exact ho,?_,O.ne,O'.obj,_,O'.ns,fun g=> ?_,fun g hg=> ?_⟩
 ·have:=zg0 f y fs;omega
 ·show kL ((gS f y fs).lookup g) (if g=f then some u else mA g)
  rw [zf9]
  by_cases q:g=f
  ·rw [if_pos q,if_pos q];exact ry
  ·rw [if_neg q,if_neg q];exact r g
 ·by_cases q:g=f
  ·rw [q];exact(zB f y fs).1
  ·refine(zB f y fs).2 g (wi g fun z=>hg ?_)
   show(if g=f then some u else mA g)=none
   rw [if_neg q];exact z
theorem Inv.made(I:Inv X pins σ H s):Inv X pins σ (upd (upd H s.heap.objs.size (.own (s.heap.objs.size+1))) (s.heap.objs.size+1) (.ins C s.heap.objs.size []))
  {s with heap:=(s.heap.push PySem.W.emptyDict).push (PySem.W.instObj C s.heap.objs.size)}:=by
 have e1:(s.heap.push PySem.W.emptyDict).get? s.heap.objs.size=some PySem.W.emptyDict:=Zv s.heap rfl
 have e2:((s.heap.push PySem.W.emptyDict).push (PySem.W.instObj C s.heap.objs.size)).get? (s.heap.objs.size+1)=some (PySem.W.instObj C s.heap.objs.size):=by
  have:=Zv (s.heap.push PySem.W.emptyDict) (o:=PySem.W.instObj C s.heap.objs.size) rfl
  rwa [Wi] at this
 have e3:(s.heap.push PySem.W.emptyDict).Ns s.heap.objs.size (fun _=>none):=⟨PySem.W.emptyDict,#[],_,e1,rfl,(fun e he=>absurd he (by simp)),fun _=>rfl⟩
 have I1:=I.laid (a:=s.heap.objs.size) (o:= .own (s.heap.objs.size+1)) (h':=s.heap.push PySem.W.emptyDict) (t':=s.toks) (fun b u q=>Zh _ q) (Zc _) ⟨_,e1⟩
 refine I1.laid (a:=s.heap.objs.size+1) (o:= .ins C s.heap.objs.size []) (t':=s.toks) (fun b u q=>Zh _ q) (Nat.le_of_eq (Wi _ _)) ?_
 have ne:s.heap.objs.size≠s.heap.objs.size+1:=ZE (YV _)
 refine⟨by rw [bI ne,cV],ZJ _,ne,e2,fun _=>none,(Heap.Ns1.of_empty e3).at fun o q=>Zh _ q,fun _=>True.intro,fun y hy=>absurd rfl hy⟩
theorem ym2{prog:Program}{w:World}{env:Env}{e:Expr}{f:Str}{pos:Pos}{s:Shared}{Q:Value->Shared->Prop}(hb:attributeBase e f env (eval e env)=eval e env)
  (h:wpAny (model prog w) A (eval e env) (fun o s₁=>wpAny (model prog w) A (getAttr o f true) Q E s₁) E s):wpAny (model prog w) A (eval (.Attribute e f pos) env) Q E s:=
 Attribute_any_ h (by rw [arm_eval_Attribute,hb])
end
def wr8(K:tz0)(ta:TE)(f:Str):TE:=fun σ H Q=>ta σ H fun x H1=>∃a C dx fs v,x= .ref a/\H1 a=some (.ins C dx fs)/\Cls K C/\cD K C f/\fs.lookup f=some v/\Q v H1
def wr9(K:tz0)(ta tv:TE)(f:Str):TS:=fun D σ H=>tv σ H fun y H1=>ta σ H1 fun x H2=>∃a C dx fs,x= .ref a/\H2 a=some (.ins C dx fs)/\Cls K C/\cD K C f/\fs.length<1000/\
 D.nx σ (upd H2 a (.ins C dx (gS f y fs)))
section
variable{X:Cx}{o e value:Expr}{f:Str}{pos pos' tpos:Pos}{ta tv:TE}
theorem wd9(he:PE X e ta)(hb:attributeBase e f X.env (eval e X.env)=eval e X.env):PE X (.Attribute e f pos) (wr8 X.K ta f):=⟨by
 intro pins s σ H Q I h
 refine ym2 hb (thn (he pins s σ H _ I h) fun u s1 ⟨x,H1,I1,rx,a,C,dx,fs,v,ex,ea,c,n,l,q⟩=> ?_)
 subst ex
 obtain rfl:u=Value.ref a:=rx
 exact ys1 I1 ea c n l fun u' s2 I2 ru=>⟨v,H1,I2,ru,q⟩⟩
theorem we0(ha:PE X o ta)(hv:PE X value tv)(hs:swapsWith value (some (.Attribute o f pos')) pos.line X.env=pure false):PS X (.Assign [.Attribute o f pos'] value pos) (wr9 X.K ta tv f):=⟨by
 intro pins s σ H D I h
 refine plainObj_wpAny_Assign_Attribute (thn (hv pins s σ H _ I h) fun u s1 ⟨y,H1,I1,ry,q⟩=>thn (ha pins s1 σ H1 _ I1 q) fun ov s2 ⟨x,H2,I2,rx,a,C,dx,fs,ex,ea,c,n,l,q2⟩=> ?_) hs
 subst ex
 obtain rfl:ov=Value.ref a:=rx
 exact ys2 I2 ea c n l ry fun s3 I3=>⟨σ,_,I3,q2⟩⟩
end
section
variable{X:Cx}{pins:tzB}{σ:St}{H:Hp}{s:Shared}{A:Around}{E:Value->Shared->Prop}{Q:Value->Shared->Prop}{c:Value}{b:Bool}
inductive TyOf(K:tz0)(H:Hp):V->Value->Prop where
 |non:TyOf K H .non (.type "NoneType")
 |bl (x:Bool):TyOf K H (.bl x) (.type "bool")
 |int (i:Int):TyOf K H (.int i) (.type "int")
 |str (x:Str):TyOf K H (.str x) (.type "str")
 |flt (x:UInt64):TyOf K H (.flt x) (.type "float")
 |lst {a:Addr} {xs:List V} (e:H a=some (.lst xs)):TyOf K H (.ref a) (.type "list")
 |frz {a:Addr} {o:Obj} {xs:List V} (e:H a=some (.frz o (.lst xs))):TyOf K H (.ref a) (.type "list")
 |tup {a:Addr} {xs:List V} (e:H a=some (.tup xs)):TyOf K H (.ref a) (.type "tuple")
 |dK {a:Addr} {kvs:List (Key×V)} (e:H a=some (.dK kvs)):TyOf K H (.ref a) (.type "dict")
 |dT {a:Addr} {kvs:List (List Key×V)} (e:H a=some (.dT kvs)):TyOf K H (.ref a) (.type "dict")
 | ins {a C dx:Addr} {fs:List (Str×V)} (e:H a=some (.ins C dx fs)) (cl:Cls K C) (ha:PySem.W.findIn K (.ref C) "__class__"=some (some (.builtin "object.__class__")))
   (hn:PySem.W.specialIn K (.builtin "object.__class__") "__get__"=some (some (.builtin "getset_descriptor.__get__"))) (htk:PySem.W.takesIn K (.builtin "object.__class__")=some true)
   (hm:PySem.W.mroIn K C (.type "object")=some true):TyOf K H (.ref a) (.ref C)
theorem xa2{x:V}{u t:Value}(I:Inv X pins σ H s)(rx:cG x u)(ty:TyOf X.K H x t)(e:PySem.W.kitOne X.K t c=some b)(h:∀tk,Q (.bool b) {s with toks:=tk}):
  wpAny (model X.prog X.w) A (call (.builtin "isinstance") [u,c]) Q E s:=by
 cases ty with
 |non=>cases(show u=Value.none from rx);exact ZL PySem.W.kitx_none I.kIn True.intro e (fun z=>nomatch z) h
 |bl y=>cases(show u=Value.bool y from rx);exact ZL PySem.W.kitx_bool I.kIn True.intro e (fun z=>nomatch z) h
 |int i=>obtain⟨t,q⟩:=(show ∃t,u=Value.int i t from rx);cases q;exact ZL PySem.W.kitx_int I.kIn True.intro e (fun z=>nomatch z) h
 |str y=>obtain⟨t,q⟩:=(show ∃t,u=Value.str y t from rx);cases q;exact ZL PySem.W.kitx_str I.kIn True.intro e (fun z=>nomatch z) h
 |flt y=>obtain⟨t,q⟩:=(show ∃t,u=Value.float y t from rx);cases q;exact ZL PySem.W.kitx_float I.kIn True.intro e (fun z=>nomatch z) h
 | @lst a xs ea=>
  cases(show u=Value.ref a from rx)
  obtain⟨_,_,n,_,h1⟩:=(show dH X.prog X.w H s.heap a (.lst xs) from I.hok a _ ea)
  exact ZL Ww I.kIn ⟨_,h1,rfl⟩ e (fun z=>nomatch z) h
 | @frz a ob xs ea=>
  cases(show u=Value.ref a from rx)
  obtain⟨_,_,_,n,_,h1⟩:=(show dH X.prog X.w H s.heap a (.frz ob (.lst xs)) from I.hok a _ ea)
  exact ZL Ww I.kIn ⟨_,h1,rfl⟩ e (fun z=>nomatch z) h
 | @tup a xs ea=>
  cases(show u=Value.ref a from rx)
  obtain⟨_,_,_,p⟩:=(show dH X.prog X.w H s.heap a (.tup xs) from I.hok a _ ea)
  obtain⟨o,h1,h2,_⟩:=p
  exact ZL Wq I.kIn ⟨o,h1,h2⟩ e (fun z=>nomatch z) h
 | @dK a kvs ea=>
  cases(show u=Value.ref a from rx)
  obtain⟨_,_,vs,_,p⟩:=(show dH X.prog X.w H s.heap a (.dK kvs) from I.hok a _ ea)
  obtain⟨o,es,ep,h1,h2,_⟩:=p
  exact ZL Wx I.kIn ⟨o,h1,h2.1⟩ e (fun z=>nomatch z) h
 | @dT a kvs ea=>
  cases(show u=Value.ref a from rx)
  obtain⟨_,_,xs,_,o,es,ep,h1,h2,_⟩:=(show dH X.prog X.w H s.heap a (.dT kvs) from I.hok a _ ea)
  exact ZL Wx I.kIn ⟨o,h1,h2.1⟩ e (fun z=>nomatch z) h
 | @ins a C dx fs ea cl ha hn htk hm=>
  cases(show u=Value.ref a from rx)
  obtain⟨mA,O,_⟩:=zc3 I.hok ea
  obtain⟨od,J,_⟩:=O.look
  exact ZL (PySem.W.kitx_own (cl.get _) cl.hd ha hn htk hm) I.kIn J e (fun z=>nomatch z) h
end
structure Room(k:Nat)(A:Around):Prop where
 hd:A.handled=none
 dp:A.depth+3*k+5<recursionLimit
 un:A.units+16*k+200<cLine
theorem Room.mono{j k:Nat}{A:Around}(r:Room k A)(h:j<=k):Room j A:=⟨r.hd,by have:=r.dp;omega,by have:=r.un;omega⟩
theorem Room.deeper{k:Nat}{A:Around}(r:Room (k+1) A)(env:Env):Room k (A.deeper env):=
 ⟨r.hd,by have:=r.dp;show A.depth+1+3*k+5<_;omega,by have:=r.un;show A.units+3+16*k+200<_;omega⟩
theorem ys3{A:Around}{C:Addr}{us:List Value}{kw:List (Str×Value)}:(A.under (.builtin "type.__call__" ⟨.ref C::us,kw⟩)).depth=A.depth+1:=by
 first|rfl|simp [Around.under,Code.weight,Code.isCreation,Code.isGuard,Code.isCaller,Code.frames,Code.isFrame,guardIds]
theorem ys4{A:Around}{C:Addr}{us:List Value}{kw:List (Str×Value)}:(A.under (.builtin "type.__call__" ⟨.ref C::us,kw⟩)).units=A.units+1:=by
 first|rfl|simp [Around.under,Code.cUnits,Code.frames,Code.isFrame]
theorem Room.make{k:Nat}{A:Around}(r:Room (k+1) A)(C:Addr)(us:List Value)(kw:List (Str×Value)):Room k (A.under (.builtin "type.__call__" ⟨.ref C::us,kw⟩)):=
 ⟨r.hd,by have:=r.dp;rw [ys3];omega,by have:=r.un;rw [ys4];omega⟩
theorem Room.depth{k:Nat}{A:Around}(r:Room k A):A.depth<recursionLimit:=by have:=r.dp;omega
theorem Room.units{k:Nat}{A:Around}(r:Room k A):A.units+64<cLine:=by have:=r.un;omega
theorem Room.units0{k:Nat}{A:Around}(r:Room k A):A.units<cLine:=by have:=r.un;omega
def yw9:TA:=fun _ H Q=>Q [] H
def wo7(ta:TE)(tr:TA):TA:=fun σ H Q=>ta σ H fun x H1=>tr σ H1 fun xs H2=>Q (x::xs) H2
abbrev StE(e:PySem.Expr)(es:List PySem.Expr)(X:Cx):Prop:=starEach (e::es) X.env=(false,eval e X.env)::starEach es X.env
section
variable{X:Cx}{e:Expr}{es:List Expr}{te:TE}{t:TA}{pos:Pos}
theorem kT:PA X [] yw9:=⟨fun _ _ _ _ H Q I h=>X3 ⟨[],H,I,.nil,h⟩⟩
theorem eK(ha:PE X e te)(hr:PA X es t)(hs:StE e es X:=by rfl):PA X (e::es) (wo7 te t):=⟨by
 intro pos pins s σ H Q I h
 rw [hs]
 show wpAny _ _ (spliced ((false,eval e X.env)::backTo pos (starEach es X.env))) _ _ s
 refine YW (thn (ha pins s σ H _ I h) fun u s1 ⟨x,H1,I1,r1,q1⟩=> ?_)
 exact thn (hr pos pins s1 σ H1 _ I1 q1) fun us s2 ⟨xs,H2,I2,r2,q2⟩=>⟨x::xs,H2,I2,.cons r1 r2,q2⟩⟩
def ws0(t:TA):TE:=fun σ H Q=>t σ H fun xs H1=>xs.length<=sizeLine/\∀p,H1 p=none->Q (.ref p) (upd H1 p (.tup xs))
def ws1(t:TA):TE:=fun σ H Q=>t σ H fun xs H1=>xs.length<=sizeLine/\∀p,H1 p=none->Q (.ref p) (upd H1 p (.lst xs))
theorem xa3{x1}(h:PA X es t):PE X (.Tuple es x1 pos) (ws0 t):=⟨by
 intro pins s σ H Q I hq
 refine wpAny_Tuple_spliced (thn (h pos pins s σ H _ I hq) fun us s1 ⟨xs,H1,I1,r,z,q⟩=>⟨by rw [<-r.length];exact z,?_⟩)
 have hf:H1 s1.heap.objs.size=none:=I1.hok.fresh (Zc _)
 refine⟨.ref s1.heap.objs.size,upd H1 s1.heap.objs.size (.tup xs),I1.laid (t':=s1.toks) (fun b u e=>Zh _ e) (Zc _) ?_,rfl,q _ hf⟩
 exact⟨z,us,r,⟨_,Zv _ rfl,rfl,_,rfl⟩⟩⟩
theorem we1(h:PA X es t):PE X (.List es pos) (ws1 t):=⟨by
 intro pins s σ H Q I hq
 refine wpAny_List_spliced (thn (h pos pins s σ H _ I hq) fun us s1 ⟨xs,H1,I1,r,z,q⟩=>⟨by rw [<-r.length];exact z,?_⟩)
 have hf:H1 s1.heap.objs.size=none:=I1.hok.fresh (Zc _)
 refine⟨.ref s1.heap.objs.size,upd H1 s1.heap.objs.size (.lst xs),I1.laid (t':=s1.toks) (fun b u e=>Zh _ e) (Zc _) ?_,rfl,q _ hf⟩
 exact⟨z,us,0,r,Zv _ rfl⟩⟩
end
abbrev Sp:=List V->Hp->VK->XK->Prop
abbrev CXT:=List Env->Hp->Shared->XK->Value->Shared->Prop
structure Env0(P:Program)(w:World)(K:tz0)(mg:tzA)(base:Heap)(A:Around)(outer:List Env)(s:Shared)(H:Hp):Prop where
 frames:A.frames=some outer
 mod:Mod K mg base
 bs:∀b o,base.get? b=some o->s.heap.get? b=some o/\H b=none
 bsz:base.objs.size<=s.heap.objs.size
 funs:s.heap.FunFrames base outer
 frf:∀b∈frs outer,H b=none
 hok:HOk P w H s.heap
 bare:AllBare s.gens
def CE(outer:List Env)(P:Program)(w:World)(H:Hp)(s:Shared)(Q:VK)(u:Value)(s':Shared):Prop:=
 ∃v H',s'.os=s.os/\AllBare s'.gens/\Un (frs outer) [] H H' s.heap s'.heap/\HOk P w H' s'.heap/\cG v u/\Q v H'
def CR(CX:CXT)(outer:List Env)(P:Program)(w:World)(H:Hp)(s:Shared)(Q:VK)(E:XK)(r:Result)(s':Shared):Prop:=
 match r with
 | .ok (.ret u)=>CE outer P w H s Q u s'
 | .ok _=>False
 | .error e=>CX outer H s E e s'
structure FnOk(P:Program)(w:World)(K:tz0)(mg:tzA)(base:Heap)(CX:CXT)(k:Nat)(f:Addr)(fd:FuncData)(ps:List Str)(sp:Sp):Prop where
 len:∀vs H Q E,sp vs H Q E->vs.length=ps.length
 run:∀(A:Around) (outer:List Env) (s:Shared) (H:Hp) (args:Args) (us:List Value) (vs:List V) (Q:VK) (E:XK),Room k A->Env0 P w K mg base A outer s H->BindsTo s fd args (ps.zip us)->bJ vs us->sp vs H Q E->
  codeAny (model P w) A (.call (.ref f) args) (CR CX outer P w H s Q E) s
theorem FnOk.mono{P:Program}{w:World}{K:tz0}{mg:tzA}{base:Heap}{CX:CXT}{j k:Nat}{f:Addr}{fd:FuncData}{ps:List Str}{sp:Sp}(F:FnOk P w K mg base CX j f fd ps sp)(h:j<=k):
  FnOk P w K mg base CX k f fd ps sp:=⟨F.len,fun A outer s H args us vs Q E hr=>F.run A outer s H args us vs Q E (hr.mono h)⟩
theorem FnOk.imp{P:Program}{w:World}{K:tz0}{mg:tzA}{base:Heap}{CX:CXT}{k:Nat}{f:Addr}{fd:FuncData}{ps:List Str}{sp sp':Sp}(F:FnOk P w K mg base CX k f fd ps sp)
  (h:∀vs H Q E,sp' vs H Q E->sp vs H Q E):FnOk P w K mg base CX k f fd ps sp':=
 ⟨fun vs H Q E q=>F.len vs H Q E (h _ _ _ _ q),fun A outer s H args us vs Q E hr he hb hv hs=>F.run A outer s H args us vs Q E hr he hb hv (h _ _ _ _ hs)⟩
theorem Env0.make{P:Program}{w:World}{K:tz0}{mg:tzA}{base:Heap}{A:Around}{outer:List Env}{s:Shared}{H:Hp}(e:Env0 P w K mg base A outer s H)(C:Addr)(us:List Value)(kw:List (Str×Value)):
  Env0 P w K mg base (A.under (.builtin "type.__call__" ⟨.ref C::us,kw⟩)) outer s H:=⟨by first|exact e.frames|(simpa [Around.under,Code.envs,Code.isFrame,pushEnvs] using e.frames),e.mod,e.bs,e.bsz,e.funs,e.frf,e.hok,e.bare⟩
section
variable{X:Cx}{pins:tzB}{σ:St}{H:Hp}{s s':Shared}
theorem Inv.env0(I:Inv X pins σ H s):Env0 X.prog X.w X.K X.mg X.base X.A X.stack s H:=
 ⟨I.ok.frames,I.ok.mod,I.bs,Zt I.ok.bsz I.sz,I.stack,I.stkFree,I.hok,I.bare⟩
theorem Inv.after{Q:VK}{u:Value}(I:Inv X pins σ H s)(h:CE X.stack X.prog X.w H s Q u s'):EP X pins σ Q u s':=by
 obtain⟨v,H',os,bare,un,hok,r,q⟩:=h
 obtain⟨hh,g,d,t,os'⟩:=s'
 obtain rfl:os'=s.os:=os
 exact⟨v,H',I.call (h':=hh) (g':=g) (d':=d) (t':=t) (ch:=[]) un hok bare (fun b z=>absurd z (by simp)),r,q⟩
end
def zz2(sp:Sp)(dvs:List V)(E:XK)(t:TA):TE:=fun σ H Q=>t σ H fun vs H1=>sp (vs++dvs) H1 Q E
def xu6(C:Addr)(m:Str)(sp:Sp)(dvs:List V)(E:XK)(ta:TE)(t:TA):TE:=fun σ H Q=>ta σ H fun x H1=>∃a dx fs,x= .ref a/\H1 a=some (.ins C dx fs)/\fs.lookup m=none/\
 t σ H1 fun vs H2=>sp (x::(vs++dvs)) H2 Q E
def wo8(C:Addr)(sp:Sp)(dvs:List V)(E:XK)(t:TA):TE:=fun σ H Q=>t σ H fun vs H1=>∀x dx,H1 x=none->H1 dx=none->dx≠x->
 sp (.ref x::(vs++dvs)) (upd (upd H1 dx (.own x)) x (.ins C dx [])) (fun v H2=>v= .non/\Q (.ref x) H2) E
def lJ(K:tz0)(fd:FuncData)(ps:List Str)(ds:List Value):Prop:=
 ∀(s:Shared) (us:List Value),K.In s.heap->(us++ds).length=ps.length->BindsTo s fd ⟨us,[]⟩ (ps.zip (us++ds))
theorem lJ.all{K:tz0}{fd:FuncData}{ps:List Str}(h:∀us:List Value,us.length=ps.length->bindArgs fd ⟨us,[]⟩=pure (ps.zip us)):lJ K fd ps []:=fun s us _ hl=>by
 rw [Zj] at hl|-
 exact .of_eq (h us hl)
def nH(CX:CXT)(X:Cx)(E:XK):Prop:=∀(pins:tzB) (σ:St) (H:Hp) (s:Shared) (e:Value) (s':Shared),Inv X pins σ H s->CX X.stack H s E e s'->X.xe e s'
abbrev BkE(pos:PySem.Pos)(es:List PySem.Expr)(X:Cx):Prop:=(backTo pos (starEach es X.env)).any (·.1)=false
section
variable{X:Cx}{CX:CXT}{k:Nat}{f C:Addr}{fd:FuncData}{ps:List Str}{sp:Sp}{dvs:List V}{ds:List Value}{E:XK}{x m:Str}{p pos apos:Pos}{e o:Expr}{es:List Expr}{ta:TE}{t:TA}
theorem zC{pins:tzB}{σ:St}{H:Hp}{s:Shared}{Q:VK}{us:List Value}{vs:List V}(F:FnOk X.prog X.w X.K X.mg X.base CX k f fd ps sp)(hr:Room k X.A)(hb:lJ X.K fd ps ds)(hd:bJ dvs ds)(hx:nH CX X E)
  (I:Inv X pins σ H s) (r:bJ vs us) (h:sp (vs++dvs) H Q E):wpAny (model X.prog X.w) X.A (call (.ref f) us) (EP X pins σ Q) X.xe s:=by
 have r2:bJ (vs++dvs) (us++ds):=r.append hd
 have hl:(us++ds).length=ps.length:=by rw [<-r2.length];exact F.len _ _ _ _ h
 refine Wj (YS (F.run X.A X.stack s H ⟨us,[]⟩ (us++ds) (vs++dvs) Q E hr I.env0 (hb s us I.kIn hl) r2 h) fun r s' hq=> ?_)
 cases r with
 |error e=>exact hx pins σ H s e s' I hq
 |ok fl=>
  cases fl with
  |ret u=>exact I.after hq
  |next=>exact False.elim hq
  |brk=>exact False.elim hq
  |cont=>exact False.elim hq
theorem ym3(F:FnOk X.prog X.w X.K X.mg X.base CX k f fd ps sp)(hr:Room k X.A)(hg:Gl X x)(hm:X.mg x=some (.ref f))(hk:PySem.W.keepIn X.K (.ref f)=true)(hb:lJ X.K fd ps ds)(hd:bJ dvs ds)(hx:nH CX X E)
  (ha:PA X (e::es) t) (hdb:NDb x:=by decide) (he:StE e es X:=by rfl) (hpl:BkE pos es X:=by rfl):
  PE X (.Call (.Name x p) (e::es) [] pos) (zz2 sp dvs E t):=⟨by
 intro pins s σ H Q I h
 refine ZW (pH I hg hm ?_ hdb)
 refine Yh (h₀:=X.base) I.ok.mod.kin hk (thn (ha pos pins s σ H _ I h) fun us s1 ⟨vs,H1,I1,r,q⟩=>⟨I1.kIn,?_⟩) he hpl
 exact zC F hr hb hd hx I1 r q⟩
theorem xl3(F:FnOk X.prog X.w X.K X.mg X.base CX k f fd ps sp)(hr:Room k X.A)(hg:Gl X x)(hm:X.mg x=some (.ref f))(hk:PySem.W.keepIn X.K (.ref f)=true)(hb:lJ X.K fd ps ds)(hd:bJ dvs ds)(hx:nH CX X E)
  (hdb:NDb x:=by decide):PE X (.Call (.Name x p) [] [] pos) (zz2 sp dvs E yw9):=⟨by
 intro pins s σ H Q I h
 refine ZW (pH I hg hm ?_ hdb)
 exact Wm I.kIn hk (zC (us:=[]) F hr hb hd hx I .nil h)⟩
theorem xv8{pl:Sem Bool}(he:PE X o ta)(c:Cls X.K C)(hm:Meth X.K C m f)(F:FnOk X.prog X.w X.K X.mg X.base CX k f fd ps sp)(hr:Room k X.A)(hb:lJ X.K fd ps ds)(hd:bJ dvs ds)(hx:nH CX X E)(ha:PA X (e::es) t)
  (hst:StE e es X:=by rfl) (hpl:BkE pos es X:=by rfl)
  (ht:eval (.Call (.Attribute o m apos) (e::es) [] pos) X.env=(do
   let ov<-eval o X.env
   standAt apos.atName
   let (f,first)<-holding [ov] (getMethod ov m pl)
   callWith pos f first (backTo pos (starEach (e::es) X.env)) (backToKw pos (keywordEach [] X.env))):=by rfl):
  PE X (.Call (.Attribute o m apos) (e::es) [] pos) (xu6 C m sp dvs E ta t):=⟨by
 intro pins s σ H Q I h
 refine X4 (pl:=pl) (thn (he pins s σ H _ I h) fun u s1 ⟨x,H1,I1,rx,a,dx,fs,ex,ea,l,q⟩=> ?_) ht
 subst ex
 obtain rfl:u=Value.ref a:=rx
 refine zj3 I1 ea c hm l ?_
 refine Yh (first:=[.ref a]) (h₀:=X.base) I.ok.mod.kin hm.kp (thn (ha pos pins s1 σ H1 _ I1 q) fun us s2 ⟨vs,H2,I2,r,q2⟩=>⟨I2.kIn,?_⟩) hst hpl
 exact zC (us:= .ref a::us) (vs:= .ref a::vs) F hr hb hd hx I2 (.cons rfl r) q2⟩
theorem xl4{pl:Sem Bool}(he:PE X o ta)(c:Cls X.K C)(hm:Meth X.K C m f)(F:FnOk X.prog X.w X.K X.mg X.base CX k f fd ps sp)(hr:Room k X.A)(hb:lJ X.K fd ps ds)(hd:bJ dvs ds)(hx:nH CX X E)
  (ht:eval (.Call (.Attribute o m apos) [] [] pos) X.env=(do
   let ov<-eval o X.env
   standAt apos.atName
   let (f,first)<-holding [ov] (getMethod ov m pl)
   callWith pos f first (backTo pos (starEach [] X.env)) (backToKw pos (keywordEach [] X.env))):=by rfl):
  PE X (.Call (.Attribute o m apos) [] [] pos) (xu6 C m sp dvs E ta yw9):=⟨by
 intro pins s σ H Q I h
 refine X4 (pl:=pl) (thn (he pins s σ H _ I h) fun u s1 ⟨x,H1,I1,rx,a,dx,fs,ex,ea,l,q⟩=> ?_) ht
 subst ex
 obtain rfl:u=Value.ref a:=rx
 refine zj3 I1 ea c hm l ?_
 exact Wm (first:=[.ref a]) I1.kIn hm.kp (zC (us:=[.ref a]) (vs:=[.ref a]) F hr hb hd hx I1 (.cons rfl .nil) q)⟩
structure Mk(K:tz0)(C f:Addr):Prop where
 makes:PySem.W.makesIn K C=true
 init:PySem.W.findIn K (.ref C) "__init__"=some (some (.ref f))
 fn:PySem.W.isFn K (.ref f)=true
 kp:PySem.W.keepIn K (.ref C)=true
theorem xl5{pins:tzB}{σ:St}{H:Hp}{s:Shared}{Q:VK}{us:List Value}{vs:List V}(M:Mk X.K C f)(F:FnOk X.prog X.w X.K X.mg X.base CX k f fd ps sp)(hr:Room (k+1) X.A)(hb:lJ X.K fd ps ds)(hd:bJ dvs ds)
  (hx:nH CX X E) (I:Inv X pins σ H s) (r:bJ vs us)
  (h:∀x dx,H x=none->H dx=none->dx≠x->sp (.ref x::(vs++dvs)) (upd (upd H dx (.own x)) x (.ins C dx [])) (fun v H2=>v= .non/\Q (.ref x) H2) E):
  wpAny (model X.prog X.w) X.A (call (.ref C) us) (EP X pins σ Q) X.xe s:=by
 have hq:=h (s.heap.objs.size+1) s.heap.objs.size (I.hok.fresh (Nat.le_succ _)) (I.hok.fresh (Zc _)) (ZE (YV _))
 have I2:=Inv.made (C:=C) I
 have r2:bJ (V.ref (s.heap.objs.size+1)::(vs++dvs)) (Value.ref (s.heap.objs.size+1)::(us++ds)):= .cons rfl (r.append hd)
 have hl:(Value.ref (s.heap.objs.size+1)::us++ds).length=ps.length:=by
  have e:=r2.length
  rw [F.len _ _ _ _ hq] at e
  exact e.symm
 refine Wj (xl2 (f:=f) I.kIn M.makes M.init (YF.mp M.fn) (YS (F.run _ X.stack _ _ ⟨Value.ref (s.heap.objs.size+1)::us,[]⟩ (Value.ref (s.heap.objs.size+1)::(us++ds)) _ _ E (hr.make C us [])
  (I2.env0.make C us []) (hb _ (Value.ref (s.heap.objs.size+1)::us) I2.kIn hl) r2 hq) fun r s' hq'=> ?_))
 cases r with
 |error e=>exact hx pins σ _ _ e s' I2 hq'
 | ok fl=>
  cases fl with
  |ret u=>
   obtain⟨v,H',I3,rv,ev,q3⟩:=I2.after hq'
   subst ev
   exact⟨rv,⟨V.ref (s.heap.objs.size+1),H',I3,rfl,q3⟩⟩
  |next=>exact False.elim hq'
  |brk=>exact False.elim hq'
  |cont=>exact False.elim hq'
theorem xv9(M:Mk X.K C f)(F:FnOk X.prog X.w X.K X.mg X.base CX k f fd ps sp)(hr:Room (k+1) X.A)(hg:Gl X x)(hm:X.mg x=some (.ref C))(hb:lJ X.K fd ps ds)(hd:bJ dvs ds)(hx:nH CX X E)
  (ha:PA X (e::es) t) (hdb:NDb x:=by decide) (he:StE e es X:=by rfl) (hpl:BkE pos es X:=by rfl):
  PE X (.Call (.Name x p) (e::es) [] pos) (wo8 C sp dvs E t):=⟨by
 intro pins s σ H Q I h
 refine ZW (pH I hg hm ?_ hdb)
 refine Yh (h₀:=X.base) I.ok.mod.kin M.kp (thn (ha pos pins s σ H _ I h) fun us s1 ⟨vs,H1,I1,r,q⟩=>⟨I1.kIn,?_⟩) he hpl
 exact xl5 M F hr hb hd hx I1 r q⟩
end
structure FnScope(N P:List Str)(sc:Scope):Prop where
 kind:sc.kind= .function
 co:sc.isCoroutine=false
 gen:sc.isGenerator=false
 nd:N.Nodup
 pre:N.take P.length=P
 par:∀x∈P,sc.names.lookup x=some .local\/sc.names.lookup x=some .cell
 nofree:∀y∈sc.names,y.2≠ .free
theorem zt3{kindOf:Str->Option NameKind}{x:Str}:∀{binds:List (Str×Value)} {m:tzA},(∀v,(x,v)∉binds)->bindL kindOf binds m x=m x
 |[],_,_=>rfl
 | (n,v)::r,m,h=>by
  unfold bindL
  rw [zt3 fun w hw=>h w (Z1 _ hw)]
  split
  ·have:x≠n:=by rintro rfl;exact h v Z0
   simp [this]
  ·rfl
theorem zt4{kindOf:Str->Option NameKind}{x:Str}:∀{binds:List (Str×Value)} {m:tzA},(∀v,(x,v)∉binds)->bindC kindOf binds m x=m x
 |[],_,_=>rfl
 | (n,v)::r,m,h=>by
  unfold bindC
  rw [zt4 fun w hw=>h w (Z1 _ hw)]
  split
  ·rfl
  ·have:x≠n:=by rintro rfl;exact h v Z0
   simp [this]
theorem zt5{kindOf:Str->Option NameKind}{x:Str}{v:Value}:∀{P:List Str} {vs:List Value} {i:Nat} {m:tzA},P.Nodup->P[i]? =some x->vs[i]? =some v->kindOf x=some .local->
  bindL kindOf (P.zip vs) m x=some v
 |[],_,_,_,_,h,_,_=>by simp at h
 |_::_,[],_,_,_,_,h,_=>by simp at h
 |p::P,w::vs,0,m,nd,h1,h2,hk=>by
  simp at h1 h2;subst h1;subst h2
  show bindL kindOf ((p,w)::P.zip vs) m p=_
  unfold bindL
  rw [zt3 fun v hv=>(Zs.mp nd).1 (XC hv).1,if_pos hk]
  simp
 |p::P,w::vs,i+1,m,nd,h1,h2,hk=>by
  show bindL kindOf ((p,w)::P.zip vs) m x=_
  unfold bindL
  exact zt5 (i:=i) (Zs.mp nd).2 (by simpa using h1) (by simpa using h2) hk
theorem zt6{kindOf:Str->Option NameKind}{x:Str}{v:Value}:∀{P:List Str} {vs:List Value} {i:Nat} {m:tzA},P.Nodup->P[i]? =some x->vs[i]? =some v->kindOf x≠some .local->
  bindC kindOf (P.zip vs) m x=some v
 |[],_,_,_,_,h,_,_=>by simp at h
 |_::_,[],_,_,_,_,h,_=>by simp at h
 |p::P,w::vs,0,m,nd,h1,h2,hk=>by
  simp at h1 h2;subst h1;subst h2
  show bindC kindOf ((p,w)::P.zip vs) m p=_
  unfold bindC
  rw [zt4 fun v hv=>(Zs.mp nd).1 (XC hv).1,if_neg hk]
  simp
 |p::P,w::vs,i+1,m,nd,h1,h2,hk=>by
  show bindC kindOf ((p,w)::P.zip vs) m x=_
  unfold bindC
  exact zt6 (i:=i) (Zs.mp nd).2 (by simpa using h1) (by simpa using h2) hk
def start(N:List Str)(vs:List V):St:=vs.map some++List.replicate (N.length-vs.length) none
def iT(CX:CXT)(P:Program)(w:World)(K:tz0)(mg:tzA)(base:Heap)(N:List Str)(qual:Str)(scope:Scope)(f:Addr)(cd:Value)(A:Around)(outer:List Env)(s:Shared)(H:Hp)(E:XK):Cx where
 prog:=P
 w:=w
 K:=K
 mg:=mg
 base:=base
 A:=A.deeper (envOfC qual scope s.heap.objs.size f cd)
 N:=N
 s₀:=s
 H₀:=H
 env:=envOfC qual scope s.heap.objs.size f cd
 outer:=outer
 stack:=envOfC qual scope s.heap.objs.size f cd::outer
 ex:=[]
 calm:=true
 fn:=fun _=>true
 pn:=[]
 xe:=fun e s'=>wpAny (model P w) (A.deeper (envOfC qual scope s.heap.objs.size f cd)) (leaving (envOfC qual scope s.heap.objs.size f cd) e) (fun _ s''=>CX outer H s E e s'') (fun e' s''=>CX outer H s E e' s'') s'
theorem yb2{sc:Scope}{n:Nat}{x:Str}(h:sc.names.lookup x=some .cell):∃c,(cellsFrom n sc.names []).lookup x=some c:=by
 have q:=W4 sc.names n [] (.inl h)
 exact XS.mp q
theorem xa4{CX:CXT}{P:Program}{w:World}{K:tz0}{mg:tzA}{base:Heap}{N ps:List Str}{qual:Str}{scope:Scope}{f:Addr}{cd:Value}{A:Around}{outer:List Env}{s s1:Shared}{H:Hp}{E:XK}{us:List Value}{vs:List V}
  (S:FnScope N ps scope) (hd:A.handled=none) (e0:Env0 P w K mg base A outer s H) (hl:vs.length=ps.length) (r:bJ vs us)
  (x:InCallC s s.heap.objs.size (bindL (envOfC qual scope s.heap.objs.size f cd).kindOf (ps.zip us) fun _=>none) (cellsFrom (s.heap.objs.size+1) scope.names []) (bindC (envOfC qual scope s.heap.objs.size f cd).kindOf (ps.zip us) fun _=>none) s1):
  Inv (iT CX P w K mg base N qual scope f cd A outer s H E) [] (start N vs) H s1:=by
 have hpl:ps.length<=N.length:=by have:=ZN List.length S.pre;rw [YG] at this;omega
 obtain⟨h1,tk,rfl,hk⟩:=x.done
 have noA:∀b:Addr,b∉(iT CX P w K mg base N qual scope f cd A outer s H E).ex:=fun b z=>absurd (show b∈([]:List Addr) from z) (by simp)
 refine⟨⟨e0.mod,S.kind,rfl,rfl,Zc _,fun y z c h1 h2=> ?_,fun y hy=> ?_,fun y c _ h=> ?_,fun _=>hd,Around.frames_deeper e0.frames,.inr ⟨rfl,rfl⟩,fun b z=>absurd z (noA b),e0.bs,e0.bsz,fun b _ _=>noA b,fun b z=>absurd z (noA b),e0.funs,e0.frf⟩,
  rfl,e0.bare,Un.kept hk,⟨_,x.toInCall.ns,fun i y v h1 h2 h3=> ?_⟩,fun y c h=>⟨_,x.cell y c h⟩,e0.hok.fresh (Zc _),fun y c h=> ?_,fun p hp=>absurd (show p∈([]:tzB) from hp) (by simp),e0.hok.kept hk,?_⟩
 ·exact name_of_addr x.apart (Yd h1) (Yd h2)
 ·have hy:scope.names.lookup y=some .cell\/scope.names.lookup y=some .free:=hy
  rcases hy with hy|hy
  ·exact yb2 hy
  ·exact absurd rfl (S.nofree _ (Yd hy))
 ·exact YK (x.above y c (Yd h))
 ·have hi:i<vs.length:=by
   unfold start at h2
   by_cases hi:i<vs.length
   ·exact hi
   ·rw [YO (by simpa using hi)] at h2
    rw [Yv] at h2
    split at h2<;>cases h2
  have ha:vs[i]? =some v:=by
   unfold start at h2
   rw [ZO (by simpa using hi),Ze] at h2
   cases e:vs[i]? with
   |none=>rw [e] at h2;cases h2
   |some a=>rw [e] at h2;cases h2;rfl
  obtain⟨u,hu,rv⟩:=r.get ha
  have hp:ps[i]? =some y:=by
   rw [<-S.pre,List.getElem?_take_of_lt (by omega)];exact h1
  have ndP:ps.Nodup:=by rw [<-S.pre];exact S.nd.sublist (List.take_sublist _ _)
  refine⟨u,rv,?_⟩
  rcases S.par y (ZK hp) with k|k
  ·exact .inl ⟨k,zt5 ndP hp hu k⟩
  ·obtain⟨c,e⟩:=yb2 (n:=s.heap.objs.size+1) k
   refine .inr ⟨.inl k,c,e,?_⟩
   have q:=x.cell y c e
   rw [zt6 ndP hp hu (by show scope.names.lookup y≠_;rw [k];decide)] at q
   exact q
 ·exact e0.hok.fresh (YK (x.above y c (Yd h)))
 ·unfold start
  show _=N.length
  rw [Z3,Zb,X5]
  omega
theorem xt3{CX:CXT}{P:Program}{w:World}{K:tz0}{mg:tzA}{base:Heap}{k:Nat}{f:Addr}{name qual:Str}{params:Arguments}{body:List Stmt}{scope:Scope}{dV kV doc pm cdv ct oc:Value}{an od:Option Addr}
  {osl:Array (Option Value)} {N ps:List Str} {sp:Sp} (lk:K.lookup f=some ⟨oc,od,.func (PySem.W.fnOf name qual params body scope dV kV doc pm an cdv ct),osl⟩) (hcd:PySem.W.codeIn K cdv qual=true) (S:FnScope N ps scope)
  (len:∀vs H Q E,sp vs H Q E->vs.length=ps.length)
  (hbody:∀(A:Around) (outer:List Env) (s:Shared) (H:Hp) (vs:List V) (Q:VK) (E:XK),Room k (A.deeper (envOfC qual scope s.heap.objs.size f cdv))->sp vs H Q E->
   ∃t,PSs (iT CX P w K mg base N qual scope f cdv A outer s H E) body t/\t {nx:=fun _ H'=>Q .non H',rt:=Q} (start N vs) H):
  FnOk P w K mg base CX (k+1) f (PySem.W.fnOf name qual params body scope dV kV doc pm an cdv ct) ps sp:=by
 refine⟨len,fun A outer s H args us vs Q E hr e0 hb r hsp=> ?_⟩
 have hl:=len _ _ _ _ hsp
 have KX:K.In s.heap:=e0.mod.kin.keeps fun b o e=>(e0.bs b o e).1
 have lim:s.heap.NoLimit:=e0.mod.nolimit.keeps fun b o e=>(e0.bs b o e).1
 have hkind:∀y∈ps.zip us,scope.names.lookup y.1=some .local\/(scope.names.lookup y.1=some .cell/\((cellsFrom (s.heap.objs.size+1) scope.names []).lookup y.1).isSome=true):=fun⟨n,v⟩ hy=>by
  rcases S.par n (XC hy).1 with q|q
  ·exact .inl q
  ·exact .inr ⟨q,W4 _ _ _ (.inl q)⟩
 refine codeAny_call_function hr.depth (KX _ _ lk) rfl S.co S.gen rfl (PySem.W.codeRec_of KX hcd) (hb _ _ _ _ ?_)
 refine wpAny_newFunctionEnv_cells S.kind hkind fun env he s1 x=> ?_
 subst he
 refine⟨lim.keeps x.toInCall.keep,codeAny_func ?_⟩
 obtain⟨t,ht,hq⟩:=hbody A outer s H vs Q E (hr.deeper _) hsp
 have I:Inv (iT CX P w K mg base N qual scope f cdv A outer s H E) [] (start N vs) H s1:=xa4 S hr.hd e0 hl r x
 refine ZH (ht [] s1 (start N vs) H _ I hq) (fun fl s' hs=> ?_) fun e s' hs=>hs
 have fin:∀{σ':St} {H':Hp} {v:V} {u:Value},Inv (iT CX P w K mg base N qual scope f cdv A outer s H E) [] σ' H' s'->cG v u->Q v H'->CE outer P w H s Q u s':=
  fun {σ' H' v u} J rv q=>⟨v,H',J.os,J.bare,J.base,J.hok,rv,q⟩
 cases fl with
 |ret u=>
  obtain⟨v,σ',H',J,rv,q⟩:=hs
  exact fin J rv q
 |next=>
  obtain⟨σ',H',J,q⟩:=hs
  exact fin (v:=V.non) (u:=Value.none) J rfl q
 |brk=>
  obtain⟨_,_,_,q⟩:=hs
  exact False.elim q
 |cont=>
  obtain⟨_,_,_,q⟩:=hs
  exact False.elim q
section
variable{X:Cx}{x:Str}{p pos:Pos}{e:Expr}{es:List Expr}{t:TA}{id T:String}{r:List V->Hp->VK->Prop}
def tCB(r:List V->Hp->VK->Prop)(t:TA):TE:=fun σ H Q=>t σ H fun vs H1=>r vs H1 Q
theorem nR(hc:CallR X (.builtin id) r)(hg:Gl X x)(hm:X.mg x=none)(hv:bootBuiltins x=some (.builtin id))(ha:PA X (e::es) t)(hn:x≠"__name__":=by decide)(hdb:NDb x:=by decide)
  (he:StE e es X:=by rfl) (hpl:BkE pos es X:=by rfl):PE X (.Call (.Name x p) (e::es) [] pos) (tCB r t):=⟨by
 intro pins s σ H Q I h
 refine ZW (sR I hg hm hv ?_ hn hdb)
 exact Xt (thn (ha pos pins s σ H _ I h) fun us s1 ⟨vs,H1,I1,r1,q1⟩=>hc pins s1 σ H1 vs us Q I1 r1 q1) he hpl⟩
theorem xa5(hc:CallR X (.type T) r)(hg:Gl X x)(hm:X.mg x=none)(hv:bootBuiltins x=some (.type T))(ha:PA X (e::es) t)(hn:x≠"__name__":=by decide)(hdb:NDb x:=by decide)
  (he:StE e es X:=by rfl) (hpl:BkE pos es X:=by rfl):PE X (.Call (.Name x p) (e::es) [] pos) (tCB r t):=⟨by
 intro pins s σ H Q I h
 refine ZW (sR I hg hm hv ?_ hn hdb)
 exact Yk (thn (ha pos pins s σ H _ I h) fun us s1 ⟨vs,H1,I1,r1,q1⟩=>hc pins s1 σ H1 vs us Q I1 r1 q1) he hpl⟩
end
end L2
namespace HT
open PySem PyProof.Rows
def lexLt:List Int->List Int->Bool
 |[],[]=>false
 |[],_::_=>true
 |_::_,[]=>false
 |x::xs,y::ys=>if x=y then lexLt xs ys else decide (x<y)
theorem ys5(x y:Int)(xs ys:List Int):lexLt (x::xs) (y::ys)=if x=y then lexLt xs ys else decide (x<y):=rfl
theorem zx4:lexLt [] []=false:=rfl
theorem zp5(y:Int)(ys:List Int):lexLt [] (y::ys)=true:=rfl
theorem zp6(x:Int)(xs:List Int):lexLt (x::xs) []=false:=rfl
theorem xl6(A:Around)(s:Shared)(a:Int)(t:Tok)(c:Int)(u:Tok):∃e,SeqAt.EqAt A s (.int a t) (.int c u) e/\(e=true↔a=c):=
 ⟨(a==c),SeqAt.EqAt.int_int a t c u,by simp⟩
theorem xl7(A:Around)(s:Shared)(a:Int)(t:Tok)(c:Int)(u:Tok)(prog:Program)(w:World)(E:Value->Shared->Prop)(Q:Value->Shared->Prop)(h:Q (.bool (decide (a<c))) s):
  wpAny (model prog w) A (richCompare .Lt (.int a t) (.int c u)) Q E s:=
 (PyProof.Rows.lt_int h:wpAny (model prog w) A (compareOp .Lt (.int a t) (.int c u)) Q E s)
section
open PySem.SeqAt
open PySem.AutoSeq1 (wpAny_loadPart')
open PySem.MeetsSeq PySem.MeetsSeq2 PySem.MeetsSeq3
theorem zx5(l b:Addr)(items items2:Array Value)(n n2:Nat)(dd dd2:Option Addr)(sl sl2:Array (Option Value))(ns ms:List Int)(hi:IntsAre items.toList ns)(hj:IntsAre items2.toList ms):
  Meets (Builtin.«tuple.__lt__» ⟨[.ref l,.ref b],[]⟩)
   (fun _ R s=>s.heap.get? l=some {cls:= .type "tuple",dict:=dd,data:= .seq items n,slots:=sl}/\s.heap.get? b=some {cls:= .type "tuple",dict:=dd2,data:= .seq items2 n2,slots:=sl2}/\
    R (.ok (.ret (.bool (lexLt ns ms)))) s):=
 .of_wp fun prog w A R s h=>by
  obtain⟨hp,g,d,tk,os⟩:=s;obtain⟨hl,hb,h⟩:=h
  have f2:=Ws
  have z1:items.size=ns.length:=by rw [<-hi.length];simp
  have z2:items2.size=ms.length:=by rw [<-hj.length];simp
  wp_walk using Yn hl,Yn hb,wpAny_forIn_list _ (fun rest b s'=>b.1=none/\s'=⟨hp,g,d,tk,os⟩/\∃(vs ws:List Value) (ns' ms':List Int),rest=vs.zip ws/\
   IntsAre vs ns'/\IntsAre ws ms'/\ns'.length+items2.size=ms'.length+items.size/\R (.ok (.ret (.bool (lexLt ns' ms')))) ⟨hp,g,d,tk,os⟩) _
  case turn=>
   rintro⟨y,x⟩ rest b s' ⟨hb',rfl,vs,ws,ns',ms',hz,hvi,hwi,hlen,hR⟩
   cases hvi with
   |nil=>rw [Xn] at hz;cases hz
   | cons a t hvi'=>
    cases hwi with
    |nil=>rw [Wt] at hz;cases hz
    | cons c u hwi'=>
     rw [Yi] at hz
     injection hz with hyx hrest
     injection hyx with hy hx
     subst hy hx
     rw [ys5] at hR
     simp only [Z6] at hlen
     obtain⟨e,he,hiff⟩:=xl6 A.in1 ⟨hp,g,d,tk,os⟩ a t c u
     refine Zf (he prog w _ _ ?_)
     cases e with
     |true=>
      rw [if_pos (hiff.mp rfl)] at hR
      wp_walk
      exact⟨rfl,rfl,_,_,_,_,hrest,hvi',hwi',by omega,hR⟩
     |false=>
      rw [if_neg (fun q=>absurd (hiff.mpr q) Z7)] at hR
      have hri:=xl7 A.in1 ⟨hp,g,d,tk,os⟩ a t c u prog w
      wp_walk using hri
      exact⟨_,rfl,by simpa using hR⟩
  case fin=>
   rintro⟨b1,b2⟩ s' ⟨hb',rfl,vs,ws,ns',ms',hz,hvi,hwi,hlen,hR⟩
   simp only at hb'
   subst hb'
   have hv:lexLt ns' ms'=decide (items.size<items2.size):=by
    cases hvi with
    | nil=>
     cases hwi with
     |nil=>
      simp only [ZZ] at hlen
      rw [zx4]
      exact(Zd (by omega)).symm
     |cons c u hw=>
      simp only [ZZ,Z6] at hlen
      rw [zp5]
      exact(Zq (by omega)).symm
    | cons a t hv=>
     cases hwi with
     |nil=>
      simp only [ZZ,Z6] at hlen
      rw [zp6]
      exact(Zd (by omega)).symm
     |cons c u hw=>
      rw [Yi] at hz
      cases hz
   rw [hv] at hR
   wp_walk
   exact⟨_,rfl,by simpa [Builtin.Tuple.tupleCompareSizes] using hR⟩
  case h=>
   exact⟨rfl,rfl,items.toList,items2.toList,ns,ms,rfl,hi,hj,by omega,h⟩
end
section
variable{prog:Program}{w:World}{A:Around}{E:Value->Shared->Prop}{s:Shared}
theorem lt_tupInts{l b:Addr}{items items2:Array Value}{ns ms:List Int}{Q:Value->Shared->Prop}(hl:IsTup s.heap l items)(hb:IsTup s.heap b items2)(hi:IntsAre items.toList ns)(hj:IntsAre items2.toList ms)
  (hu:A.units<cLine) (h:Q (.bool (lexLt ns ms)) s):wpAny (model prog w) A (compareOp .Lt (.ref l) (.ref b)) Q E s:=by
 obtain⟨⟨cls,dd,data,sl⟩,ho,hc,n,hd⟩:=id hl
 obtain⟨⟨cls2,dd2,data2,sl2⟩,ho2,hc2,n2,hd2⟩:=id hb
 simp only at hc hd hc2 hd2
 subst hc hd hc2 hd2
 exact richCompare_meets_room (op:= .Lt) ⟨_,ho,rfl⟩ ⟨_,ho2,rfl⟩ We W5 (W0 _ _) (zx5 l b items items2 n n2 dd dd2 sl sl2 ns ms hi hj)
  ⟨ho,ho2,show Value.bool (lexLt ns ms)≠Value.notImplemented/\Q (.bool (lexLt ns ms)) s from⟨(fun x=>nomatch x),h⟩⟩ hu
theorem cat_tup{t b:Addr}{vs ws:List Value}{Q:Value->Shared->Prop}(ht:IsTup s.heap t vs.toArray)(hb:IsTup s.heap b ws.toArray)(hv:vs≠[])
  (h1:ws=[]->Q (.ref t) s) (h2:ws≠[]->Q (.ref s.heap.objs.size) {s with heap:=s.heap.push {cls:= .type "tuple",data:= .seq (vs++ws).toArray}})
  (hsz:vs.length+ws.length<=sizeLine):wpAny (model prog w) A (binaryOp .Add (.ref t) (.ref b)) Q E s:=by
 obtain⟨⟨cls,dd,data,sl⟩,ho,hc,n,hd⟩:=id ht
 obtain⟨⟨cls2,dd2,data2,sl2⟩,ho2,hc2,n2,hd2⟩:=id hb
 simp only at hc hd hc2 hd2
 subst hc hd hc2 hd2
 have e:vs.toArray++ws.toArray=(vs++ws).toArray:=by simp
 by_cases hw:ws=[]
 ·exact concat_meets ⟨_,ho,rfl⟩ ⟨_,ho2,rfl⟩ XT Wu X0 YX (YT _ _)
   (tuple_addW1 t b vs.toArray ws.toArray n n2 dd dd2 sl sl2 (by simpa using hv) (by simp [hw])) ⟨ho,ho2,h1 hw⟩
 ·refine concat_meets ⟨_,ho,rfl⟩ ⟨_,ho2,rfl⟩ XT Wu X0 YX (YT _ _)
   (tuple_addW2 t b vs.toArray ws.toArray n n2 dd dd2 sl sl2 (by simpa using hv) (by simpa using hw) (by rw [Zo,Zo];exact hsz)) ⟨ho,ho2,?_⟩
  rw [e]
  exact h2 hw
def sIx(n d:Nat):Option Int->Nat
 |none=>d
 |some v=>if v<0 then(v+(n:Int)).toNat else min v.toNat n
end
end HT
namespace L2
open PySem PySem.Spec PyProof.Rows
abbrev TO:=St->Hp->(Option Int->Hp->Prop)->Prop
def POd(X:Cx)(e:Option Expr)(t:TO):Prop:=
 ∀(pins:tzB) (s:Shared) (σ:St) (H:Hp) (Q:Option Int->Hp->Prop),Inv X pins σ H s->t σ H Q->
  wpAny (model X.prog X.w) X.A (evalPart e X.env) (fun u s'=>∃o H',Inv X pins σ H' s'/\IsPart u o/\Q o H') X.xe s
structure PO(X:Cx)(e:Option Expr)(t:TO):Prop where
 go:POd X e t
instance {X:Cx} {e:Option Expr} {t:TO}:CoeFun (PO X e t) fun _=>POd X e t:=⟨PO.go⟩
def wc3:TO:=fun _ H Q=>Q none H
def wo9(t:TE):TO:=fun σ H Q=>t σ H fun x H1=>∃i,x= .int i/\Q (some i) H1
section
variable{X:Cx}{e:Expr}{te:TE}{lo hi:Option Expr}{tl th:TO}{pos p2:Pos}
theorem xw0:PO X none wc3:=⟨by
 intro pins s σ H Q I h
 rw [evalPart_none]
 exact ZD ⟨none,H,I,.none,h⟩⟩
theorem xw1(h:PE X e te):PO X (some e) (wo9 te):=⟨by
 intro pins s σ H Q I hw
 rw [evalPart_some]
 refine thn (h pins s σ H _ I hw) fun u s1 ⟨x,H1,I1,r1,q1⟩=> ?_
 obtain⟨i,rfl,q⟩:=q1
 obtain⟨t,rfl⟩:=r1
 exact⟨some i,H1,I1,.int i t,q⟩⟩
def SlR(X:Cx)(r:V->Option Int->Option Int->Hp->VK->Prop):Prop:=
 ∀(pins:tzB) (s:Shared) (σ:St) (H:Hp) (x:V) (v vl vu:Value) (lo hi:Option Int) (sl:Addr) (Q:VK),Inv X pins σ H s->cG x v->s.heap.IsSliceOf sl vl vu .none->IsPart vl lo->IsPart vu hi->r x lo hi H Q->
  ∃T id,typeLookup (.type T) "__getitem__"=pure (some (.builtin id))/\s.TypeIs v T/\wpAny (model X.prog X.w) X.A (getItem v (.ref sl)) (EP X pins σ Q) X.xe s
def tSl(r:V->Option Int->Option Int->Hp->VK->Prop)(te:TE)(tl th:TO):TE:=fun σ H Q=>te σ H fun x H1=>tl σ H1 fun l H2=>th σ H2 fun u H3=>r x l u H3 Q
theorem xl8{r:V->Option Int->Option Int->Hp->VK->Prop}(hr:SlR X r)(he:PE X e te)(hl:PO X lo tl)(hu:PO X hi th):PE X (.Subscript e (.Slice lo hi none p2) pos) (tSl r te tl th):=⟨by
 intro pins s σ H Q I h
 refine Subscript_ (thn (he pins s σ H _ I h) fun v s1 ⟨x,H1,I1,r1,q1⟩=> ?_)
 refine wpAny_Slice (thn (hl pins s1 σ H1 _ I1 q1) fun vl s2 ⟨l,H2,I2,pl,q2⟩=>thn (hu pins s2 σ H2 _ I2 q2) fun vu s3 ⟨u,H3,I3,pu,q3⟩=> ?_)
 rw [evalPart_none]
 refine ZD ?_
 have I4:Inv X pins σ H3 {s3 with heap:=s3.heap.push {cls:= .type "slice",data:= .fields #[vl,vu,.none]}}:=I3.kept (t':=s3.toks) fun b ob q=>Zh _ q
 obtain⟨T,id,hT,ht,hg⟩:=hr pins {s3 with heap:=s3.heap.push {cls:= .type "slice",data:= .fields #[vl,vu,.none]}} σ H3 x v vl vu l u s3.heap.objs.size Q I4 r1 (Heap.IsSliceOf.new ..) pl pu q3
 show wpAny (model X.prog X.w) X.A (subscriptTail e (.Slice lo hi none p2) v (.ref s3.heap.objs.size)) (EP X pins σ Q) X.xe {s3 with heap:=s3.heap.push {cls:= .type "slice",data:= .fields #[vl,vu,.none]}}
 exact tail_any (ops:=[.ref s3.heap.objs.size,v]) ht hT hg (by with_unfolding_all rfl)⟩
def zs5(xs:List V)(lo hi:Option Int):List V:=(xs.drop (HT.sIx xs.length 0 lo)).take (HT.sIx xs.length xs.length hi-HT.sIx xs.length 0 lo)
theorem yk2(xs:List V)(lo hi:Option Int):(zs5 xs lo hi).length<=xs.length:=by
 unfold zs5
 rw [YG,Xu]
 omega
def wp0(K:tz0):R2:=fun x y H Q=>∃a b xs ys,x= .ref a/\y= .ref b/\SqT K H a xs/\SqT K H b ys/\xs≠[]/\xs.length+ys.length<=sizeLine/\
 (ys=[]->Q (.ref a) H)/\(ys≠[]->∀p,H p=none->Q (.ref p) (upd H p (.tup (xs++ys))))
theorem bJ.nil_iff{xs:List V}{us:List Value}(r:bJ xs us):us=[]↔xs=[]:=by
 cases r with
 |nil=>simp
 |cons _ _=>simp
theorem xw2:OpR X (binaryOp .Add) (wp0 X.K):=⟨by
 intro pins s σ H x y v u Q I rx ry h
 obtain⟨a,b,xs,ys,rfl,rfl,ha,hb,hx,hz,q1,q2⟩:=h
 cases rx
 cases ry
 obtain⟨its,r1,p1,_⟩:=I.tuple ha
 obtain⟨its2,r2,p2,_⟩:=I.tuple hb
 refine HT.cat_tup p1 p2 (fun z=>hx (r1.nil_iff.mp z)) (fun z=>⟨.ref a,H,I,rfl,q1 (r2.nil_iff.mp z)⟩) (fun z=> ?_) (by rw [<-r1.length,<-r2.length];exact hz)
 refine⟨.ref s.heap.objs.size,_,I.laid (t':=s.toks) (o:= .tup (xs++ys)) (fun b ob q=>Zh _ q) (Zc _) ?_,rfl,q2 (fun w=>z (r2.nil_iff.mpr w)) _ (I.hok.fresh (Zc _))⟩
 exact⟨by rw [Z3];exact hz,_,r1.append r2,IsTup.new _ _⟩⟩
end
def ixN(n:Nat)(i:Int):Option Nat:=if 0<=i then(if i<n then some i.toNat else none) else if-(n:Int)<=i then some (i+n).toNat else none
def atI{α:Type}(xs:List α)(i:Int):Option α:=(ixN xs.length i).bind fun j=>xs[j]?
theorem zc4{n:Nat}{i:Int}{j:Nat}(h:ixN n i=some j):seqIndex? i n=some j/\j<n/\ -(n:Int)<=i/\i<n:=by
 unfold ixN at h
 by_cases h0:0<=i
 ·rw [if_pos h0] at h
  by_cases h1:i<n
  ·rw [if_pos h1] at h
   have e:i.toNat=j:=Zz h
   exact⟨by rw [seqIndex_of h0 h1,e],by omega,by omega,h1⟩
  ·rw [if_neg h1] at h;cases h
 ·rw [if_neg h0] at h
  by_cases h1: -(n:Int)<=i
  ·rw [if_pos h1] at h
   have e:(i+n).toNat=j:=Zz h
   exact⟨by rw [seqIndex_neg (by omega) h1,e],by omega,h1,by omega⟩
  ·rw [if_neg h1] at h;cases h
theorem pJ{α:Type}{xs:List α}{i:Int}{v:α}(h:atI xs i=some v):∃j,seqIndex? i xs.length=some j/\xs[j]? =some v/\j<xs.length/\ -(xs.length:Int)<=i/\i<xs.length:=by
 unfold atI at h
 cases e:ixN xs.length i with
 |none=>rw [e] at h;cases h
 |some j=>
  rw [e] at h
  obtain⟨h1,h2,h3,h4⟩:=zc4 e
  exact⟨j,h1,h,h2,h3,h4⟩
theorem zp7{α:Type}{xs:List α}{j:Nat}{v:α}(h:xs[j]? =some v):atI xs (j:Int)=some v:=by
 have hj:j<xs.length:=(Z5.mp h).1
 have e:ixN xs.length (j:Int)=some j:=by
  unfold ixN
  rw [if_pos (by omega),if_pos (by omega)];simp
 unfold atI;rw [e];exact h
theorem iD{α:Type}(xs:List α)(v:α):atI (xs++[v]) (-1)=some v:=by
 have hl:(xs++[v]).length=xs.length+1:=by simp
 have e:ixN (xs++[v]).length (-1)=some xs.length:=by
  unfold ixN
  rw [hl,if_neg (by decide),if_pos (by omega)]
  congr 1
  omega
 unfold atI
 rw [e]
 show(xs++[v])[xs.length]? =some v
 simp
def ze2(b:Expr):Prop:=∀o i,subscripted b false o i=operate [o,i] (getItem o i)
def IxR(X:Cx)(r:R2):Prop:=
 ∀(value slice:Expr) (pins:tzB) (s:Shared) (σ:St) (H:Hp) (x y:V) (v u:Value) (Q:VK),Inv X pins σ H s->cG x v->cG y u->r x y H Q->
  subscripted slice false v u=operate [v,u] (getItem v u)->wpAny (model X.prog X.w) X.A (subscriptTail value slice v u) (EP X pins σ Q) X.xe s
def wj9(X:Cx)(id:String)(r:V->List V->Hp->VK->Prop):Prop:=
 ∀(pins:tzB) (s:Shared) (σ:St) (H:Hp) (x:V) (xs:List V) (v:Value) (us:List Value) (Q:VK),Inv X pins σ H s->cG x v->bJ xs us->r x xs H Q->
  wpAny (model X.prog X.w) X.A (call (.builtin id) (v::us)) (EP X pins σ Q) X.xe s
structure MtR(X:Cx)(id:String)(r:V->List V->Hp->VK->Prop):Prop where
 go:wj9 X id r
instance {X:Cx} {id:String} {r:V->List V->Hp->VK->Prop}:CoeFun (MtR X id r) fun _=>wj9 X id r:=⟨MtR.go⟩
section
variable{X:Cx}{a b:Expr}{ta tb:TE}{pos:Pos}
theorem IxR.or{r r':R2}(h:IxR X r)(h':IxR X r'):IxR X (fun x y H Q=>r x y H Q\/r' x y H Q):=by
 intro value slice pins s σ H x y v u Q I rx ry q hs
 rcases q with q|q
 ·exact h value slice pins s σ H x y v u Q I rx ry q hs
 ·exact h' value slice pins s σ H x y v u Q I rx ry q hs
theorem zy6{r:R2}(hr:IxR X r)(ha:PE X a ta)(hb:PE X b tb)(hs:ze2 b):PE X (.Subscript a b pos) (tOp r ta tb):=⟨by
 intro pins s σ H Q I h
 exact Subscript_ (xk9 ha hb I h fun v u s2 x y H2 I2 rx ry q=>hr a b pins s2 σ H2 x y v u Q I2 rx ry q (hs _ _))⟩
def wk0(K:tz0):R2:=fun x y H Q=>∃p xs i v,x= .ref p/\y= .int i/\SqL K H p xs/\atI xs i=some v/\Q v H
def wk1(K:tz0):R2:=fun x y H Q=>∃p xs i v,x= .ref p/\y= .int i/\SqT K H p xs/\atI xs i=some v/\Q v H
def wk2:R2:=fun x y H Q=>∃z i c,x= .str z/\y= .int i/\z.length<=sizeLine/\atI z.cps.toList i=some c/\Q (.str ⟨#[c]⟩) H
theorem zp8:IxR X (wk0 X.K):=by
 intro value slice pins s σ H x y v u Q I rx ry h hs
 obtain⟨p,xs,i,z,rfl,rfl,hq,he,q⟩:=h
 cases rx
 obtain⟨t,rfl⟩:=ry
 obtain⟨its,r,pl,hz⟩:=I.list hq
 obtain⟨j,h1,h2,h3,h4,h5⟩:=pJ he
 obtain⟨w,ew,rw'⟩:=r.get h2
 have hl:=r.length
 have hn:=sT
 have fin:EP X pins σ Q w s:=⟨z,H,I,rw',q⟩
 by_cases h0:0<=i
 ·have hj:i.toNat=j:=by
   rw [seqIndex_of h0 h5] at h1
   exact Zz h1
  exact item_listR pl.isList h0 (by omega) (by rw [hj];simpa using ew) fin hs
 ·have hj:(i+(its.toArray.size:Int)).toNat=j:=by
   rw [seqIndex_neg (by omega) h4] at h1
   rw [Zo,<-hl]
   exact Zz h1
  exact subscriptTail_builtinR (x:=w) pl.isList.typeIs slot_list_getitem.lookup
   (wpAny_getItem_list_neg (Q:=fun r s'=>r=w/\EP X pins σ Q r s') pl.isList (by omega) (by rw [Zo]<;>omega) (by omega) (by rw [hj];simpa using ew) ⟨rfl,fin⟩) hs
theorem we2:IxR X (wk1 X.K):=by
 intro value slice pins s σ H x y v u Q I rx ry h hs
 obtain⟨p,xs,i,z,rfl,rfl,hq,he,q⟩:=h
 cases rx
 obtain⟨t,rfl⟩:=ry
 obtain⟨its,r,pl,hz⟩:=I.tuple hq
 obtain⟨j,h1,h2,h3,h4,h5⟩:=pJ he
 obtain⟨w,ew,rw'⟩:=r.get h2
 have hl:=r.length
 have hn:=sT
 have fin:EP X pins σ Q w s:=⟨z,H,I,rw',q⟩
 exact subscriptTail_builtinR (x:=w) pl.typeIs slot_tuple_getitem.lookup
  (getItem_tuple (j:=j) (Q:=fun r s'=>r=w/\EP X pins σ Q r s') pl (by omega) (by omega) (by rw [Zo,<-hl];exact h1) (by simpa using ew) ⟨rfl,fin⟩) hs
theorem we3:IxR X wk2:=by
 intro value slice pins s σ H x y v u Q I rx ry h hs
 obtain⟨z,i,c,rfl,rfl,hz,he,q⟩:=h
 obtain⟨t,rfl⟩:=rx
 obtain⟨t',rfl⟩:=ry
 obtain⟨j,h1,h2,h3,h4,h5⟩:=pJ he
 have hl:z.cps.toList.length=z.length:=by simp [Str.length]
 rw [hl] at h1 h4 h5
 have hn:=sT
 exact tail_any (Xd s z t) slot_str_getitem.lookup (getItem_str (c:=c) (by
  have e1:decide (i< -(2^63:Int))=false:=Zd (by omega)
  have e2:decide (i>=2^63)=false:=Zd (by omega)
  rw [e1,e2,Bool.or_false]) (by rw [h1];simpa using h2) ⟨.str ⟨#[c]⟩,H,I.tok _,⟨_,rfl⟩,q⟩) hs
def rIx(K:tz0):R2:=fun x y H Q=>wk0 K x y H Q\/wk1 K x y H Q\/wk2 x y H Q
theorem xa6:IxR X (rIx X.K):=zp8.or (we2.or we3)
theorem ys6(its:List Value)(n j:Nat)(u:Value):Obj.mapSeq (·.setIfInBounds j u) {cls:= .type "list",data:= .seq its.toArray n}={cls:= .type "list",data:= .seq (its.set j u).toArray n}:=by
 simp [Obj.mapSeq]
theorem Inv.lst{pins:tzB}{σ:St}{H:Hp}{s:Shared}{p:Addr}{xs:List V}(I:Inv X pins σ H s)(h:H p=some (.lst xs)):
  ∃(its:List Value) (n:Nat),bJ xs its/\s.heap.get? p=some {cls:= .type "list",data:= .seq its.toArray n}/\xs.length<=sizeLine:=by
 obtain⟨z,its,n,r,e⟩:=I.hok p _ h
 exact⟨its,n,r,e,z⟩
theorem Inv.lstUpd{pins:tzB}{σ:St}{H:Hp}{s:Shared}{p:Addr}{xs ys:List V}{its its':List Value}{n n':Nat}{f:Obj->Obj}(I:Inv X pins σ H s)(h:H p=some (.lst xs))
  (ho:s.heap.get? p=some {cls:= .type "list",data:= .seq its.toArray n}) (hf:f {cls:= .type "list",data:= .seq its.toArray n}={cls:= .type "list",data:= .seq its'.toArray n'}) (r:bJ ys its') (hz:ys.length<=sizeLine) (t:Nat):
  Inv X pins σ (upd H p (.lst ys)) {s with heap:=s.heap.update p f,toks:=t}:=by
 have e:(s.heap.update p f).get? p=some {cls:= .type "list",data:= .seq its'.toArray n'}:=by
  rw [Xm f ho (by rw [hf]<;>rfl),hf]
 refine I.write (x:=p) (e:=p) (by rw [h];trivial) (.inl rfl) (fun b u hb q=>(Y3 _ _ (Y8 hb)).trans q) ⟨_,e⟩ ?_
 exact⟨hz,its',n',r,e⟩
def wp1:V->V->V->Hp->(Hp->Prop)->Prop:=fun o i v H Q=>∃p xs k j,o= .ref p/\i= .int k/\H p=some (.lst xs)/\ixN xs.length k=some j/\Q (upd H p (.lst (xs.set j v)))
theorem xl9:wj3 X wp1:=by
 intro pins s σ H o i v ov iv u Q I ro ri rv h
 obtain⟨p,xs,k,j,rfl,rfl,hp,hj,q⟩:=h
 cases ro
 obtain⟨t,rfl⟩:=ri
 obtain⟨its,n,r,ho,hz⟩:=I.lst hp
 obtain⟨h1,h2,h3,h4⟩:=zc4 hj
 have hl:=r.length
 have hn:=sT
 have I':Inv X pins σ (upd H p (.lst (xs.set j v))) {s with heap:=s.heap.update p (Obj.mapSeq (·.setIfInBounds j u))}:=
  I.lstUpd hp ho (ys6 its n j u) (r.set rv j) (by rw [XD];exact hz) s.toks
 by_cases h0:0<=k
 ·have hk:k.toNat=j:=by
   rw [seqIndex_of h0 h4] at h1
   exact Zz h1
  exact PySem.W.ki_setAt ho h0 (by omega) (by rw [Zo,<-hl];exact h4) (by rw [hk];exact⟨_,I',q⟩)
 ·have hk:(k+(its.toArray.size:Int)).toNat=j:=by
   rw [seqIndex_neg (by omega) h3] at h1
   rw [Zo,<-hl]
   exact Zz h1
  exact PySem.W.ki_setBack ho (by omega) (by rw [Zo,<-hl];exact h3) (by omega) (by rw [hk];exact⟨_,I',q⟩)
theorem yb3(lo hi:Option Int)(n:Nat):(sliceBounds lo hi none n).1=((HT.sIx n 0 lo:Nat):Int)/\(sliceBounds lo hi none n).2.1=((HT.sIx n n hi:Nat):Int)/\(sliceBounds lo hi none n).2.2=1:=by
 refine⟨?_,?_,rfl⟩
 ·cases lo with
  |none=>simp [sliceBounds,HT.sIx]
  |some i=>
   simp only [sliceBounds,HT.sIx,Option.getD_none,show(1:Int)>0 by decide,Y2]
   by_cases h:i<0
   ·simp only [h,Y2]<;>omega
   ·simp only [h,Yy]<;>omega
 ·cases hi with
  |none=>simp [sliceBounds,HT.sIx]
  |some i=>
   simp only [sliceBounds,HT.sIx,Option.getD_none,show(1:Int)>0 by decide,Y2]
   by_cases h:i<0
   ·simp only [h,Y2]<;>omega
   ·simp only [h,Yy]<;>omega
theorem zx6(its:List Value)(lo hi:Option Int):slicePick its.toArray lo hi none=((its.drop (HT.sIx its.length 0 lo)).take (HT.sIx its.length its.length hi-HT.sIx its.length 0 lo)).toArray:=by
 obtain⟨h1,h2,h3⟩:=yb3 lo hi its.toArray.size
 unfold slicePick
 rw [h1,h2,h3]
 simp only [sliceRange_one,pick_run,Zo]<;>rfl
def ws2(K:tz0):V->Option Int->Option Int->Hp->VK->Prop:=fun x lo hi H Q=>∃a xs,x= .ref a/\SqL K H a xs/\∀p,H p=none->Q (.ref p) (upd H p (.lst (zs5 xs lo hi)))
theorem xw3:SlR X (ws2 X.K):=by
 intro pins s σ H x v vl vu lo hi sl Q I rx hs pl pu h
 obtain⟨a,xs,rfl,hx,q⟩:=h
 cases rx
 obtain⟨its,r,ht,hz⟩:=I.list hx
 have hlen:=r.length
 refine⟨"list",_,slot_list_getitem.lookup,ht.isList.typeIs,?_⟩
 refine wpAny_getItem_list_slice ht.isList hs pl pu .none (by simp) ?_ (by rw [Zo]<;>omega)
 rw [zx6,<-hlen]
 refine⟨.ref s.heap.objs.size,_,I.laid (t':=s.toks) (o:= .lst (zs5 xs lo hi)) (fun b ob q=>Zh _ q) (Zc _) ?_,rfl,q _ (I.hok.fresh (Zc _))⟩
 exact⟨Zt (yk2 xs lo hi) hz,_,0,(r.drop (HT.sIx xs.length 0 lo)).take (HT.sIx xs.length xs.length hi-HT.sIx xs.length 0 lo),Zv _ rfl⟩
def lK:V->Bool
 | .non=>true
 | .bl _=>true
 | .int _=>true
 | .str _=>true
 |_=>false
def eqV:V->V->Bool
 | .non,.non=>true
 | .bl a,.bl b=>a==b
 | .bl a,.int b=>(if a then 1 else 0)==b
 | .int a,.bl b=>a==(if b then 1 else 0)
 | .int a,.int b=>a==b
 | .str a,.str b=>a==b
 |_,_=>false
theorem we4{A:Around}{s:Shared}{y x:V}{u v:Value}(ry:cG y u)(rx:cG x v)(fy:lK y=true)(fx:lK x=true):SeqAt.EqAt A s u v (eqV y x):=by
 cases y with
 |non=>
  cases ry
  cases x with
  |non=>cases rx;exact SeqAt.EqAt.same _
  |bl b=>cases rx;exact SeqAt.EqAt.none_bool b
  |int b=>obtain⟨t,rfl⟩:=rx;exact SeqAt.EqAt.none_int b t
  |str b=>obtain⟨t,rfl⟩:=rx;exact SeqAt.EqAt.none_str b t
  |_=>exact absurd (show false=true from fx) Z7
 |bl a=>
  cases ry
  cases x with
  |non=>cases rx;exact SeqAt.EqAt.bool_none a
  |bl b=>cases rx;exact SeqAt.EqAt.bool_bool a b
  |int b=>obtain⟨t,rfl⟩:=rx;exact SeqAt.EqAt.bool_int a b t
  |str b=>obtain⟨t,rfl⟩:=rx;exact SeqAt.EqAt.bool_str a b t
  |_=>exact absurd (show false=true from fx) Z7
 |int a=>
  obtain⟨t',rfl⟩:=ry
  cases x with
  |non=>cases rx;exact SeqAt.EqAt.int_none a t'
  |bl b=>cases rx;exact SeqAt.EqAt.int_bool a t' b
  |int b=>obtain⟨t,rfl⟩:=rx;exact SeqAt.EqAt.int_int a t' b t
  |str b=>obtain⟨t,rfl⟩:=rx;exact SeqAt.EqAt.int_str a t' b t
  |_=>exact absurd (show false=true from fx) Z7
 |str a=>
  obtain⟨t',rfl⟩:=ry
  cases x with
  |non=>cases rx;exact SeqAt.EqAt.str_none a t'
  |bl b=>cases rx;exact SeqAt.EqAt.str_bool a t' b
  |int b=>obtain⟨t,rfl⟩:=rx;exact SeqAt.EqAt.str_int a t' b t
  |str b=>obtain⟨t,rfl⟩:=rx;exact SeqAt.EqAt.str_str a t' b t
  |_=>exact absurd (show false=true from fx) Z7
 |_=>exact absurd (show false=true from fy) Z7
def eqU(x:V)(u:Value):Bool:=match u with
 | .none=>eqV .non x
 | .bool b=>eqV (.bl b) x
 | .int i _=>eqV (.int i) x
 | .str z _=>eqV (.str z) x
 |_=>false
theorem xa7{x y:V}{u:Value}(r:cG y u)(f:lK y=true):eqU x u=eqV y x:=by
 cases y with
 |non=>cases r;rfl
 |bl b=>cases r;rfl
 |int i=>obtain⟨t,rfl⟩:=r;rfl
 |str z=>obtain⟨t,rfl⟩:=r;rfl
 |_=>exact absurd (show false=true from f) Z7
theorem zp9{x:V}:∀{xs:List V} {us:List Value},bJ xs us->xs.all lK=true->us.any (eqU x)=xs.any fun y=>eqV y x
 |_,_,.nil,_=>rfl
 |y::xs,u::us,.cons r t,f=>by
  rw [XU,Zx] at f
  rw [YU,YU,xa7 r f.1,zp9 t f.2]
theorem zg6{A:Around}{s:Shared}{x:V}{v:Value}(rx:cG x v)(fx:lK x=true):∀{xs:List V} {us:List Value},bJ xs us->xs.all lK=true->∀u∈us,SeqAt.EqAt A s u v (eqU x u)
 |_,_,.nil,_=>fun u hu=>by cases hu
 |y::xs,u::us,.cons r t,f=>fun u' hu=>by
  rw [XU,Zx] at f
  rcases Z4.mp hu with rfl|hu
  ·rw [xa7 r f.1];exact we4 r rx f.1 fx
  ·exact zg6 rx fx t f.2 u' hu
def inV(x:V)(xs:List V):Bool:=xs.any fun y=>eqV y x
def rIn(K:tz0)(neg:Bool):R2:=fun x y H Q=>∃p xs,y= .ref p/\(SqL K H p xs\/SqT K H p xs)/\lK x=true/\xs.all lK=true/\Q (.bl (if neg then !inV x xs else inV x xs)) H
theorem xa8:OpR X (compareOp .In) (rIn X.K false):=⟨by
 intro pins s σ H x y v u Q I rx ry h
 obtain⟨p,xs,rfl,hq,fx,fs,q⟩:=h
 cases ry
 rcases hq with hq|hq
 ·obtain⟨its,r,pl,hz⟩:=I.list hq
  refine SeqAt.in_listAt (eqU x) pl.isList (fun w hw=>zg6 rx fx r fs w (by simpa using hw)) ⟨.bl _,H,I,rfl,?_⟩
  rw [show its.toArray.any (eqU x)=its.any (eqU x) by simp,zp9 r fs]
  exact q
 ·obtain⟨its,r,pl,hz⟩:=I.tuple hq
  refine SeqAt.in_tupleAt (eqU x) pl (fun w hw=>zg6 rx fx r fs w (by simpa using hw)) ⟨.bl _,H,I,rfl,?_⟩
  rw [show its.toArray.any (eqU x)=its.any (eqU x) by simp,zp9 r fs]
  exact q⟩
theorem jT:CallR X (.builtin "len") (fun xs H Q=>∃p ys,xs=[.ref p]/\(SqL X.K H p ys\/SqT X.K H p ys)/\Q (.int ys.length) H):=⟨by
 intro pins s σ H xs us Q I r h
 obtain⟨p,ys,rfl,hq,q⟩:=h
 obtain⟨u,rfl,rx⟩:=oF r
 cases rx
 have hn:=sT
 rcases hq with hq|hq
 ·obtain⟨its,r',pl,hz⟩:=I.list hq
  have hlen:=r'.length
  exact Calls.call_len_list pl.isList (by simp only [Zo]<;>omega) ⟨.int ys.length,H,I.tok _,⟨s.toks+1,by rw [Zo,hlen]⟩,q⟩
 ·obtain⟨its,r',pl,hz⟩:=I.tuple hq
  have hlen:=r'.length
  exact len_tuple pl (by simp only [Zo]<;>omega) ⟨.int ys.length,H,I.tok _,⟨s.toks+1,by rw [Zo,hlen]⟩,q⟩⟩
theorem yb4:CallR X (.builtin "len") (fun xs H Q=>∃z,xs=[.str z]/\z.length<=sizeLine/\Q (.int z.length) H):=⟨by
 intro pins s σ H xs us Q I r h
 obtain⟨z,rfl,hz,q⟩:=h
 obtain⟨u,rfl,t,rfl⟩:=oF r
 have hn:=sT
 exact len_str (by omega) ⟨.int z.length,H,I.tok _,⟨_,rfl⟩,q⟩⟩
theorem yP:CallR X (.type "tuple") (fun xs H Q=>∃p ys,xs=[.ref p]/\((SqL X.K H p ys/\∀l,H l=none->Q (.ref l) (upd H l (.tup ys)))\/(SqT X.K H p ys/\Q (.ref p) H))):=⟨by
 intro pins s σ H xs us Q I r h
 obtain⟨p,ys,rfl,h⟩:=h
 obtain⟨u,rfl,rx⟩:=oF r
 cases rx
 rcases h with ⟨hq,q⟩|⟨hq,q⟩
 ·obtain⟨its,r',pl,hz⟩:=I.list hq
  have hlen:=r'.length
  refine call_tuple_list pl.isList (fun h' kp=> ?_) (by simp only [Zo]<;>omega)
  have I1:Inv X pins σ H {s with heap:=h'}:=I.kept (t':=s.toks) kp
  have I2:Inv X pins σ (upd H h'.objs.size (.tup ys)) {s with heap:=h'.push {cls:= .type "tuple",data:= .seq its.toArray}}:=
   I1.laid (t':=s.toks) (fun b o e=>Zh _ e) (Zc _) (show dH X.prog X.w _ _ _ (.tup ys) from⟨hz,its,r',IsTup.new _ _⟩)
  exact⟨.ref h'.objs.size,_,I2,rfl,q _ (I1.hok.fresh (Zc _))⟩
 ·obtain⟨its,r',pl,hz⟩:=I.tuple hq
  exact call_tuple_same pl ⟨.ref p,H,I,rfl,q⟩⟩
def tyV(K:tz0)(T:String)(x:V)(H:Hp):Prop:=match x with
 | .str _=>T="str"
 | .int _=>T="int"
 | .ref p=>(T="list"/\∃xs,SqL K H p xs)\/(T="tuple"/\∃o,K.lookup p=some o/\o.cls= .type "tuple"/\o.dict=none)\/
   (T="dict"/\((∃kvs,H p=some (.dK kvs))\/∃kvs,H p=some (.dT kvs)))\/(T="set"/\∃S n,H p=some (.set S n))
 |_=>False
theorem xa9{pins:tzB}{σ:St}{H:Hp}{s:Shared}{T:String}{x:V}{v:Value}(I:Inv X pins σ H s)(r:cG x v)(ty:tyV X.K T x H):
  s.TypeIs v T/\∀a,v= .ref a->∃ob,s.heap.get? a=some ob/\ob.dict=none:=by
 cases x with
 |str z=>
  obtain⟨t,rfl⟩:=r
  cases(show T="str" from ty)
  exact⟨Xd s z t,fun _ e=>nomatch e⟩
 |int i=>
  obtain⟨t,rfl⟩:=r
  cases(show T="int" from ty)
  exact⟨typeIs_int s i t,fun _ e=>nomatch e⟩
 | ref p=>
  cases r
  rcases ty with ⟨rfl,xs,hq⟩|⟨rfl,o,hk,hc,hd⟩|⟨rfl,hk⟩|⟨rfl,S,n,hk⟩
  ·obtain⟨its,_,pl,_⟩:=I.list hq
   refine⟨pl.isList.typeIs,fun a e=> ?_⟩
   cases e
   obtain⟨o,n,e,c,hd,_⟩:=pl
   exact⟨o,e,hd⟩
  ·refine⟨⟨o,I.kIn p o hk,hc⟩,fun a e=> ?_⟩
   cases e
   exact⟨o,I.kIn _ o hk,hd⟩
  ·have z:∃o,s.heap.get? p=some o/\o.ExactDict:=by
    rcases hk with ⟨kvs,hk⟩|⟨kvs,hk⟩
    ·obtain⟨_,_,_,_,o,_,_,e,ex,_⟩:=I.hok p _ hk
     exact⟨o,e,ex⟩
    ·obtain⟨_,_,_,_,o,_,_,e,ex,_⟩:=I.hok p _ hk
     exact⟨o,e,ex⟩
   obtain⟨o,e,ex⟩:=z
   refine⟨⟨o,e,ex.1⟩,fun a e2=> ?_⟩
   cases e2
   exact⟨o,e,ex.2.1⟩
  ·obtain⟨o,_,_,_,e,ex,_⟩:=I.hok p _ hk
   refine⟨⟨o,e,ex.1⟩,fun a e2=> ?_⟩
   cases e2
   exact⟨o,e,ex.2.1⟩
 |_=>exact False.elim ty
def ws3(K:tz0)(T:String)(r:V->List V->Hp->VK->Prop)(to:TE):TE:=fun σ H Q=>to σ H fun x H1=>tyV K T x H1/\r x [] H1 Q
def tBM(K:tz0)(T:String)(r:V->List V->Hp->VK->Prop)(to:TE)(t:TA):TE:=fun σ H Q=>to σ H fun x H1=>tyV K T x H1/\t σ H1 fun xs H2=>r x xs H2 Q
variable{o e:Expr}{es:List Expr}{to:TE}{t:TA}{name:Str}{apos cpos:Pos}{T id:String}{r:V->List V->Hp->VK->Prop}
theorem we5(pa:PlainAttrs T)(slot:Slot T name id)(hty:typeOf (.builtin id)=pure (.type "method_descriptor"))(hm:MtR X id r)(ho:PE X o to)
  (hbase:attributeBase o name X.env (eval o X.env)=eval o X.env:=by rfl) (hline:(apos.endLine==cpos.line)=true:=by rfl):PE X (.Call (.Attribute o name apos) [] [] cpos) (ws3 X.K T r to):=⟨by
 intro pins s σ H Q I h
 refine wpAny_Call_method0_late hbase hline (thn (ho pins s σ H _ I h) fun v s1 ⟨x,H1,I1,r1,ty,q1⟩=> ?_)
 obtain⟨h1,h2⟩:=xa9 I1 r1 ty
 exact⟨T,id,pa,slot,hty,h1,h2,Xe rfl (PySem.evalArgs_none (hm pins s1 σ H1 x [] v [] Q I1 r1 .nil q1))⟩⟩
theorem xt4(pa:PlainAttrs T)(slot:Slot T name id)(hty:typeOf (.builtin id)=pure (.type "method_descriptor"))(hm:MtR X id r)(ho:PE X o to)(ha:PA X (e::es) t)
  (hbase:attributeBase o name X.env (eval o X.env)=eval o X.env:=by rfl)
  (hfew:((backTo cpos (starEach (e::es) X.env)).all (fun x=> !x.1)&&(backToKw cpos (keywordEach [] X.env)).all (fun x=>x.1.isSome)
   &&decide ((e::es).length+([]:List Keyword).length+(if ([]:List Keyword).isEmpty then 0 else 1)<30))=true:=by rfl)
  (hline:(apos.endLine==cpos.line)=true:=by rfl) (hs:StE e es X:=by rfl) (hplain:(backTo cpos (starEach es X.env)).any (·.1)=false:=by rfl):
  PE X (.Call (.Attribute o name apos) (e::es) [] cpos) (tBM X.K T r to t):=⟨by
 intro pins s σ H Q I h
 refine wpAny_Call_method_late hbase hfew hline rfl (thn (ho pins s σ H _ I h) fun v s1 ⟨x,H1,I1,r1,ty,q1⟩=> ?_)
 obtain⟨h1,h2⟩:=xa9 I1 r1 ty
 refine⟨T,id,pa,slot,hty,h1,h2,?_⟩
 have hA:=ha cpos pins s1 σ H1 _ I1 q1
 rw [hs] at hA|-
 refine Xe (by show(false||(backTo cpos (starEach es X.env)).any (·.1))=false;rw [hplain]<;>rfl) (Calls.evalArgs_plain ?_)
 exact thn hA fun us s2 ⟨vs,H2,I2,r2,q2⟩=>hm pins s2 σ H2 x vs v us Q I2 r1 r2 q2⟩
end
theorem bJ.one:∀{x:V} {us:List Value},bJ [x] us->∃u,us=[u]/\cG x u
 |_,_,.cons r .nil=>⟨_,rfl,r⟩
theorem bJ.zero:∀{us:List Value},bJ [] us->us=[]
 |_,.nil=>rfl
theorem bJ.dropLast{xs:List V}{us:List Value}(h:bJ xs us):bJ xs.dropLast us.dropLast:=by
 induction h with
 |nil=>exact .nil
 |cons r t ih=>
  cases t with
  |nil=>exact .nil
  |cons q t'=>exact .cons r ih
theorem bJ.rep{xs:List V}{us:List Value}(h:bJ xs us):∀k:Nat,bJ (List.replicate k xs).flatten (List.replicate k us).flatten
 |0=> .nil
 |k+1=>by
  rw [Ye,Ye,Yz,Yz]
  exact bJ.append h (bJ.rep h k)
theorem ys7{α:Type}(l:List α):l.eraseIdx (l.length-1)=l.dropLast:=by
 induction l with
 |nil=>rfl
 | cons a r ih=>
  cases r with
  |nil=>rfl
  | cons b r=>
   have e:(a::b::r).length-1=((b::r).length-1)+1:=by
    have h1:(a::b::r).length=r.length+2:=rfl
    have h2:(b::r).length=r.length+1:=rfl
    omega
   rw [e,List.eraseIdx_cons_succ,ih]
   all_goals rfl
section
variable{X:Cx}{pins:tzB}{σ:St}{H:Hp}{s:Shared}{l b:Addr}{xs ys zs:List V}
theorem Inv.lset{its its':List Value}{n:Nat}{f:Array Value->Array Value}{t':Nat}(I:Inv X pins σ H s)(hH:H l=some (.lst xs))
  (e:s.heap.get? l=some {cls:= .type "list",data:= .seq its.toArray n}) (hf:f its.toArray=its'.toArray) (hv:bJ ys its') (hz:ys.length<=sizeLine):
  Inv X pins σ (upd H l (.lst ys)) {s with heap:=s.heap.update l (Obj.mapSeq f),toks:=t'}:=by
 have q:=PySem.IsL.update e f
 rw [hf] at q
 refine I.write (x:=l) (e:=l) (by rw [hH];exact trivial) (.inl rfl) (fun b' u hb hu=>(Y3 s.heap (Obj.mapSeq f) (Y8 hb)).trans hu) ⟨_,q⟩ ?_
 exact⟨hz,its',_,hv,q⟩
theorem Inv.lnew{its:List Value}{t':Nat}(I:Inv X pins σ H s)(hv:bJ ys its)(hz:ys.length<=sizeLine):
  Inv X pins σ (upd H s.heap.objs.size (.lst ys)) {s with heap:=s.heap.push {cls:= .type "list",data:= .seq its.toArray},toks:=t'}:=
 I.laid (fun _ _ q=>Zh _ q) (Zc _) ⟨hz,its,0,hv,Zv _ rfl⟩
theorem Inv.fresh(I:Inv X pins σ H s):H s.heap.objs.size=none:=I.hok.fresh (Zc _)
theorem Inv.lstM(I:Inv X pins σ H s)(hH:H l=some (.lst xs)):xs.length<=sizeLine/\∃(its:List Value) (n:Nat),bJ xs its/\xs.length=its.length/\s.heap.get? l=some {cls:= .type "list",data:= .seq its.toArray n}:=by
 obtain⟨z,its,n,r,e⟩:=I.hok l _ hH
 exact⟨z,its,n,r,r.length,e⟩
end
section
variable{X:Cx}
def wc4:V->List V->Hp->VK->Prop:=fun x vs H Q=>∃l xs y,x= .ref l/\vs=[y]/\H l=some (.lst xs)/\xs.length<sizeLine/\Q .non (upd H l (.lst (xs++[y])))
theorem zt7:MtR X "list.append" wc4:=⟨by
 intro pins s σ H x vs v us Q I rx rv h
 obtain⟨l,xs,y,rfl,rfl,hH,hz,q⟩:=h
 cases rx
 obtain⟨u,rfl,ru⟩:=rv.one
 obtain⟨z,its,n,r,hl,e⟩:=I.lstM hH
 refine XE F.slot_list_append ⟨_,e,rfl⟩ F.entry_list_append (F.args_list_append_2 _ _) (PySem.list_append l its.toArray n u (by rw [Zo];omega)) ⟨e,?_⟩
 refine⟨.non,_,I.lset (its':=its++[u]) hH e (by simp) (r.append (.cons ru .nil)) ?_,rfl,q⟩
 rw [Z3,Wf]
 omega⟩
def ws4:V->List V->Hp->VK->Prop:=fun x vs H Q=>∃l xs y,x= .ref l/\vs=[]/\H l=some (.lst xs)/\xs[xs.length-1]? =some y/\Q y (upd H l (.lst xs.dropLast))
theorem we6:MtR X "list.pop" ws4:=⟨by
 intro pins s σ H x vs v us Q I rx rv h
 obtain⟨l,xs,y,rfl,rfl,hH,hy,q⟩:=h
 cases rx
 have hus:=rv.zero
 subst hus
 obtain⟨z,its,n,r,hl,e⟩:=I.lstM hH
 obtain⟨u,hu,ru⟩:=r.get hy
 have hy':its.toArray[its.toArray.size-1]? =some u:=by
  show its.toArray[its.length-1]? =some u
  rw [<-Wg,<-hl]
  exact hu
 refine XE F.slot_list_pop ⟨_,e,rfl⟩ F.entry_list_pop (F.args_list_pop_1 _) (MeetsSeq.list_pop_last l its.toArray n u hy' (by rw [Zo];omega)) ⟨e,?_⟩
 refine⟨y,_,I.lset (its':=its.dropLast) hH e ?_ r.dropLast ?_,ru,q⟩
 ·show its.toArray.eraseIdxIfInBounds (its.toArray.size-1)=its.dropLast.toArray
  rw [Zo,List.eraseIdxIfInBounds_toArray,ys7]
 ·rw [List.length_dropLast]
  omega⟩
end
end L2
namespace Att
open PySem PySem.W PySem.Calls PyProof.Rows
theorem zj4{P:Params}{h:Heap}:∀(ns:List Int) (vs:List Value),WellAll P h vs (ns.map WData.int)->IntsAre vs ns:=by
 intro ns
 induction ns with
 |nil=>
  intro vs w
  rw [Xo] at w
  cases w
  exact .nil
 | cons n ns ih=>
  intro vs w
  rw [Z9] at w
  cases w with
  |cons a b=>
   cases a
   exact .cons _ _ (ih _ b)
theorem xb0{l:OpenLaw}{n:Nat}(hn:l.most=some n){P:Params}{h:Heap}{args:List WData}{vals:List Value}
  (hpre:l.row.toRowW.claim.pre args=true) (hwl:WellAll P h vals args):
  ∃a vs ns,vals=[Value.ref a]/\args=[WData.list (ns.map WData.int)]/\h.get? a=some {cls:= .type "list",data:= .seq vs.toArray}/\IntsAre vs ns/\ns.length<=n:=by
 have hsh:WShape.hasAll [] args [.list .int]=true:=(pre_splitW hpre).1
 have hc:l.pre.holds [] {args:=args}=true:=(pre_splitW hpre).2
 obtain⟨d,r,rfl,h1,h2⟩:=hasAllW_cons hsh
 obtain rfl:=hasAllW_nil h2
 obtain⟨xs,rfl,h3⟩:=hasW_list h1
 obtain⟨ns,rfl⟩:=items_int h3
 have hlen:ns.length<=n:=by
  unfold OpenLaw.pre at hc
  have h4:(WTm.not (.lt (.lit (.int (n:Int))) (.len (.arg 0)))).holds [] {args:=[.list (ns.map .int)]}=true:=by
   have h4:=(holds_andW hc).1
   rw [hn] at h4
   exact h4
  have h5:=condW_of h4 (w_not (w_lt w_lit (w_len_list (w_arg rfl))))
  rw [Zb] at h5
  refine Nat.le_of_not_lt fun q=> ?_
  have q':(n:Int)<((ns.length:Nat):Int):=by omega
  first
   |(rw [Zq q'] at h5;exact absurd h5 (by decide))
   |(simp at h5;omega)
 cases hwl with
 |cons w1 w2=>
  cases w2
  cases w1 with
  |list ho hall=>exact⟨_,_,ns,rfl,rfl,ho,zj4 ns _ hall,hlen⟩
theorem xb1(l:OpenLaw)(args:List WData):l.row.toRowW.claim.post args (.bool true) args=true:=
 postW_of (r:=l.row.toRowW) (X:=(true==true))
  (show WShape.has [] (.bool true) .bool=true by first|rfl|decide|simp [WShape.has,WShape.arms,WShape.armsAll])
  (show(WTm.eq .res (.lit (.bool true))).value [] {args:=args,res:=some (.bool true),after:=args}=some (.bool (true==true)) from w_eq_bool (w_res rfl) w_lit) rfl
theorem attach_call{l:OpenLaw}{n:Nat}{q:Program}{loose:List Str}{XP:(tzA)->Heap->Prop}{YP:World->Heap->Prop}{d:DefRec}
  (hn:l.most=some n) (hdf:d.params.defaults=[])
  (call:∀(w:World) (s₀ s₁:Shared) (mg mb:tzA) (fa:Addr) (o:Obj) (pm cd doc:Value) (a:Addr) (vs:List Value) (ns:List Int),
   Ground q loose [] XP w s₀ mg mb s₁.heap->YP w s₁.heap->
   s₁.heap.get? fa=some o->o.data= .func (docDef d.name d.params d.body d.scope pm cd doc)->s₁.heap.CodeRec cd d.name->mg d.name=some (.ref fa)->
   s₁.heap.get? a=some {cls:= .type "list",data:= .seq vs.toArray}->IntsAre vs ns->ns.length<=n->s₁.gens= #[]->
   codeAny (model l.prog w) callerA (.call (.ref fa) ⟨[.ref a],[]⟩) (fun r s'=>r= .ok (.ret (.bool true))/\OldK s₁.heap s'.heap/\s'.os=s₁.os/\AllBare s'.gens) s₁):
  WalkO q loose XP YP l.row.toRowW d [] (fun f vs=>PySem.call f vs):=by
 intro w s₀ s₁ mg mb G Y fa o pm cd doc dV kV ho hd hcd hD hmg hg args vals as hpre hlay hrd hwl hlo
 obtain rfl:dV= .none:=Dflts.none hD hdf
 obtain rfl:kV= .none:=Dflts.noKw hD
 obtain⟨a,vs,ns,rfl,rfl,hobj,hints,hlen⟩:=xb0 hn hpre hwl
 refine enter_call (YS (call w s₀ s₁ mg mb fa o pm cd doc a vs ns G Y ho (fd_plain hd) hcd hmg hobj hints hlen hg) fun r s' hq=> ?_)
 obtain⟨rfl,h2,h3,h4⟩:=hq
 exact⟨.inl ⟨.bool true,.bool true,[],rfl,fun _=>rfl,.bool true,xb1 l _,fun _=>⟨List.Pairwise.nil,fun _ hm=>(nomatch hm)⟩⟩,h2,h3,h4⟩
end Att
namespace L2
open PySem PySem.Spec PyProof.Rows
theorem zt8:∀{vs:List Value} {ns:List Int},IntsAre vs ns->bJ (ns.map V.int) vs
 |_,_,.nil=> .nil
 |_,_,.cons n t h=> .cons ⟨t,rfl⟩ (zt8 h)
def xr9(H:Hp):Prop:=∀b,H b=none\/∃o xs,H b=some (.frz o (.lst xs))
theorem xm0{P:Program}{w:World}{K:tz0}{mg mb:tzA}{CX:CXT}{k:Nat}{fa a:Addr}{fd:FuncData}{x:Str}{sp:Sp}{s₁:Shared}{vs:List Value}{ns:List Int}
  (KX:K.In s₁.heap) (hns:s₁.heap.Ns mainGlobals mg) (hb:s₁.heap.Ns builtinsNs mb) (hbb:∀x:Str,x≠"__name__"->mb x=bootBuiltins x) (hlim:s₁.heap.NoLimit) (hg:s₁.gens= #[])
  (ha:s₁.heap.get? a=some {cls:= .type "list",data:= .seq vs.toArray}) (hi:IntsAre vs ns) (hl:ns.length<=sizeLine) (hr:Room k callerA)
  (F:∀base:Heap,K.In base->base.Ns mainGlobals mg->FnOk P w K mg base CX k fa fd [x] sp) (hbind:∀(s:Shared) (u:Value),BindsTo s fd ⟨[u],[]⟩ [(x,u)])
  (hsp:∀H:Hp,xr9 H->SqL K H a (ns.map V.int)->sp [.ref a] H (fun v _=>v= .bl true) fun _ _ _=>False)
  (hCX:∀H e s',CX [] H s₁ (fun _ _ _=>False) e s'->False):
  codeAny (model P w) callerA (.call (.ref fa) ⟨[.ref a],[]⟩) (fun r s'=>r= .ok (.ret (.bool true))/\OldK s₁.heap s'.heap/\s'.os=s₁.os/\AllBare s'.gens) s₁:=by
 have rv:=zt8 hi
 have lenV:=hi.length
 have core:∀H:Hp,xr9 H->SqL K H a (ns.map V.int)->HOk P w H s₁.heap->(∀b,H b≠none->b=a)->(H a≠none->K.lookup a=none)->
   codeAny (model P w) callerA (.call (.ref fa) ⟨[.ref a],[]⟩) (fun r s'=>r= .ok (.ret (.bool true))/\OldK s₁.heap s'.heap/\s'.os=s₁.os/\AllBare s'.gens) s₁:=by
  intro H hO hS hok hA hK
  have base_of:∀{b:Addr} {o:Obj},s₁.heap.get? b=some o->H b=none->(xZ s₁.heap H).get? b=some o:=fun e n=>xk6 e n
  have noA:∀{b:Addr} {o:Obj} {es:Array DictEntry} {ep:Nat},s₁.heap.get? b=some o->o.data= .dict es ep->H b=none:=fun {b o es ep} e d=>by
   cases q:H b with
   |none=>rfl
   |some u=>
    have e':b=a:=hA b (by rw [q];simp)
    subst e'
    rw [ha] at e;cases e
    have d':Data.seq vs.toArray _=Data.dict es ep:=d
    cases d'
  have nsK:∀{b:Addr} {m:tzA},s₁.heap.Ns b m->(xZ s₁.heap H).Ns b m:=fun {b m} ⟨o,es,ep,e,d,r⟩=>⟨o,es,ep,base_of e (noA e d),d,r⟩
  have hKb:K.In (xZ s₁.heap H):=fun b o e=>base_of (KX b o e) (by
   cases q:H b with
   |none=>rfl
   |some u=>
    have e':b=a:=hA b (by rw [q];simp)
    subst e'
    rw [hK (by rw [q];simp)] at e;cases e)
  have hM:Mod K mg (xZ s₁.heap H):=⟨hKb,nsK hns,⟨mb,nsK hb,hbb⟩,let ⟨mc,h1,h2⟩:=hlim;⟨mc,nsK h1,h2⟩⟩
  have e0:Env0 P w K mg (xZ s₁.heap H) callerA [] s₁ H:=⟨rfl,hM,fun b o e=>xv2 e,Nat.le_of_eq (yy7 _ _),trivial,fun b hb=>absurd (show b∈([]:List Addr) from hb) (by simp),hok,.of_eq hg⟩
  refine YS ((F _ hKb (nsK hns)).run callerA [] s₁ H ⟨[.ref a],[]⟩ [.ref a] [.ref a] _ _ hr e0 (hbind s₁ (.ref a)) (.cons rfl .nil) (hsp H hO hS)) fun r s' h=> ?_
  cases r with
  |error e=>exact(hCX H e s' h).elim
  | ok fl=>
   cases fl with
   |next=>exact False.elim h
   |brk=>exact False.elim h
   |cont=>exact False.elim h
   | ret u=>
    obtain⟨v,H',os,bare,un,hok',r',q⟩:=h
    have q':v= .bl true:=q
    subst q'
    obtain rfl:u=Value.bool true:=r'
    refine⟨rfl,OldK.of_keep fun b o e=> ?_,os,bare⟩
    cases q:H b with
    |none=>exact un.keep b o e q (by intro z;exact absurd (show b∈([]:List Addr) from z) (by simp)) (by simp)
    | some u=>
     rcases hO b with z|⟨ob,xs,z⟩
     ·rw [q] at z;cases z
     ·have z2:=un.frzs b ob _ z
      obtain⟨e1,_⟩:=hok b _ z
      obtain⟨e2,_⟩:=hok' b _ z2
      rw [e] at e1;cases e1
      exact e2
 cases hk:K.lookup a with
 |some o=>
  have e:=KX a o hk
  rw [ha] at e
  cases e
  refine core (fun _=>none) (fun _=> .inl rfl) (.inr ⟨_,vs.toArray,_,hk,rfl,rfl,rfl,by rw [Zo,lenV];exact hl,by simpa using rv⟩) (fun b u z=>by have z':(none:Option HO)=some u:=z;cases z') (fun b z=>absurd rfl z) fun z=>absurd rfl z
 | none=>
  refine core (fun b=>if b=a then some (.frz {cls:= .type "list",data:= .seq vs.toArray} (.lst (ns.map V.int))) else none) (fun b=> ?_) (.inl (.inr ⟨{cls:= .type "list",data:= .seq vs.toArray},if_pos rfl⟩)) (fun b u z=> ?_) (fun b z=> ?_) fun _=>hk
  ·by_cases hb:b=a
   ·exact .inr ⟨_,_,if_pos hb⟩
   ·exact .inl (if_neg hb)
  ·by_cases hb:b=a
   ·have z':=(if_pos hb).symm.trans z
    cases z'
    subst hb
    exact⟨ha,by rw [Zb];exact hl,vs,_,rv,ha⟩
   ·have z':=(if_neg hb).symm.trans z
    cases z'
  ·by_cases hb:b=a
   ·exact hb
   ·exact absurd (if_neg hb) z
theorem xw4{l:PySem.W.OpenLaw}{n k:Nat}{q:Program}{loose:List Str}{XP:(tzA)->Heap->Prop}{YP:World->Heap->Prop}{d:DefRec}{K:Params->tz0}{CX:World->CXT}{sp:World->Sp}{x:Str}
  (hn:l.most=some n) (hn2:n<=sizeLine) (hdf:d.params.defaults=[]) (hr:Room k callerA)
  (hY:∀(w:World) (h:Heap),YP w h->(K w.params).In h)
  (F:∀(w:World) (mg:tzA) (fa:Addr) (h:Heap),(K w.params).In h->h.Ns mainGlobals mg->mg d.name=some (.ref fa)->
   ∃fd:FuncData,(∀(s:Shared) (u:Value),BindsTo s fd ⟨[u],[]⟩ [(x,u)])/\
    ∀base:Heap,(K w.params).In base->base.Ns mainGlobals mg->FnOk l.prog w (K w.params) mg base (CX w) k fa fd [x] (sp w))
  (hsp:∀(w:World) (H:Hp) (a:Addr) (ns:List Int),ns.length<=n->xr9 H->SqL (K w.params) H a (ns.map V.int)->sp w [.ref a] H (fun v _=>v= .bl true) fun _ _ _=>False)
  (hCX:∀(w:World) (H:Hp) (s:Shared) (e:Value) (s':Shared),CX w [] H s (fun _ _ _=>False) e s'->False):
  PySem.W.WalkO q loose XP YP l.row.toRowW d [] (fun f vs=>PySem.call f vs):=by
 refine Att.attach_call hn hdf fun w s₀ s₁ mg mb fa o pm cd doc a vs ns G Y ho hd hcd hmg hobj hints hlen hg=> ?_
 have KX:=hY w _ Y
 obtain⟨fd,hb,hF⟩:=F w mg fa _ KX G.T.g hmg
 exact xm0 KX G.T.g G.T.b G.T.builtins G.T.nolimit hg hobj hints (Zt hlen hn2) hr hF hb (fun H hO hS=>hsp w H a ns hlen hO hS) fun H e s'=>hCX w H s₁ e s'
def iQ(s:Stmt)(j:Nat):Stmt:=match s with
 | .ClassDef _ _ _ body _ _ _ _ _ _ _=>body.getD j (.Pass ⟨0,0,0,0⟩)
 |_=> .Pass ⟨0,0,0,0⟩
def wD(s:Stmt):Arguments:=match s with
 | .FunctionDef _ a _ _ _ _ _ _ _ _=>a
 |_=>{posonlyargs:=[],args:=[],vararg:=none,kwonlyargs:=[],kw_defaults:=[],kwarg:=none,defaults:=[]}
def mU(s:Stmt):List Stmt:=match s with
 | .FunctionDef _ _ b _ _ _ _ _ _ _=>b
 |_=>[]
def aS(s:Stmt):Scope:=match s with
 | .FunctionDef _ _ _ _ _ _ sc _ _ _=>sc
 |_=>{kind:= .function,names:=[],isGenerator:=false,isCoroutine:=false}
abbrev CX0:CXT:=fun _ _ _ _ _ _=>False
abbrev E0:XK:=fun _ _ _=>False
theorem zc5{X:Cx}:nH CX0 X E0:=fun _ _ _ _ _ _ _ h=>h.elim
structure Fun(K:tz0)(x qual:Str)(st:Stmt)(f:Addr)(fd:FuncData):Prop where
 ex:∃(oc:Value) (od:Option Addr) (kV doc pm:Value) (an:Option Addr) (cdv ct:Value) (osl:Array (Option Value)),
  fd=PySem.W.fnOf x qual (wD st) (mU st) (aS st) .none kV doc pm an cdv ct/\K.lookup f=some ⟨oc,od,.func fd,osl⟩/\PySem.W.codeIn K cdv qual=true
 kp:PySem.W.keepIn K (.ref f)=true
section
variable{P:Program}{w:World}{K:tz0}{mg:tzA}{base:Heap}
theorem Fun.ok{x qual:Str}{st:Stmt}{f:Addr}{fd:FuncData}{N ps:List Str}{k:Nat}{sp:Sp}(F:Fun K x qual st f fd)(S:FnScope N ps (aS st))(len:∀vs H Q E,sp vs H Q E->vs.length=ps.length)
  (hbody:∀(cdv:Value) (A:Around) (outer:List Env) (s:Shared) (H:Hp) (vs:List V) (Q:VK) (E:XK),Room k (A.deeper (envOfC qual (aS st) s.heap.objs.size f cdv))->sp vs H Q E->
   ∃t,PSs (iT CX0 P w K mg base N qual (aS st) f cdv A outer s H E).nox (mU st) t/\t {nx:=fun _ H'=>Q .non H',rt:=Q} (start N vs) H):FnOk P w K mg base CX0 (k+1) f fd ps sp:=by
 obtain⟨oc,od,kV,doc,pm,an,cdv,ct,osl,rfl,lk,hcd⟩:=F.ex
 refine xt3 lk hcd S len fun A outer s H vs Q E hr hsp=> ?_
 obtain⟨t,h,q⟩:=hbody cdv A outer s H vs Q E hr hsp
 exact⟨t,h.nox,q⟩
theorem Fun.binds{x qual:Str}{st:Stmt}{f:Addr}{fd:FuncData}{ps:List Str}(F:Fun K x qual st f fd)
  (h:∀(kV doc pm:Value) (an:Option Addr) (cdv ct:Value) (us:List Value),us.length=ps.length->bindArgs (PySem.W.fnOf x qual (wD st) (mU st) (aS st) .none kV doc pm an cdv ct) ⟨us,[]⟩=pure (ps.zip us)):lJ K fd ps []:=by
 obtain⟨oc,od,kV,doc,pm,an,cdv,ct,osl,rfl,lk,hcd⟩:=F.ex
 exact .all (h kV doc pm an cdv ct)
theorem xb2{x qual:Str}{st:Stmt}{f:Addr}{oc:Value}{od an:Option Addr}{osl:Array (Option Value)}{kV doc pm cdv ct:Value}(l:K.lookup f=some ⟨oc,od,.func (PySem.W.fnOf x qual (wD st) (mU st) (aS st) .none kV doc pm an cdv ct),osl⟩)
  (c:PySem.W.codeIn K cdv qual=true) (k:PySem.W.keepIn K (.ref f)=true):Fun K x qual st f (PySem.W.fnOf x qual (wD st) (mU st) (aS st) .none kV doc pm an cdv ct):=⟨⟨oc,od,kV,doc,pm,an,cdv,ct,osl,rfl,l,c⟩,k⟩
end
theorem uD{A:Around}{k:Nat}(hr:Room k A):A.units+1<cLine:=Y4 (Nat.add_le_add_left (by decide:1<=64) _) hr.units
theorem nW{n:Nat}(h:n<=1000):n<sizeLine:=Y4 h (by decide)
section
variable{X:Cx}
theorem pv(i:Nat){x:Str}{pos:Pos}(hN:X.N[i]? =some x:=by rfl)(hv:Vis X.env.scope x:=by first|exact Or.inl rfl|exact Or.inr (Or.inl rfl)|exact Or.inr (Or.inr rfl))(hd:NDb x:=by decide)
  (hcd:(x==("__classdict__":Str))=false:=by decide):PE X (.Name x pos) (wj0 i):=qH hN hv hd hcd
end
theorem wp8{c A B:Prop}[Decidable c](h1:c->A)(h2:¬c->B):if c then A else B:=by
 by_cases h:c
 ·rw [if_pos h]
  exact h1 h
 ·rw [if_neg h]
  exact h2 h
def yx0(H H':Hp):Prop:=∀b o,H b=some o->H' b=some o
theorem yx0.free{H H':Hp}(e:yx0 H H'){l:Addr}(h:H' l=Option.none):H l=Option.none:=by
 cases q:H l with
 |none=>rfl
 |some o=>
  rw [e l o q] at h
  cases h
section
variable{U:Type}[DecidableEq U]
def pP(kvs:List (U×V))(k:U):Option V:=(kvs.find? fun kv=>decide (kv.1=k)).map (·.2)
def jX(kvs:List (U×V))(k:U)(v:V):List (U×V):=
 if (kvs.any fun kv=>decide (kv.1=k))=true then kvs.map (fun kv=>if kv.1=k then(kv.1,v) else kv) else kvs++[(k,v)]
theorem sV{p:U×V}{r:List (U×V)}{k:U}(e:p.1=k):pP (p::r) k=some p.2:=by simp [pP,Yp,e]
theorem sW{p:U×V}{r:List (U×V)}{k:U}(e:¬p.1=k):pP (p::r) k=pP r k:=by simp [pP,Yp,e]
theorem zg7(k:U):∀kvs:List (U×V),(kvs.any fun kv=>decide (kv.1=k))=(pP kvs k).isSome
 |[]=>rfl
 |p::r=>by
  rw [YU]
  by_cases e:p.1=k
  ·simp only [sV e,Zq e,Bool.true_or,Option.isSome_some]
  ·rw [sW e,Zd e,Bool.false_or];exact zg7 k r
theorem zg1(kvs:List (U×V))(k:U)(v:V):(jX kvs k v).length<=kvs.length+1:=by
 unfold jX
 split
 ·rw [Zb];omega
 ·rw [Z3,Z6,ZZ];omega
theorem kL.isSome_eq{o:Option V}{u:Option Value}(r:kL o u):o.isSome=u.isSome:=by
 cases o with
 |none=>cases u with
  |none=>rfl
  |some _=>exact(show False from r).elim
 |some _=>cases u with
  |none=>exact(show False from r).elim
  |some _=>rfl
theorem KV.val{kvs:List (U×V)}{vs:List (U×Value)}(r:KV kvs vs)(k:U):kL (pP kvs k) (valueAt vs k):=by
 unfold KV at r
 induction r with
 |nil=>exact True.intro
 | @cons p q ps qs h t ih=>
  obtain⟨h1,h2⟩:=h
  by_cases e:p.1=k
  ·have e':q.1=k:=h1.symm.trans e
   have b:valueAt (q::qs) k=some q.2:=by simp [valueAt,Yp,e']
   rw [sV e,b];exact h2
  ·have e':¬q.1=k:=fun z=>e (h1.trans z)
   have b:valueAt (q::qs) k=valueAt qs k:=by simp [valueAt,Yp,e']
   rw [sW e,b];exact ih
theorem KV.any{kvs:List (U×V)}{vs:List (U×Value)}(r:KV kvs vs)(k:U):(kvs.any fun kv=>decide (kv.1=k))=vs.any fun kv=>decide (kv.1=k):=by
 unfold KV at r
 induction r with
 |nil=>rfl
 |cons h t ih=>rw [YU,YU,ih,h.1]
theorem KV.repl{kvs:List (U×V)}{vs:List (U×Value)}(r:KV kvs vs)(k:U){y:V}{u:Value}(ry:cG y u):
  KV (kvs.map fun kv=>if kv.1=k then(kv.1,y) else kv) (vs.map fun kv=>if kv.1=k then(kv.1,u) else kv):=by
 unfold KV at r|-
 induction r with
 |nil=>exact .nil
 | @cons p q ps qs h t ih=>
  rw [Z9,Z9]
  refine .cons ?_ ih
  obtain⟨h1,h2⟩:=h
  by_cases e:p.1=k
  ·rw [if_pos e,if_pos (h1.symm.trans e)];exact⟨h1,ry⟩
  ·rw [if_neg e,if_neg (fun z=>e (h1.trans z))];exact⟨h1,h2⟩
theorem KV.put{kvs:List (U×V)}{vs:List (U×Value)}(r:KV kvs vs)(k:U){y:V}{u:Value}(ry:cG y u):KV (jX kvs k y) (stored vs k u):=by
 unfold jX stored
 rw [r.any k]
 by_cases e:(vs.any fun kv=>decide (kv.1=k))=true
 ·rw [if_pos e,if_pos e];exact r.repl k ry
 ·rw [if_neg e,if_neg e];exact Paired.snoc r ⟨rfl,ry⟩
theorem KV.keys{kvs:List (U×V)}{vs:List (U×Value)}(r:KV kvs vs):kvs.map (·.1)=vs.map (·.1):=by
 unfold KV at r
 induction r with
 |nil=>rfl
 |cons h t ih=>rw [Z9,Z9,ih,h.1]
theorem KV.length{kvs:List (U×V)}{vs:List (U×Value)}(r:KV kvs vs):kvs.length=vs.length:=ZI r
end
theorem zy7{P:Program}{w:World}{k:Key}{u:Value}(r:cG (kV k) u):(eQ P w).is k u=true:=by
 cases k with
 |inl i=>obtain⟨t,e⟩:=(show ∃t,u=Value.int i t from r);subst e;exact yk0 P w i t
 |inr x=>obtain⟨t,e⟩:=(show ∃t,u=Value.str x t from r);subst e;exact yk1 P w x t
theorem zt9{P:Program}{w:World}:∀{ks:List Key} {us:List Value},bJ (ks.map kV) us->ItemsAre (eQ P w) ks us
 |[],_,r=>by rw [Xo] at r;cases r;exact .nil
 |k::ks,_,r=>by
  rw [Z9] at r
  cases r with
  |cons h t=>exact .cons (zy7 h) (zt9 t)
abbrev KT(H:Hp):List (List Key×V)->List (List Key×Addr×Value)->Prop:=Paired fun p q=>p.1=q.1/\H q.2.1=some (.tup (p.1.map kV))/\cG p.2 q.2.2
theorem KT.val{H:Hp}{kvs:List (List Key×V)}{xs:List (List Key×Addr×Value)}(r:KT H kvs xs)(k:List Key):kL (pP kvs k) ((atKey xs k).map (·.2)):=by
 induction r with
 |nil=>exact True.intro
 | @cons p q ps qs h t ih=>
  obtain⟨h1,_,h2⟩:=h
  by_cases e:p.1=k
  ·have e':q.1=k:=h1.symm.trans e
   have b:atKey (q::qs) k=some q.2:=by simp [atKey,Yp,e']
   rw [sV e,b];exact h2
  ·have e':¬q.1=k:=fun z=>e (h1.trans z)
   have b:atKey (q::qs) k=atKey qs k:=by simp [atKey,Yp,e']
   rw [sW e,b];exact ih
theorem KT.repl{H:Hp}{kvs:List (List Key×V)}{xs:List (List Key×Addr×Value)}(r:KT H kvs xs)(k:List Key){y:V}{u:Value}(ry:cG y u):
  KT H (kvs.map fun kv=>if kv.1=k then(kv.1,y) else kv) (xs.map (putAt k u)):=by
 induction r with
 |nil=>exact .nil
 | @cons p q ps qs h t ih=>
  rw [Z9,Z9]
  refine .cons ?_ ih
  obtain⟨h1,h2,h3⟩:=h
  unfold putAt
  by_cases e:p.1=k
  ·rw [if_pos e,if_pos (h1.symm.trans e)];exact⟨h1,h2,ry⟩
  ·rw [if_neg e,if_neg (fun z=>e (h1.trans z))];exact⟨h1,h2,h3⟩
theorem KT.put{H:Hp}{kvs:List (List Key×V)}{xs:List (List Key×Addr×Value)}(r:KT H kvs xs)(k:List Key){b:Addr}{y:V}{u:Value}(hb:H b=some (.tup (k.map kV)))(ry:cG y u):
  KT H (jX kvs k y) (storedH xs k b u):=by
 have e:(kvs.any fun kv=>decide (kv.1=k))=(atKey xs k).isSome:=by
  rw [zg7,(r.val k).isSome_eq,Wy]
 unfold jX storedH
 rw [e]
 by_cases q:(atKey xs k).isSome=true
 ·rw [if_pos q,if_pos q];exact r.repl k ry
 ·rw [if_neg q,if_neg q];exact Paired.snoc r ⟨rfl,hb,ry⟩
theorem KT.keeps{H H':Hp}{kvs:List (List Key×V)}{xs:List (List Key×Addr×Value)}(r:KT H kvs xs)(ht:∀b ys,H b=some (.tup ys)->H' b=some (.tup ys)):KT H' kvs xs:=
 Paired.mapP r fun _ _ z=>⟨z.1,ht _ _ z.2.1,z.2.2⟩
section
variable{P:Program}{w:World}{H:Hp}{h:Heap}{a:Addr}
theorem xt5{u:HO}(ok:HOk P w H h)(e:Rd H a u):dH P w H h a u:=e.ok ok
theorem uE{kvs:List (Key×V)}(ok:HOk P w H h)(e:Rd H a (.dK kvs)):kvs.length<=sizeLine/\(a==sysModules)=false/\∃vs,KV kvs vs/\h.DictOf (eQ P w) a vs:=
 show dH P w H h a (.dK kvs) from xt5 ok e
theorem wm2{kvs:List (Key×V)}(ok:HOk P w H h)(e:H a=some (.dK kvs)):kvs.length<=sizeLine/\(a==sysModules)=false/\∃vs,KV kvs vs/\h.DictOf (eQ P w) a vs:=uE ok (.inl e)
theorem zj5{ks:List Key}(ok:HOk P w H h)(e:H a=some (.tup (ks.map kV))):(tupleKind (eQ P w)).is h ks a:=by
 obtain⟨_,its,r,o,h1,h2,n,h3⟩:=(show dH P w H h a (.tup (ks.map kV)) from ok a _ e)
 exact⟨o,its.toArray,n,h1,h2,h3,by simpa using zt9 r⟩
theorem zj6{kvs:List (List Key×V)}(ok:HOk P w H h)(e:Rd H a (.dT kvs)):kvs.length<=sizeLine/\(a==sysModules)=false/\
  ∃xs,KT H kvs xs/\h.DictOfH (tupleKind (eQ P w)) a xs:=by
 obtain⟨z,y,xs,r,o,es,ep,h1,h2,h3,h4,h5⟩:=(show dH P w H h a (.dT kvs) from xt5 ok e)
 refine⟨z,y,xs,r,o,es,ep,h1,h2,h3,h4,fun x hx=> ?_,h5⟩
 have all:∀{l:List (List Key×V)} {m:List (List Key×Addr×Value)},KT H l m->∀x∈m,(tupleKind (eQ P w)).is h x.1 x.2.1:=by
  intro l m q
  induction q with
  |nil=>intro x hx;exact nomatch hx
  | @cons p q ps qs hq t ih=>
   intro x hx
   rcases Z4.mp hx with e|hx
   ·subst e
    exact zj5 ok (by rw [<-hq.1];exact hq.2.1)
   ·exact ih x hx
 exact all r x hx
theorem wm3{kvs:List (List Key×V)}(ok:HOk P w H h)(e:H a=some (.dT kvs)):kvs.length<=sizeLine/\(a==sysModules)=false/\
  ∃xs,KT H kvs xs/\h.DictOfH (tupleKind (eQ P w)) a xs:=zj6 ok (.inl e)
end
def zs6(H:Hp)(a:Addr)(y:V)(r:Option V):Prop:=
 (∃kvs k,Rd H a (.dK kvs)/\y=kV k/\r=pP kvs k)\/∃kvs k b,Rd H a (.dT kvs)/\y= .ref b/\H b=some (.tup (k.map kV))/\r=pP kvs k
def wk3(H:Hp)(a:Addr)(y v:V)(H':Hp):Prop:=
 (∃kvs k,H a=some (.dK kvs)/\y=kV k/\kvs.length<sizeLine/\H'=upd H a (.dK (jX kvs k v)))\/
 ∃kvs k b,H a=some (.dT kvs)/\y= .ref b/\H b=some (.tup (k.map kV))/\kvs.length<sizeLine/\H'=upd H a (.dT (jX kvs k v))
section
variable{X:Cx}{pins:tzB}{σ:St}{H:Hp}{s:Shared}{a:Addr}{y v:V}{u r:Value}{o:Option V}{A:Around}{E:Value->Shared->Prop}
theorem Inv.big(I:Inv X pins σ H s):sysModules<s.heap.objs.size:=by
 have h:mainGlobals<s.heap.objs.size:=(I.mod.glob.keeps I.bk).lt
 exact Nat.lt_trans (by decide) h
theorem xb3{Q:Value->Shared->Prop}(hu:A.units+1<cLine)(I:Inv X pins σ H s)(g:zs6 H a y (some v))(ry:cG y u)(h:∀w' s',Inv X pins σ H s'->cG v w'->Q w' s'):
  wpAny (model X.prog X.w) A (getItem (.ref a) u) Q E s:=by
 rcases g with ⟨kvs,k,e,ey,l⟩|⟨kvs,k,b,e,ey,eb,l⟩
 ·subst ey
  obtain⟨z,hd,vs,rel,dd⟩:=uE I.hok e
  obtain⟨w',hw,rw'⟩:=kL.some_of (v:=v) (o:=valueAt vs k) (by rw [l];exact rel.val k)
  exact wpAny_getItem_of (zy7 ry) dd.mapOf hw (h w' _ (I.tok _) rw')
 ·subst ey
  cases(show u=Value.ref b from ry)
  obtain⟨z,hd,xs,rel,dd⟩:=zj6 I.hok e
  obtain⟨w',hw,rw'⟩:=kL.some_of (v:=v) (o:=(atKey xs k).map (·.2)) (by rw [l];exact rel.val k)
  obtain⟨p,hp,hp2⟩:=Zr.mp hw
  refine wpAny_getItem_heap (XF hu) (zj5 I.hok eb) dd hp ?_
  rw [hp2]
  exact h w' _ (I.tok _) rw'
theorem xw5{Q:Value->Shared->Prop}(hu:A.units+1<cLine)(I:Inv X pins σ H s)(g:zs6 H a y o)(ry:cG y u)(h:∀s',Inv X pins σ H s'->Q (.bool (!o.isSome)) s'):
  wpAny (model X.prog X.w) A (compareOp .NotIn u (.ref a)) Q E s:=by
 rcases g with ⟨kvs,k,e,ey,l⟩|⟨kvs,k,b,e,ey,eb,l⟩
 ·subst ey
  obtain⟨z,hd,vs,rel,dd⟩:=uE I.hok e
  refine wpAny_notIn_of (zy7 ry) hd dd.mapOf ?_
  rw [<-(rel.val k).isSome_eq,<-l]
  exact h _ (I.tok _)
 ·subst ey
  cases(show u=Value.ref b from ry)
  obtain⟨z,hd,xs,rel,dd⟩:=zj6 I.hok e
  refine wpAny_notIn_heap (XF hu) (zj5 I.hok eb) hd dd ?_
  have q:=(rel.val k).isSome_eq
  rw [Wy] at q
  rw [<-q,<-l]
  exact h _ (I.tok _)
theorem ym4{h':Heap}{t':Nat}{ob:HO}(I:Inv X pins σ H s)(mu:Mut (H a))(hs:Heap.SameBut a s.heap h')(he:∃q,h'.get? a=some q)(new:dH X.prog X.w (upd H a ob) h' a ob):
  Inv X pins σ (upd H a ob) {s with heap:=h',toks:=t'}:=
 I.write (x:=a) (e:=a) mu (.inl rfl) (fun b q hb z=>(hs.2 b hb).trans z) he new
theorem we7{P:Program}{w:World}{H':Hp}{h':Heap}{kvs:List (Key×V)}{vs:List (Key×Value)}(z:kvs.length<=sizeLine)(hd:(a==sysModules)=false)(rel:KV kvs vs)(dd:h'.DictOf (eQ P w) a vs):
  dH P w H' h' a (.dK kvs):=⟨z,hd,vs,rel,dd⟩
theorem xb4{H':Hp}{Q:Unit->Shared->Prop}(hu:A.units+1<cLine)(I:Inv X pins σ H s)(g:wk3 H a y v H')(ry:cG y u)(rv:cG v r)(h:∀s',Inv X pins σ H' s'->Q () s'):
  wpAny (model X.prog X.w) A (setItem (.ref a) u r) Q E s:=by
 rcases g with ⟨kvs,k,e,ey,l,eH⟩|⟨kvs,k,b,e,ey,eb,l,eH⟩
 ·subst ey eH
  obtain⟨z,hd,vs,rel,dd⟩:=wm2 I.hok e
  have hz:vs.length<=sizeLine:=by rw [<-rel.length];exact z
  have hl:(jX kvs k v).length<=sizeLine:=by have:=zg1 kvs k v;omega
  refine wpAny_setItem_pairs (hsz:=hz) (zy7 ry) dd fun h' dd' hs=>h _ ?_
  have he:∃q,h'.get? a=some q:=let ⟨q,_,_,hq,_⟩:=dd';⟨q,hq⟩
  exact ym4 I (by rw [e];exact True.intro) hs he (we7 hl hd (rel.put k rv) dd')
 ·subst ey eH
  cases(show u=Value.ref b from ry)
  obtain⟨z,hd,xs,rel,dd⟩:=wm3 I.hok e
  have hz:xs.length<=sizeLine:=by rw [<-ZI rel];exact z
  have hl:(jX kvs k v).length<=sizeLine:=by have:=zg1 kvs k v;omega
  refine wpAny_setItem_heap (hsz:=hz) (XF hu) (zj5 I.hok eb) dd fun h' dd' hs=>h _ ?_
  obtain⟨q,es,ep,hq,h2,h3,h4,_,h5⟩:=dd'
  refine ym4 I (by rw [e];exact True.intro) hs ⟨q,hq⟩ ⟨hl,hd,_,(rel.put k eb rv).keeps fun c ys ec=> ?_,q,es,ep,hq,h2,h3,h4,h5⟩
  rw [bI (wl5 ec e (fun z=>nomatch z))]
  exact ec
end
section
variable{X:Cx}{pins:tzB}{σ:St}{H:Hp}{s:Shared}{a:Addr}{kvs:List (Key×V)}{k:Key}{u:Value}{A:Around}{E:Value->Shared->Prop}
theorem xw6{Q:Bool->Shared->Prop}(I:Inv X pins σ H s)(e:Rd H a (.dK kvs))(h:∀s',Inv X pins σ H s'->Q (!kvs.isEmpty) s'):wpAny (model X.prog X.w) A (truthy (.ref a)) Q E s:=by
 obtain⟨z,hd,vs,rel,dd⟩:=uE I.hok e
 refine wpAny_truthy_dict hd dd (by rw [<-rel.length];rw [Y6] at z;omega) ?_
 have q:kvs.isEmpty=vs.isEmpty:=by cases rel<;>rfl
 rw [<-q]
 exact h _ (I.tok _)
end
def xs0(i:Expr):Prop:=∀ov iv,subscripted i false ov iv=operate [ov,iv] (getItem ov iv)
theorem xw7{prog:Program}{w:World}{A:Around}{E:Value->Shared->Prop}{s:Shared}{env:Env}{value slice:Expr}{pos:Pos}{T id:String}{Q:Value->Shared->Prop}
  (hl:typeLookup (.type T) "__getitem__"=pure (some (.builtin id))) (hs:xs0 slice)
  (h:wpAny (model prog w) A (eval value env) (fun o s₁=>wpAny (model prog w) A (eval slice env) (fun i s₂=>s₂.TypeIs o T/\wpAny (model prog w) A (getItem o i) Q E s₂) E s₁) E s):
  wpAny (model prog w) A (eval (.Subscript value slice pos) env) Q E s:=by
 refine Subscript_ (ZH h (fun o s₁ h₁=>ZH h₁ (fun i s₂ h₂=> ?_) fun _ _ x=>x) fun _ _ x=>x)
 obtain⟨hT,h₂⟩:=h₂
 unfold subscriptTail
 refine Zf ?_
 rw [getitemInPython_of_ne hT.not_modules]
 refine Zf (wpAny_specialOf hT hl ?_)
 have fin:wpAny (model prog w) A (subscripted slice false o i) (fun r s₃=>wpAny (model prog w) A (letTemporaryGo value o r>>=fun _=>pure r) Q E s₃) E s₂:=by
  rw [hs o i]
  exact wpAny_operating (ZH h₂ (fun r s₃ h₃=>Zf (wpAny_letTemporaryGo (ZD h₃))) fun _ _ x=>x)
 first
  |exact ZD (Zf fin)
  |exact Zf (ZD (Zf fin))
  |exact Zf fin
theorem yk3{X:Cx}{pins:tzB}{σ:St}{H:Hp}{s:Shared}{a:Addr}{y:V}{o:Option V}(I:Inv X pins σ H s)(g:zs6 H a y o):s.TypeIs (.ref a) "dict":=by
 rcases g with ⟨kvs,k,e,_,_⟩|⟨kvs,k,b,e,_,_,_⟩
 ·obtain⟨_,_,vs,_,dd⟩:=uE I.hok e
  exact dd.typeIs
 ·obtain⟨_,_,xs,_,dd⟩:=zj6 I.hok e
  exact dd.typeIs
def wp2(td ty:TE):TE:=fun σ H Q=>td σ H fun x H1=>ty σ H1 fun y H2=>∃a v,x= .ref a/\zs6 H2 a y (some v)/\Q v H2
def wc5(ty td:TE):TE:=fun σ H Q=>ty σ H fun y H1=>td σ H1 fun x H2=>∃a o,x= .ref a/\zs6 H2 a y o/\Q (.bl (!o.isSome)) H2
def wp3(td ty tv:TE):TS:=fun D σ H=>tv σ H fun v H1=>td σ H1 fun x H2=>ty σ H2 fun y H3=>∃a H4,x= .ref a/\wk3 H3 a y v H4/\D.nx σ H4
section
variable{X:Cx}{o i e value:Expr}{pos pos' tpos:Pos}{td ty tv:TE}
theorem xw8(hu:X.A.units+1<cLine)(ho:PE X o td)(hi:PE X i ty)(hs:xs0 i):PE X (.Subscript o i pos) (wp2 td ty):=⟨by
 intro pins s σ H Q I h
 refine xw7 PySem.F.slot_dict_getitem.lookup hs (thn (ho pins s σ H _ I h) fun u s1 ⟨x,H1,I1,rx,q1⟩=>thn (hi pins s1 σ H1 _ I1 q1) fun iv s2 ⟨y,H2,I2,ry,a,v,ex,g,q2⟩=> ?_)
 subst ex
 obtain rfl:u=Value.ref a:=rx
 exact⟨yk3 I2 g,xb3 hu I2 g ry fun w' s3 I3 rw'=>⟨v,H2,I3,rw',q2⟩⟩⟩
theorem xb5(hu:X.A.units+1<cLine)(hi:PE X i ty)(ho:PE X o td):PC X .NotIn i o (wc5 ty td):=by
 intro pins s σ H Q I h
 refine thn (hi pins s σ H _ I h) fun iv s1 ⟨y,H1,I1,ry,q1⟩=>thn (ho pins s1 σ H1 _ I1 q1) fun u s2 ⟨x,H2,I2,rx,a,ov,ex,g,q2⟩=> ?_
 subst ex
 obtain rfl:u=Value.ref a:=rx
 exact xw5 hu I2 g ry fun s3 I3=>⟨.bl (!ov.isSome),H2,I3,rfl,q2⟩
theorem xw9(hu:X.A.units+1<cLine)(ho:PE X o td)(hi:PE X i ty)(hv:PE X value tv)(hs:swapsWith value (some (.Subscript o i pos')) pos.line X.env=pure false):
  PS X (.Assign [.Subscript o i pos'] value pos) (wp3 td ty tv):=⟨by
 intro pins s σ H D I h
 refine wpAny_Assign_Subscript (thn (hv pins s σ H _ I h) fun r s1 ⟨v,H1,I1,rv,q1⟩=>thn (ho pins s1 σ H1 _ I1 q1) fun u s2 ⟨x,H2,I2,rx,q2⟩=>thn (hi pins s2 σ H2 _ I2 q2) fun iv s3 ⟨y,H3,I3,ry,a,H4,ex,g,q3⟩=> ?_) hs
 subst ex
 obtain rfl:u=Value.ref a:=rx
 exact xb4 hu I3 g ry rv fun s4 I4=>⟨σ,H4,I4,q3⟩⟩
end
theorem xm1{P:Program}{w:World}{H:Hp}(h:Heap)(hb:sysModules<h.objs.size):dH P w H (h.push {cls:= .type "dict",data:= .dict #[]}) h.objs.size (.dK []):=
 ⟨ZJ _,Yb.mpr (Y8 (ZE hb)),[],.nil,Heap.DictOf.new h⟩
def wk4:TE:=fun _ H Q=>∀p,H p=none->Q (.ref p) (upd H p (.dK []))
section
variable{X:Cx}{pos:Pos}
theorem xm2:PE X (.Dict [] [] pos) wk4:=⟨fun pins s σ H Q I h=>
 wpAny_Dict_empty ⟨.ref s.heap.objs.size,_,I.laid (a:=s.heap.objs.size) (o:= .dK []) (t':=s.toks) (fun _ _ q=>Zh _ q) (Zc _) (xm1 s.heap I.big),rfl,h _ (I.hok.fresh (Zc _))⟩⟩
end
def IsD(H:Hp)(a:Addr):Prop:=(∃kvs,Rd H a (.dK kvs))\/∃kvs,Rd H a (.dT kvs)
theorem we8{X:Cx}{pins:tzB}{σ:St}{H:Hp}{s:Shared}{a:Addr}(I:Inv X pins σ H s)(d:IsD H a):
  s.TypeIs (.ref a) "dict"/\(∀b,Value.ref a= .ref b->∃ob,s.heap.get? b=some ob/\ob.dict=none)/\(a==sysModules)=false:=by
 rcases d with ⟨kvs,e⟩|⟨kvs,e⟩
 ·obtain⟨_,hd,vs,_,dd⟩:=uE I.hok e
  refine⟨dd.typeIs,fun b q=> ?_,hd⟩
  cases q
  obtain⟨ob,_,_,h1,h2,_⟩:=dd
  exact⟨ob,h1,h2.2.1⟩
 ·obtain⟨_,hd,xs,_,dd⟩:=zj6 I.hok e
  refine⟨dd.typeIs,fun b q=> ?_,hd⟩
  cases q
  obtain⟨ob,_,_,h1,h2,_⟩:=dd
  exact⟨ob,h1,h2.2.1⟩
structure Dn(K:tz0)(mg:tzA)(x:Str)(st:Stmt)(ps:List Str)(f:Addr)(fd:FuncData):Prop where
 F:Fun K x x st f fd
 b:lJ K fd ps []
 m:mg x=some (.ref f)
section
variable{X:Cx}{x:Str}{st:Stmt}{ps:List Str}{f:Addr}{fd:FuncData}{k:Nat}{sp:Sp}{p pos:Pos}{e:Expr}{es:List Expr}{t:TA}
theorem ys8(D:Dn X.K X.mg x st ps f fd)(G:FnOk X.prog X.w X.K X.mg X.base CX0 k f fd ps sp)(hr:Room k X.A)(hg:Gl X x)(ha:PA X (e::es) t)
  (hdb:NDb x:=by decide) (he:StE e es X:=by rfl) (hpl:BkE pos es X:=by rfl):
  PE X (.Call (.Name x p) (e::es) [] pos) (zz2 sp [] E0 t):=ym3 G hr hg D.m D.F.kp D.b .nil zc5 ha hdb he hpl
theorem we9(D:Dn X.K X.mg x st ps f fd)(G:FnOk X.prog X.w X.K X.mg X.base CX0 k f fd ps sp)(hr:Room k X.A)(hg:Gl X x)
  (hdb:NDb x:=by decide):PE X (.Call (.Name x p) [] [] pos) (zz2 sp [] E0 yw9):=xl3 G hr hg D.m D.F.kp D.b .nil zc5 hdb
end
theorem xm3{H:Hp}{p:Addr}(h:H p=none)(o:HO):yx0 H (upd H p o):=fun b u q=>by rw [bI (mP q h)];exact q
theorem zy8{n:Nat}(h:n<=1000):n<=sizeLine:=YK (nW h)
def wE(H:Hp):V->Option String
 | .non=>some "NoneType"
 | .bl _=>some "bool"
 | .int _=>some "int"
 | .str _=>some "str"
 | .ref a=>match H a with
  |some (.lst _)=>some "list"
  |some (.frz _ (.lst _))=>some "list"
  |some (.tup _)=>some "tuple"
  |some (.dK _)=>some "dict"
  |_=>none
 |_=>none
def zn2(t c:String):Bool:=decide (t=c)||(decide (t="bool")&&decide (c="int"))
def kinds:List String:=["NoneType","bool","int","str","list","tuple","dict"]
theorem yb5(K:tz0):∀t∈kinds,∀c∈["bool","int","str","list","tuple","dict"],PySem.W.kitOne K (.type t) (.type c)=some (zn2 t c):=by
 intro t ht c hc
 simp only [kinds,Z4,ZT,X9] at ht hc
 rcases ht with rfl|rfl|rfl|rfl|rfl|rfl|rfl<;>rcases hc with rfl|rfl|rfl|rfl|rfl|rfl<;>rfl
theorem xb6{K:tz0}{H:Hp}{x:V}{t:String}(h:wE H x=some t):TyOf K H x (.type t)/\t∈kinds:=by
 cases x with
 |non=>cases h;exact⟨.non,by decide⟩
 |bl b=>cases h;exact⟨.bl b,by decide⟩
 |int i=>cases h;exact⟨.int i,by decide⟩
 |str x=>cases h;exact⟨.str x,by decide⟩
 | ref a=>
  have h':(match H a with
   |some (.lst _)=>some "list"
   |some (.frz _ (.lst _))=>some "list"
   |some (.tup _)=>some "tuple"
   |some (.dK _)=>some "dict"
   |_=>none)=some t:=h
  cases e:H a with
  |none=>rw [e] at h';cases h'
  | some o=>
   rw [e] at h'
   cases o with
   |lst xs=>cases h';exact⟨.lst e,by decide⟩
   |tup xs=>cases h';exact⟨.tup e,by decide⟩
   |dK kvs=>cases h';exact⟨.dK e,by decide⟩
   |frz ob u=>
    cases u with
    |lst xs=>cases h';exact⟨.frz e,by decide⟩
    |_=>cases h'
   |_=>cases h'
 |_=>cases h
section
variable{X:Cx}
theorem xm4:CallR X (.builtin "isinstance") (fun xs H Q=>∃x c t,xs=[x,.ty c]/\wE H x=some t/\c∈["bool","int","str","list","tuple","dict"]/\Q (.bl (zn2 t c)) H):=⟨by
 intro pins s σ H xs us Q I r h
 obtain⟨x,c,t,rfl,ht,hc,q⟩:=h
 obtain⟨u,v,rfl,rx,rc⟩:=ys0 r
 cases(show v=Value.type c from rc)
 obtain⟨ty,hk⟩:=xb6 (K:=X.K) ht
 exact xa2 I rx ty (yb5 X.K t hk c hc) fun tk=>⟨.bl (zn2 t c),H,I.tok tk,rfl,q⟩⟩
theorem zu0:∀{bs:List Bool} {us:List Value},bJ (bs.map V.bl) us->LSm.BoolsAre us bs
 |[],_,.nil=> .nil
 |b::bs,_,.cons r t=>by
  cases(show _=Value.bool b from r)
  exact .cons b (zu0 t)
theorem wQ:∀{ns:List Int} {us:List Value},bJ (ns.map V.int) us->IntsAre us ns
 |[],_,.nil=> .nil
 |n::ns,_,.cons r t=>by
  obtain⟨k,rfl⟩:=r
  exact .cons n k (wQ t)
theorem xb7(hc:X.calm=true):CallR X (.builtin "all") (fun xs H Q=>∃(a:Addr) (bs:List Bool),xs=[.ref a]/\SqL X.K H a (bs.map V.bl)/\Q (.bl (bs.all id)) H):=⟨by
 intro pins s σ H xs us Q I r h
 obtain⟨a,bs,rfl,hq,q⟩:=h
 obtain⟨u,rfl,rx⟩:=oF r
 cases(show u=Value.ref a from rx)
 obtain⟨its,rv,p,hz⟩:=I.list hq
 have hl:=p.isList
 have hb:=zu0 rv
 have hlt:a<s.heap.objs.size:=by obtain⟨_,e,_⟩:=hl;exact Zk e
 refine call_all_walk (wpAny_pyIter_list hl ?_)
 refine⟨s.heap.objs.size,[s.heap.objs.size,a],[s.heap.objs.size],its.toArray.size,_,_,fun i=>(bs[i]?).getD true,rfl,Walks.list (A:=X.A.in1) (I.ok.hd hc) _ a (ZE hlt) its.toArray,
  ⟨⟨_,Zv _ rfl,rfl,rfl⟩,hl.push _⟩,fun i v s' Q' E' hP hQ=> ?_,fun h' tk hk=> ?_⟩
 ·obtain⟨b,e,rfl⟩:=hb.get i v (by simpa using hP)
  simp only [e,Option.getD_some] at hQ
  exact ZR hQ
 ·have e:((List.range its.toArray.size).all fun i=>(bs[i]?).getD true)=bs.all id:=by
   rw [Zo,hb.length];exact LSm.range_all bs
  rw [e]
  exact⟨.bl (bs.all id),H,I.kept (LSm.kept_iter hk),rfl,q⟩⟩
theorem xb8(hc:X.calm=true):CallR X (.builtin "sum") (fun xs H Q=>∃(a:Addr) (ns:List Int),xs=[.ref a]/\SqL X.K H a (ns.map V.int)/\Q (.int ns.sum) H):=⟨by
 intro pins s σ H xs us Q I r h
 obtain⟨a,ns,rfl,hq,q⟩:=h
 obtain⟨u,rfl,rx⟩:=oF r
 cases(show u=Value.ref a from rx)
 obtain⟨its,rv,p,hz⟩:=I.list hq
 have hi:=wQ rv
 obtain⟨xs,hx⟩:=hi.allInts.items
 have hl':s.heap.IsList a (intItems xs):=hx▸p.isList
 refine sum_intListG (I.ok.hd hc) hl' fun h' tk t' hk=> ?_
 have e1:ns=xs.toList.map (·.1):=by
  rw [<-nums_intItems,<-hx]
  exact(show numsOf its.toArray.toList=ns from hi.numsOf).symm
 have e2:preSum (numAt xs) xs.size=ns.sum:=by
  rw [preSum_eq,List.take_of_length_le (by simp),e1]
 rw [e2]
 exact⟨.int ns.sum,H,I.kept hk,⟨_,rfl⟩,q⟩⟩
theorem xb9(hc:X.calm=true):CallR X (.builtin "max") (fun xs H Q=>∃(a:Addr) (ns:List Int),xs=[.ref a]/\SqL X.K H a (ns.map V.int)/\0<ns.length/\∀m,m∈ns->(∀n∈ns,n<=m)->Q (.int m) H):=⟨by
 intro pins s σ H xs us Q I r h
 obtain⟨a,ns,rfl,hq,hne,q⟩:=h
 obtain⟨u,rfl,rx⟩:=oF r
 cases(show u=Value.ref a from rx)
 obtain⟨its,rv,p,hz⟩:=I.list hq
 have hi:=wQ rv
 obtain⟨xs,e⟩:=hi.allInts.items
 have hns:ns=xs.toList.map (·.1):=by
  rw [<-hi.numsOf,<-nums_intItems,<-e]
 have hsz:0<xs.size:=by
  have h3:=hne;rw [hns,Zb,ZQ] at h3;exact h3
 have hl':s.heap.IsList a (intItems xs):=e▸p.isList
 refine max_intList (I.ok.hd hc) hl' hsz fun v h' tk hv hk=> ?_
 obtain⟨t,rfl⟩:=intItems_at hv
 obtain⟨h1,h2⟩:=argBest_gt (numAt xs) (xs.size-1)
 refine⟨.int _,H,I.kept hk,⟨t,rfl⟩,q _ ?_ fun b hb=> ?_⟩
 ·rw [hns,numAt_eq];exact getD_mem (by rw [Zb,ZQ];omega)
 ·rw [hns] at hb
  obtain⟨j,hj,rfl⟩:=mem_getD hb
  rw [Zb,ZQ] at hj
  rw [<-numAt_eq];exact h2 j (by omega)⟩
end
theorem wR{env:Env}:∀(names:List (Str×NameKind)) (cs:List (Str×Addr)),
  (∀y∈names,y.2= .free->∃c,env.cells.lookup y.1=some c)->(∀x c,cs.lookup x=some c->env.cells.lookup x=some c)->
  ∃ cl,(forIn names cs fun(y:Str×NameKind) (r:List (Str×Addr))=>
    (if (y.2== .free)=true then(do let a<-cellOf env y.1;pure (ForInStep.yield ((y.1,a)::r))) else pure (ForInStep.yield r):Sem (ForInStep (List (Str×Addr)))))=pure cl/\
   (∀x c,cl.lookup x=some c->env.cells.lookup x=some c)/\(∀x c,cs.lookup x=some c->∃c',cl.lookup x=some c')/\(∀y∈names,y.2= .free->∃c,cl.lookup y.1=some c)
 |[],cs,_,hc=>⟨cs,rfl,hc,fun x c h=>⟨c,h⟩,fun y hy=>absurd hy (ZT)⟩
 | (n,k)::r,cs,hn,hc=>by
  have hr:∀y∈r,y.2= .free->∃c,env.cells.lookup y.1=some c:=fun y hy=>hn y (Z1 _ hy)
  by_cases hk:k= .free
  ·subst hk
   obtain⟨c,e⟩:=hn (n,.free) Z0 rfl
   have hc':∀x c',((n,c)::cs).lookup x=some c'->env.cells.lookup x=some c':=fun x c' h=>by
    rw [ZB] at h
    cases hx:x==n with
    |true=>
     rw [hx] at h
     have e1:x=n:=by simpa using hx
     have e2:c=c':=Zz h
     rw [e1,<-e2];exact e
    |false=>rw [hx] at h;exact hc x c' h
   obtain⟨cl,h1,h2,h3,h4⟩:=wR (env:=env) r ((n,c)::cs) hr hc'
   refine⟨cl,?_,h2,fun x c' h=> ?_,fun y hy hf=> ?_⟩
   ·rw [List.forIn_cons]
    have e0:cellOf env n=pure c:=by unfold cellOf;rw [e]
    simp only [e0]
    exact h1
   ·cases hx:x==n with
    |true=>
     have e1:x=n:=by simpa using hx
     exact h3 x c (by rw [ZB,hx])
    |false=>exact h3 x c' (by rw [ZB,hx];exact h)
   ·rcases Z4.mp hy with e1|hy
    ·rw [e1];exact h3 n c (by rw [ZB];simp)
    ·exact h4 y hy hf
  ·obtain⟨cl,h1,h2,h3,h4⟩:=wR (env:=env) r cs hr hc
   refine⟨cl,?_,h2,h3,fun y hy hf=> ?_⟩
   ·rw [List.forIn_cons]
    have e0:(k==NameKind.free)=false:=by simpa using hk
    simp only [e0]
    exact h1
   ·rcases Z4.mp hy with e1|hy
    ·rw [e1] at hf;exact absurd hf hk
    ·exact h4 y hy hf
theorem ys9{env:Env}{scope:Scope}(h:∀y∈scope.names,y.2= .free->∃c,env.cells.lookup y.1=some c):
  ∃cl,closureFor scope env=pure cl/\(∀x c,cl.lookup x=some c->env.cells.lookup x=some c)/\(∀y∈scope.names,y.2= .free->∃c,cl.lookup y.1=some c):=by
 obtain⟨cl,h1,h2,_,h4⟩:=wR (env:=env) scope.names [] h (fun x c e=>by simp at e)
 refine⟨cl,?_,h2,h4⟩
 have e:((forIn scope.names [] fun(y:Str×NameKind) (r:List (Str×Addr))=>
    (if (y.2== .free)=true then(do let a<-cellOf env y.1;pure (ForInStep.yield ((y.1,a)::r))) else pure (ForInStep.yield r):Sem (ForInStep (List (Str×Addr)))))>>=fun s=>pure s)=pure cl:=by rw [h1];rfl
 exact e
structure CScope(sc:Scope)(NX N:List Str)(pick:List (Option Nat))(scope:Scope):Prop where
 kind:scope.kind= .function
 nocell:∀y∈scope.names,y.2≠ .cell
 names:∀y∈scope.names,y.2= .local->scope.names.lookup y.1=some .local
 frees:∀y∈scope.names,y.2= .free->sc.names.lookup y.1=some .cell\/sc.names.lookup y.1=some .free
 pk:∀p∈N.zip pick,∀j∈p.2,NX[j]? =some p.1/\scope.names.lookup p.1=some .free
 nd:N.Nodup
 len:pick.length=N.length
def rK(pick:List (Option Nat))(σ:St):St:=pick.map fun o=>o.bind fun j=>(σ[j]?).join
def cxB(X:Cx)(N:List Str)(scope:Scope)(cl:List (Str×Addr))(fp:List Addr)(s:Shared)(H:Hp):Cx where
 prog:=X.prog
 w:=X.w
 K:=X.K
 mg:=X.mg
 base:=X.base
 A:=X.A
 N:=N
 s₀:=s
 H₀:=H
 env:=compEnvC scope cl s.heap.objs.size X.env
 outer:=X.stack
 stack:=X.stack
 ex:=fp
 fn:=fun _=>false
 calm:=X.calm
 pn:=[]
 xe:=fun _ _=>False
def wk5(X:Cx)(ifs:List Expr)(t:TT):Prop:=
 ∀(pins:tzB) (s:Shared) (σ:St) (H:Hp) (Q:Bool->Hp->Prop),Inv X pins σ H s->t σ H Q->
  wpAny (model X.prog X.w) X.A (forIn ifs true fun c r=>if r=true then do let ok<-isTrue c X.env (eval c X.env);pure (ForInStep.yield ok) else pure (ForInStep.yield r)) (TP X pins σ Q) X.xe s
structure PTs(X:Cx)(ifs:List Expr)(t:TT):Prop where
 go:wk5 X ifs t
instance {X:Cx} {ifs:List Expr} {t:TT}:CoeFun (PTs X ifs t) fun _=>wk5 X ifs t:=⟨PTs.go⟩
def ws5:TT:=fun _ H Q=>Q true H
theorem wf0{X:Cx}:PTs X [] ws5:=⟨fun pins s σ H Q I h=>wpAny_tests_nil ⟨H,I,h⟩⟩
section
variable{prog:Program}{w:World}{A:Around}{R:Result->Shared->Prop}{s:Shared}
theorem xc0{elt target iter:Expr}{ifs:List Expr}{scope:Scope}{pos:Pos}{it acc:Value}{env:Env}(I:Nat->Shared->Prop)
  (turn:∀n s,I n s->wpAny (model prog w) A (pyNext it) (fun r s1=>match r with
   |none=>R (.ok .next) s1
   | some v=>wpAny (model prog w) A (letOwnedTupleGo target it v) (fun _ s1=>wpAny (model prog w) A (assign target env v) (fun _ s2=>
     wpAny (model prog w) A (forIn ifs true fun c r=>if r=true then do let ok<-isTrue c env (eval c env);pure (ForInStep.yield ok) else pure (ForInStep.yield r)) (fun ok s3=>
      if ok=true then wpAny (model prog w) A (eval elt env) (fun x s4=>
       wpAny (model prog w) A (call (.builtin "list.append") [acc,x]) (fun _ s5=>∃m,m<n/\I m s5) (fun _ _=>False) s4) (fun _ _=>False) s3
      else ∃m,m<n/\I m s3) (fun _ _=>False) s2) (fun _ _=>False) s1) (fun _ _=>False) s1) (fun _ _=>False) s)
  (n:Nat) (h:I n s):codeAny (model prog w) A (.compLoop (.ListComp elt [⟨target,iter,ifs,0⟩] scope pos) 0 it acc env) R s:=by
 refine codeAny_loop rfl I (fun n s hI=> ?_) n h
 show wpAny _ A ((compTurn (.ListComp elt [⟨target,iter,ifs,0⟩] scope pos) 0 it acc env).onRaise (fun x=>do noteFrame x env;theTreesLotGoes x)) _ _ s
 refine wpAny_noted ?_
 rw [compTurn_list]
 refine Zf (Wp (Zf (ZH (turn n s hI) (fun r s1 h1=> ?_) fun _ _ z=>z.elim)))
 cases r with
 |none=>exact ZD h1
 | some v=>
  refine Zf (ZH h1 (fun _ s1 h1=>Zf (ZH h1 (fun _ s2 h2=>Zf (ZH h2 (fun ok s3 h3=> ?_) fun _ _ z=>z.elim)) fun _ _ z=>z.elim)) fun _ _ z=>z.elim)
  cases ok with
  |false=>exact ZD ⟨rfl,h3⟩
  |true=>
   exact Zf (Zf (ZH h3 (fun x s4 h4=>Zf (ZH h4 (fun _ s5 h5=>ZD (ZD ⟨rfl,h5⟩)) fun _ _ z=>z.elim)) fun _ _ z=>z.elim))
end
def wk6(pick:List (Option Nat))(wi:TI)(g:TG)(tt:TT)(te:TE)(σ:St)(H:Hp)(Q:Addr->Hp->Prop):Prop:=wi σ H fun J H1=>∀D,H1 D=none->
 ∃ W:Nat->Nat->St->Hp->Prop,(∃m,W 0 m (rK pick σ) (upd H1 D (.lst [])))/\∀i m σ' H',W i m σ' H'->
  (J.stop i H'/\Q D H')\/(J.go i H'/\∀x H2,J.yld i H' x H2->g x σ' H2 fun σ3 H3=>tt σ3 H3 fun b H4=>
   if b=true then te σ3 H4 fun y H5=>∃ys,H5 D=some (.lst ys)/\ys.length<sizeLine/\∃m',m'<m/\W (i+1) m' σ3 (upd H5 D (.lst (ys++[y]))) else ∃m',m'<m/\W (i+1) m' σ3 H4)
def wp4(pick:List (Option Nat))(wi:TI)(g:TG)(tt:TT)(te:TE):TE:=fun σ H Q=>wk6 pick wi g tt te σ H fun D H'=>Q (.ref D) H'
section
variable{X:Cx}{sc:Scope}{NX N:List Str}{pick:List (Option Nat)}{elt tg iter:Expr}{ifs:List Expr}{scope:Scope}{pos:Pos}{wi:TI}{g:TG}{tt:TT}{te:TE}
theorem iX{env:Env}:∀{names:List (Str×NameKind)} {x:Str} {k:NameKind},(∀y∈names,y.2≠ .cell)->
  (names.map fun(n,k)=>if (k==NameKind.free&&env.scope.kind== .function&&env.kindOf n==some .cell) then(n,NameKind.cell) else(n,k)).lookup x=some k->(k= .cell\/k= .free)->(x,NameKind.free)∈names
 |[],_,_,_,h,_=>by simp at h
 | (n,k0)::r,x,k,hn,h,hk=>by
  have hr:∀y∈r,y.2≠ .cell:=fun y hy=>hn y (Z1 _ hy)
  have h':List.lookup x ((if (k0==NameKind.free&&env.scope.kind== .function&&env.kindOf n==some .cell)=true then(n,NameKind.cell) else(n,k0))::(r.map fun(n,k)=>if (k==NameKind.free&&env.scope.kind== .function&&env.kindOf n==some .cell) then(n,NameKind.cell) else(n,k)))=some k:=h
  by_cases hc:(k0==NameKind.free&&env.scope.kind== .function&&env.kindOf n==some .cell)=true
  ·rw [if_pos hc,ZB] at h'
   cases hx:x==n with
   | true=>
    have e1:x=n:=by simpa using hx
    have e2:k0= .free:=by
     simp only [Zx,YF] at hc
     exact hc.1.1
    rw [e1,e2];exact Z0
   |false=>rw [hx] at h';exact Z1 _ (iX hr h' hk)
  ·rw [if_neg hc,ZB] at h'
   cases hx:x==n with
   | true=>
    rw [hx] at h'
    have e1:x=n:=by simpa using hx
    have e2:k0=k:=Zz h'
    have e3:k0= .free:=by
     rcases hk with z|z
     ·exact absurd (e2.trans z) (hn (n,k0) Z0)
     ·exact e2.trans z
    rw [e1,e3];exact Z0
   |false=>rw [hx] at h';exact Z1 _ (iX hr h' hk)
theorem uF{env:Env}:∀{names:List (Str×NameKind)} {x:Str},names.lookup x=some .free->
  (names.map fun(n,k)=>if (k==NameKind.free&&env.scope.kind== .function&&env.kindOf n==some .cell) then(n,NameKind.cell) else(n,k)).lookup x=some .cell\/
  (names.map fun(n,k)=>if (k==NameKind.free&&env.scope.kind== .function&&env.kindOf n==some .cell) then(n,NameKind.cell) else(n,k)).lookup x=some .free
 |[],_,h=>by simp at h
 | (n,k0)::r,x,h=>by
  have ih:= @uF env r x
  show List.lookup x ((if (k0==NameKind.free&&env.scope.kind== .function&&env.kindOf n==some .cell)=true then(n,NameKind.cell) else(n,k0))::_)=_\/List.lookup x ((if (k0==NameKind.free&&env.scope.kind== .function&&env.kindOf n==some .cell)=true then(n,NameKind.cell) else(n,k0))::_)=_
  rw [ZB] at h
  cases hx:x==n with
  |true=>
   rw [hx] at h
   have e:k0= .free:=Zz h
   subst e
   by_cases hc:(NameKind.free==NameKind.free&&env.scope.kind== .function&&env.kindOf n==some .cell)=true
   ·rw [if_pos hc];left;rw [ZB,hx]
   ·rw [if_neg hc];right;rw [ZB,hx]
  | false=>
   rw [hx] at h
   rcases ih h with z|z
   ·left
    by_cases hc:(k0==NameKind.free&&env.scope.kind== .function&&env.kindOf n==some .cell)=true
    ·rw [if_pos hc,ZB,hx];exact z
    ·rw [if_neg hc,ZB,hx];exact z
   ·right
    by_cases hc:(k0==NameKind.free&&env.scope.kind== .function&&env.kindOf n==some .cell)=true
    ·rw [if_pos hc,ZB,hx];exact z
    ·rw [if_neg hc,ZB,hx];exact z
theorem xc1{pins:tzB}{σ:St}{H:Hp}{s:Shared}{cl:List (Str×Addr)}{fp:List Addr}{h':Heap}{tk:Nat}(S:CScope sc NX N pick scope)(hsc:X.env.scope=sc)(hNX:X.N=NX)
  (I:Inv X pins σ H s) (hf:∀b∈fp,oR X pins H b) (ho:∀b∈fp,∃o,s.heap.get? b=some o)
  (c1:∀x c,cl.lookup x=some c->X.env.cells.lookup x=some c) (c2:∀y∈scope.names,y.2= .free->∃c,cl.lookup y.1=some c)
  (hns:h'.Ns s.heap.objs.size fun _=>none) (hk:∀b o,s.heap.get? b=some o->h'.get? b=some o):
  Inv (cxB X N scope cl fp s H) [] (rK pick σ) H {s with heap:=h',toks:=tk}:=by
 have lt:∀b∈fp,b<s.heap.objs.size:=fun b hb=>by obtain⟨o,e⟩:=ho b hb;exact Zk e
 refine⟨⟨I.ok.mod,S.kind,I.ok.glob,I.ok.blt,Zc _,fun x y c h1 h2=>I.ok.inj x y c (c1 x c h1) (c1 y c h2),fun x hx=> ?_,fun x c z=>absurd z (by simp [cxB]),I.ok.hd,I.ok.frames,.inl rfl,
  fun b hb=>⟨ZE (lt b hb),fun x c e=>(hf b hb).2.2.2.2.1 x c (c1 x c e)⟩,I.bs,Zt I.ok.bsz I.sz,fun b o e hb=> ?_,fun b hb z=> ?_,I.stack,I.stkFree⟩,
  rfl,I.bare,Un.kept hk,⟨_,hns,fun i x v h1 h2 h3=> ?_⟩,fun x c e=> ?_,I.hok.fresh (Zc _),fun x c e=>I.freeC x c (c1 x c e),fun p hp=>absurd (show p∈([]:tzB) from hp) (by simp),I.hok.kept hk,?_⟩
 ·have hx':(relabel scope X.env).names.lookup x=some .cell\/(relabel scope X.env).names.lookup x=some .free:=hx
  have hm:(x,NameKind.free)∈scope.names:=by
   rcases hx' with z|z
   ·exact iX S.nocell z (.inl rfl)
   ·exact iX S.nocell z (.inr rfl)
  exact c2 _ hm rfl
 ·rcases(hf b hb).2.2.2.1 with z|z
  ·exact I.ok.noex b o e z
  ·exact absurd (Zw (Zk e) (Zt I.ok.bsz z)) (Y5 _)
 ·rcases Z4.mp (I.stkSub b z) with z|z
  ·exact(hf b hb).2.1 z
  ·exact(hf b hb).2.2.1 z
 ·
  have hN':N[i]? =some x:=h1
  have h2':(rK pick σ)[i]? =some (some v):=h2
  unfold rK at h2'
  rw [Ze] at h2'
  cases ep:pick[i]? with
  |none=>rw [ep] at h2';cases h2'
  | some o=>
   rw [ep] at h2'
   cases o with
   |none=>cases h2'
   | some j=>
    have h4:(σ[j]?).join=some v:=Zz h2'
    have h5:σ[j]? =some (some v):=by
     cases e:σ[j]? with
     |none=>rw [e] at h4;cases h4
     |some q=>rw [e] at h4;exact ZN some h4
    have hz:(x,some j)∈N.zip pick:=by
     refine ZK (i:=i) ?_
     rw [List.getElem?_zip_eq_some];exact⟨hN',ep⟩
    obtain⟨h6,h7⟩:=S.pk _ hz j rfl
    have hfr:(x,NameKind.free)∈scope.names:=Yd h7
    have hcf:=S.frees _ hfr rfl
    have hcf':X.env.kindOf x=some .cell\/X.env.kindOf x=some .free:=by
     show X.env.scope.names.lookup x=_\/X.env.scope.names.lookup x=_
     rw [hsc];exact hcf
    obtain⟨m,hn,hl⟩:=I.loc
    obtain⟨u,ru,lk⟩:=hl j x v (by rw [hNX];exact h6) h5 (.inr hcf')
    refine⟨u,ru,.inr ⟨uF h7,?_⟩⟩
    obtain⟨c,ec⟩:=c2 _ hfr rfl
    refine⟨c,ec,?_⟩
    rcases lk with ⟨k1,_⟩|⟨_,c',ec',hcell⟩
    ·rcases hcf' with z|z
     ·rw [k1] at z;cases z
     ·rw [k1] at z;cases z
    ·have e':=c1 x c ec
     rw [ec'] at e'
     cases e'
     obtain⟨o,e1,e2⟩:=hcell
     exact⟨o,hk _ _ e1,e2⟩
 ·obtain⟨v,o,e1,e2⟩:=I.cell x c (c1 x c e)
  exact⟨v,o,hk _ _ e1,e2⟩
 ·show(rK pick σ).length=N.length
  unfold rK
  rw [Zb];exact S.len
theorem yt0{pins:tzB}{σ σ':St}{H H':Hp}{s s':Shared}{cl:List (Str×Addr)}{fp:List Addr}(I:Inv X pins σ H s)(hf:∀b∈fp,oR X pins H b)
  (J:Inv (cxB X N scope cl fp s H) [] σ' H' s'):Inv X pins σ H' s':=
 I.call' (ch:=fp) J.os J.base J.hok J.bare fun b hb=>⟨(hf b hb).2.2.2.1,(hf b hb).2.1,(hf b hb).2.2.2.2.1,(hf b hb).2.2.2.2.2⟩
theorem yt1{pins:tzB}{σ:St}{H2:Hp}{s2:Shared}{cl:List (Str×Addr)}{J:It}{fp:List Addr}{it:Addr}{tn:Nat->Heap->Prop}{RR:Value->Addr->Result->Shared->Prop}{E:Value->Shared->Prop}{Q:Addr->Hp->Prop}
  (S:CScope sc NX N pick scope) (hsc:X.env.scope=sc) (hNX:X.N=NX) (hc:X.calm=true)
  (hg:∀cl fp s H,PG (cxB X N scope cl fp s H) tg g) (ht:∀cl fp s H,PTs (cxB X N scope cl fp s H) ifs tt) (he:∀cl fp s H,PE (cxB X N scope cl fp s H) elt te)
  (I2:Inv X pins σ H2 s2) (T:Turn X.prog X.w X.K tg J fp it tn) (st2:tn 0 s2.heap) (f2:∀b∈fp,oR X pins H2 b)
  (c1:∀x c,cl.lookup x=some c->X.env.cells.lookup x=some c) (c2:∀y∈scope.names,y.2= .free->∃c,cl.lookup y.1=some c)
  (q:∀D,H2 D=none->∃W:Nat->Nat->St->Hp->Prop,(∃m,W 0 m (rK pick σ) (upd H2 D (.lst [])))/\∀i m σ' H',W i m σ' H'->
   (J.stop i H'/\Q D H')\/(J.go i H'/\∀x H2,J.yld i H' x H2->g x σ' H2 fun σ3 H3=>tt σ3 H3 fun b H4=>
    if b=true then te σ3 H4 fun y H5=>∃ys,H5 D=some (.lst ys)/\ys.length<sizeLine/\∃m',m'<m/\W (i+1) m' σ3 (upd H5 D (.lst (ys++[y]))) else ∃m',m'<m/\W (i+1) m' σ3 H4))
  (fin:∀D C H' s',Inv X pins σ H' s'->H' C=none->X.s₀.heap.objs.size<=C->C≠X.env.locals->(∀x c,X.env.cells.lookup x=some c->c≠C)->(∀p∈X.pn++pins,p.1≠C)->(∃m,s'.heap.Ns C m)->Q D H'->RR (.ref D) C (.ok .next) s'):
  wpAny (model X.prog X.w) X.A (newList []) (fun acc s3=>wpAny (model X.prog X.w) X.A (newFunctionEnv scope X.env.globals cl [] X.env.qual none .none (some X.env)) (fun cenv s4=>
   codeAny (model X.prog X.w) X.A (.compStart (.ListComp elt [⟨tg,iter,ifs,0⟩] scope pos) 0 (.ref it) acc {cenv with scope:=relabel scope X.env}) (RR acc cenv.locals) s4) E s3) E s2:=by
 have hD:H2 s2.heap.objs.size=none:=I2.hok.fresh (Zc _)
 obtain⟨W,⟨m0,w0⟩,turn⟩:=q _ hD
 refine wpAny_newObj_type (wpAny_newFunctionEnv S.nocell (by intro y hy;simp at hy) (fun h1 hns hsb=> ?_) S.kind)
 have I3:Inv X pins σ (upd H2 s2.heap.objs.size (.lst [])) {s2 with heap:=s2.heap.push {cls:= .type "list",dict:=none,data:= .seq ([]:List Value).toArray}}:=
  I2.lnew (t':=s2.toks) (its:=[]) (ys:=[]) .nil (ZJ _)
 have ne:∀b∈fp,b≠s2.heap.objs.size:=fun b hb z=>by
  obtain⟨o,e,_⟩:=T.obj _ _ st2 b hb
  exact absurd (Zk e) (by rw [z];exact Y5 _)
 have f3:∀b∈fp,oR X pins (upd H2 s2.heap.objs.size (.lst [])) b:=fun b hb=>⟨by rw [bI (ne b hb)];exact(f2 b hb).1,(f2 b hb).2⟩
 have ho3:∀b∈fp,∀o,s2.heap.get? b=some o->(s2.heap.push {cls:= .type "list",dict:=none,data:= .seq ([]:List Value).toArray}).get? b=some o:=fun b _ o e=>Zh _ e
 have st3:=T.keep _ _ _ st2 ho3
 generalize hH3:s2.heap.push {cls:= .type "list",dict:=none,data:= .seq ([]:List Value).toArray}=H3 at hns hsb I3 ho3 st3|-
 dsimp only at hns hsb|-
 have hk:∀b o,H3.get? b=some o->h1.get? b=some o:=fun b o e=>hsb.extBut b o (ZE (Zk e)) (Zh _ e)
 have B0:Inv (cxB X N scope cl fp {s2 with heap:=H3} (upd H2 s2.heap.objs.size (.lst []))) [] (rK pick σ) (upd H2 s2.heap.objs.size (.lst [])) {s2 with heap:=h1,toks:=s2.toks+([]:List (Str×Value)).length}:=
  xc1 (s:={s2 with heap:=H3}) S hsc hNX I3 f3 (fun b hb=>by obtain⟨o,e,_⟩:=T.obj _ _ st3 b hb;exact⟨o,e⟩) c1 c2 hns hk
 have st4:tn 0 h1:=T.keep _ _ _ st3 fun b _ o e=>hk b o e
 have fpY:∀{H':Hp},(∀b∈fp,H' b=none)->∀b∈fp,oR (cxB X N scope cl fp {s2 with heap:=H3} (upd H2 s2.heap.objs.size (.lst []))) [] H' b:=fun hn b hb=>
  ⟨hn b hb,(B0.ok.exf b hb).1,B0.ok.exfs b hb,.inl hb,(B0.ok.exf b hb).2,fun p hp=>absurd (show p∈([]:tzB) from hp) (by simp)⟩
 have loop:∀s4:Shared,s4={s2 with heap:=h1,toks:=s2.toks+([]:List (Str×Value)).length}->
   codeAny (model X.prog X.w) X.A (.compLoop (.ListComp elt [⟨tg,iter,ifs,0⟩] scope pos) 0 (.ref it) (.ref s2.heap.objs.size) (compEnvC scope cl H3.objs.size X.env)) (RR (.ref s2.heap.objs.size) H3.objs.size) s4:=by
  rintro s4 rfl
  refine xc0 (fun n s'=>∃i σ' H',Inv (cxB X N scope cl fp {s2 with heap:=H3} (upd H2 s2.heap.objs.size (.lst []))) [] σ' H' s'/\tn i s'.heap/\(∀b∈fp,H' b=none)/\W i n σ' H') ?_ m0
   ⟨0,_,_,B0,st4,fun b hb=>(f3 b hb).1,w0⟩
  rintro n s5 ⟨i,σ5,H5,I5,st5,fr5,w5⟩
  rcases turn i n σ5 H5 w5 with ⟨stop,qn⟩|⟨go,step⟩
  ·refine thn (T.done (cxB X N scope cl fp {s2 with heap:=H3} (upd H2 s2.heap.objs.size (.lst []))) rfl rfl rfl hc i [] s5 σ5 H5 _ I5 (fpY fr5) st5 stop) fun r s6 ⟨hr,I6⟩=> ?_
   subst hr
   obtain⟨m,hm,_⟩:=I6.loc
   have sz:X.s₀.heap.objs.size<=H3.objs.size:=I3.sz
   refine fin _ _ H5 s6 (yt0 I3 f3 I6) I6.free sz (W3 I3.lt) (fun x c e z=> ?_) (fun p hp z=> ?_) ⟨m,hm⟩ qn
   ·obtain⟨v,z2⟩:=I3.cell x c e
    exact absurd z2.lt (by rw [z];exact Y5 _)
   ·exact absurd (Zk (I3.pin p hp).1) (by rw [z];exact Y5 _)
  ·refine thn (T.item (cxB X N scope cl fp {s2 with heap:=H3} (upd H2 s2.heap.objs.size (.lst []))) rfl rfl rfl hc i [] s5 σ5 H5 _ I5 (fpY fr5) st5 go) fun r s6 ⟨u,hr,h6⟩=> ?_
   subst hr
   refine thn h6 fun _ s7 ⟨x,H7,I7,r7,y7,st7,fr7⟩=> ?_
   have I7':=I7.pinned (fpY fr7) (T.obj _ _ st7)
   have back:∀{σ8:St} {H8:Hp} {s8:Shared},Inv (cxB X N scope cl fp {s2 with heap:=H3} (upd H2 s2.heap.objs.size (.lst []))) ([]++wC fp s7.heap) σ8 H8 s8->
     tn (i+1) s8.heap/\∀b∈fp,H8 b=none:=fun {σ8 H8 s8} I8=>by
    refine⟨T.keep _ _ _ st7 fun b hb o e=>(I8.pin (b,o) (Z8 _ (Z8 _ (rT hb e)))).1,fun b hb=> ?_⟩
    obtain⟨o,e,d⟩:=T.obj _ _ st7 b hb
    exact(I8.pin (b,o) (Z8 _ (Z8 _ (rT hb e)))).2.1
   refine thn (hg _ _ _ _ _ s7 σ5 H7 x u _ I7' r7 (step x H7 y7)) fun _ s8 ⟨σ8,H8,I8,q8⟩=> ?_
   refine thn (ht _ _ _ _ _ s8 σ8 H8 _ I8 q8) fun ok s9 ⟨H9,I9,q9⟩=> ?_
   cases ok with
   |false=>
    rw [if_neg (by decide)] at q9|-
    obtain⟨m',hm,w9⟩:=q9
    obtain⟨b1,b2⟩:=back I9
    exact⟨m',hm,i+1,σ8,H9,I9.unpinned,b1,b2,w9⟩
   | true=>
    rw [if_pos rfl] at q9|-
    refine thn (he _ _ _ _ _ s9 σ8 H9 _ I9 q9) fun v s10 ⟨y,H10,I10,ry,ys,hys,hlen,m',hm,w10⟩=> ?_
    have ap:=zt7 (X:=cxB X N scope cl fp {s2 with heap:=H3} (upd H2 s2.heap.objs.size (.lst []))) ([]++wC fp s7.heap) s10 σ8 H10 (.ref s2.heap.objs.size) [y] (.ref s2.heap.objs.size) [v]
     (fun z H'=>z= .non/\H'=upd H10 s2.heap.objs.size (.lst (ys++[y]))) I10 rfl (.cons ry .nil) ⟨_,ys,y,rfl,rfl,hys,hlen,rfl,rfl⟩
    refine thn ap fun z s11 ⟨z',H11,I11,_,_,e11⟩=> ?_
    subst e11
    obtain⟨b1,b2⟩:=back I11
    exact⟨m',hm,i+1,σ8,_,I11.unpinned,b1,b2,w10⟩
 exact codeAny_compStart_list (loop _ rfl) (T.self _ _ _ _ _ st4 (loop _ rfl))
theorem xx0(S:CScope sc NX N pick scope)(hsc:X.env.scope=sc)(hNX:X.N=NX)(hc:X.calm=true)(hi:PI X tg iter wi)
  (hg:∀cl fp s H,PG (cxB X N scope cl fp s H) tg g) (ht:∀cl fp s H,PTs (cxB X N scope cl fp s H) ifs tt) (he:∀cl fp s H,PE (cxB X N scope cl fp s H) elt te)
  (hs:∀x,foldedSetIterable iter X.env x=pure x:=by intro _;rfl):PE X (.ListComp elt [⟨tg,iter,ifs,0⟩] scope pos) (wp4 pick wi g tt te):=⟨by
 intro pins s σ H Q I h
 rw [eval_ListComp]
 have hfr:∀y∈scope.names,y.2= .free->∃c,X.env.cells.lookup y.1=some c:=fun y hy hf=>I.ok.has y.1 (by
  show X.env.scope.names.lookup y.1=_\/X.env.scope.names.lookup y.1=_
  rw [hsc];exact S.frees y hy hf)
 obtain⟨cl,hcl,c1,c2⟩:=ys9 hfr
 refine wpAny_comprehension_free (use:=none) rfl hs hcl S.kind S.names (thn (hi pins s σ H _ I h) fun v s1 h1=>thn h1 fun itv s2 h2=> ?_)
 obtain⟨it,fp,tn,J,H2,e,I2,T,st2,f2,q⟩:=h2
 subst e
 refine yt1 (RR:=fun acc C=>compPost (model X.prog X.w) X.A X.xe none (EP X pins σ Q) acc C) (Q:=fun D H'=>Q (.ref D) H') S hsc hNX hc hg ht he I2 T st2 f2 c1 c2 q ?_
 intro D C H' s' I' n1 n2 n3 n4 n5 ⟨m,hm⟩ q'
 exact⟨m,hm,fun h' hb=>⟨.ref D,H',I'.turned (t':=s'.toks) (it:=C) (fun b o hbc e=>(hb.2 b hbc).trans e) n1 n3 (.inr n2) n4 n5,rfl,q'⟩⟩⟩
end
section
variable{X:Cx}{tg:Expr}
theorem zu1:∀(l:List (Str×Tok)),bJ ((l.map (·.1)).map V.str) (strValues l)
 |[]=> .nil
 |(x,t)::r=> .cons ⟨t,rfl⟩ (zu1 r)
theorem yb6:∀{ys:List Str} {us:List Value},bJ (ys.map V.str) us->StrsAre us ys
 |[],_,.nil=> .nil
 |y::ys,_,.cons r t=>by
  obtain⟨k,rfl⟩:=r
  exact .cons y k (yb6 t)
theorem xm5:MtR X "str.split" (fun x xs H Q=>∃z y,x= .str z/\xs=[.str y]/\(y.length==0)=false/\z.length<1000000/\∀p,H p=none->Q (.ref p) (upd H p (.lst ((Txt.split z y).map V.str)))):=⟨by
 intro pins s σ H x xs v us Q I rx r h
 obtain⟨z,y,rfl,rfl,hy,hz,q⟩:=h
 obtain⟨t,rfl⟩:=rx
 obtain⟨u,rfl,t',rfl⟩:=oF r
 have hs:sizeLine=16777216:=Y6
 have hsz:z.length<=sizeLine:=by omega
 have hoc:=StrLaws.occ_length_le_len z y 0 z.length (z.length+1)
 have hpb:(Builtin.Str.partsBetween z (Builtin.Str.occurrences z y 0 z.length (z.length+1)) y.length).length<=z.length+2:=by
  unfold Builtin.Str.partsBetween
  rw [Zb,List.length_zip]
  simp only [Z6,Zb,Z3,ZZ]
  omega
 have hn:H s.heap.objs.size=none:=I.fresh
 have fin:∀(l:List (Str×Tok)) (tk:Nat),l.map (·.1)=Txt.split z y->l.length<=sizeLine->EP X pins σ Q (.ref s.heap.objs.size) {s with heap:=s.heap.push {cls:= .type "list",data:= .seq (strValues l).toArray},toks:=tk}:=fun l tk e hl=>by
  refine⟨.ref s.heap.objs.size,_,I.lnew (t':=tk) (ys:=(l.map (·.1)).map V.str) (zu1 l) (by rw [Zb,Zb];exact hl),rfl,?_⟩
  rw [e];exact q _ hn
 cases h1:(decide (z.length<y.length)||decide (Builtin.Str.strKind z<Builtin.Str.strKind y))
 ·cases hf:(Builtin.Str.occurrences z y 0 z.length (z.length+1)).isEmpty
  ·refine XE XV (Xd _ _ _) XM (XG _ _) (meets_str_split_sep z y t t' h1 hy hf hsz (by omega)) ?_
   show wants _ _ _ {s with toks:=_,heap:=s.heap.push {cls:= .type "list",data:= .seq (strsFrom s.toks (Builtin.Str.partsBetween z (Builtin.Str.occurrences z y 0 z.length (z.length+1)) y.length)).toArray}}
   rw [strsFrom_eq]
   refine fin (numbered s.toks _) _ ((numbered_texts _ _).trans ((if_neg (Xf h1)).trans (if_neg (Xf hf))).symm) ?_
   have e:=ZN List.length (numbered_texts s.toks (Builtin.Str.partsBetween z (Builtin.Str.occurrences z y 0 z.length (z.length+1)) y.length))
   rw [Zb] at e
   omega
  ·exact XE XV (Xd _ _ _) XM (XG _ _) (meets_str_split_not_found z y t t' h1 hy hf) (fin [(z,t)] s.toks ((if_neg (Xf h1)).trans (if_pos hf)).symm (by simp;omega))
 ·exact XE XV (Xd _ _ _) XM (XG _ _) (meets_str_split_cannot_occur z y t t' h1) (fin [(z,t)] s.toks (if_pos h1).symm (by simp;omega))⟩
theorem xx1:MtR X "str.join" (fun x xs H Q=>∃(z:Str) (a:Addr) (ys:List Str),x= .str z/\xs=[.ref a]/\SqL X.K H a (ys.map V.str)/\z.length<=16/\(ys.map (·.length)).sum+ys.length<=1048576/\Q (.str (Txt.join z ys)) H):=⟨by
 intro pins s σ H x xs v us Q I rx r h
 obtain⟨z,a,ys,rfl,rfl,hq,hz,hw,q⟩:=h
 obtain⟨t,rfl⟩:=rx
 obtain⟨u,rfl,ru⟩:=oF r
 cases(show u=Value.ref a from ru)
 obtain⟨its,rv,p,hl⟩:=I.list hq
 exact join_listW p.isList (by simpa using yb6 rv) hz hw fun t' k=>⟨.str _,H,I.tok k,⟨_,rfl⟩,q⟩⟩
end
section
variable{X:Cx}
theorem wf1:SlR X (fun x lo hi H Q=>∃z:Str,x= .str z/\z.length<=sizeLine/\Q (.str (Txt.slice z lo hi)) H):=by
 intro pins s σ H x v vl vu lo hi sl Q I rx hs pl pu h
 obtain⟨z,rfl,hz,q⟩:=h
 obtain⟨t,rfl⟩:=rx
 refine⟨"str",_,F.slot_str_getitem.lookup,Xd _ _ _,?_⟩
 have fin:∀t' k,EP X pins σ Q (.str (Txt.slice z lo hi) t') {s with toks:=k}:=fun t' k=>⟨.str _,H,I.tok k,⟨_,rfl⟩,q⟩
 cases pl with
 |none=>
  cases pu with
  |none=>exact YC (l:=none) (u:=none) (st:=none) hs rfl (Xi ⟨Zt (XN z _ _) hz,fun t' k=>fin t' k⟩)
  |int j u=>exact YC (l:=none) (u:=some (j,u)) (st:=none) hs rfl (Xi ⟨Zt (XN z _ _) hz,fun t' k=>fin t' k⟩)
 |int i u'=>
  cases pu with
  |none=>exact YC (l:=some (i,u')) (u:=none) (st:=none) hs rfl (Xi ⟨Zt (XN z _ _) hz,fun t' k=>fin t' k⟩)
  |int j u=>exact YC (l:=some (i,u')) (u:=some (j,u)) (st:=none) hs rfl (Xi ⟨Zt (XN z _ _) hz,fun t' k=>fin t' k⟩)
end
mutual
inductive Dp(K:tz0)(H:Hp):V->PyData->Prop
 |non:Dp K H .non .none
 |bl (b:Bool):Dp K H (.bl b) (.bool b)
 |int (i:Int):Dp K H (.int i) (.int i)
 |str (x:Str):Dp K H (.str x) (.str x)
 |lst {a:Addr} {xs:List V} {ds:List PyData}:SqL K H a xs->DpAll K H xs ds->Dp K H (.ref a) (.list ds)
 |tup {a:Addr} {xs:List V} {ds:List PyData}:SqT K H a xs->DpAll K H xs ds->Dp K H (.ref a) (.tuple ds)
inductive DpAll(K:tz0)(H:Hp):List V->List PyData->Prop
 |nil:DpAll K H [] []
 |cons {v:V} {vs:List V} {d:PyData} {ds:List PyData}:Dp K H v d->DpAll K H vs ds->DpAll K H (v::vs) (d::ds)
end
section
variable{X:Cx}{pins:tzB}{σ:St}{H:Hp}{s:Shared}
mutual
theorem Dp.reads(I:Inv X pins σ H s):∀{v:V} {d:PyData} {u:Value},Dp X.K H v d->cG v u->∃as,Reads s.heap u d as
 |_,_,u,.non,r=>by cases(show u=Value.none from r);exact⟨_,.none⟩
 |_,_,u,.bl b,r=>by cases(show u=Value.bool b from r);exact⟨_,.bool b⟩
 |_,_,u,.int i,r=>by obtain⟨t,rfl⟩:=r;exact⟨_,.int i t⟩
 |_,_,u,.str x,r=>by obtain⟨t,rfl⟩:=r;exact⟨_,.str x t⟩
 |_,_,u,.lst (a:=a) h hs,r=>by
  cases(show u=Value.ref a from r)
  obtain⟨its,rv,p,hz⟩:=I.list h
  obtain⟨as,ra⟩:=DpAll.reads I hs rv
  obtain⟨o,e,c,n,d⟩:=p.isList
  exact⟨_,.list e c d (by simpa using ra)⟩
 |_,_,u,.tup (a:=a) h hs,r=>by
  cases(show u=Value.ref a from r)
  obtain⟨its,rv,p,hz⟩:=I.tuple h
  obtain⟨as,ra⟩:=DpAll.reads I hs rv
  obtain⟨o,e,c,n,d⟩:=p
  exact⟨_,.tuple e c d (by simpa using ra)⟩
theorem DpAll.reads(I:Inv X pins σ H s):∀{vs:List V} {ds:List PyData} {us:List Value},DpAll X.K H vs ds->bJ vs us->∃as,ReadsAll s.heap us ds as
 |_,_,_,.nil,.nil=>⟨_,.nil⟩
 |_,_,_,.cons h hs,.cons r rs=>by
  obtain⟨as,ra⟩:=Dp.reads I h r
  obtain⟨bs,rb⟩:=DpAll.reads I hs rs
  exact⟨_,.cons ra rb⟩
end
end
section
variable{X:Cx}
def wk7(K:tz0)(neg:Bool):R2:=fun x y H Q=>∃d e,Dp K H x d/\Dp K H y e/\d.canLay0=true/\e.canLay0=true/\d.depth<=60/\Q (.bl (if neg then !PyData.eqv d e else PyData.eqv d e)) H
theorem wf2(hu:X.A.units+64<cLine):OpR X (compareOp .Eq) (wk7 X.K false):=⟨by
 intro pins s σ H x y v u Q I rx ry h
 obtain⟨d,e,hx,hy,cx,cy,dz,q⟩:=h
 obtain⟨as,ra⟩:=hx.reads I rx
 obtain⟨bs,rb⟩:=hy.reads I ry
 exact SeqAt.compareEq_reads ra rb cx cy (by have:=Nat.min_le_left d.depth e.depth;omega) ⟨.bl _,H,I,rfl,q⟩⟩
theorem wf3(hu:X.A.units+64<cLine):OpR X (compareOp .NotEq) (wk7 X.K true):=⟨by
 intro pins s σ H x y v u Q I rx ry h
 obtain⟨d,e,hx,hy,cx,cy,dz,q⟩:=h
 obtain⟨as,ra⟩:=hx.reads I rx
 obtain⟨bs,rb⟩:=hy.reads I ry
 exact SeqAt.compareNe_reads ra rb cx cy (by have:=Nat.min_le_left d.depth e.depth;omega) ⟨.bl _,H,I,rfl,q⟩⟩
end
section
variable{prog:Program}{w:World}{A:Around}{E:Value->Shared->Prop}{s:Shared}{env:Env}
theorem yk4{l:Addr}{items:Array Value}{elts:List Expr}{k:Nat}{pos:Pos}{Q:Unit->Shared->Prop}(hh:A.handled=none)(hl:s.heap.IsList l items)(hn:(assignEach elts env).length=items.size)
  (hstar:(assignEach elts env).findIdx? (·.1)=none) (h:∀h',Heap.ExtBut s.heap.objs.size s.heap h'->wpAny (model prog w) A (assignInOrder ((assignEach elts env).map (·.2)) items.toList) Q E {s with heap:=h'}):
  wpAny (model prog w) A (assign (.Tuple elts k pos) env (.ref l)) Q E s:=by
 rw [assign_Tuple]
 refine Zf (Wp ?_)
 unfold unpack
 rw [hn,hstar]
 exact Zf (Yx (PySem.W.kun_itemsOf hh hl h))
end
section
variable{X:Cx}{pos:Pos}
def xs1(K:tz0)(n:Nat)(t:TGs):TG:=fun v σ H Q=>∃a xs,v= .ref a/\SqL K H a xs/\xs.length=n/\t xs σ H Q
theorem wf4{es:List Expr}{k:Nat}{t:TGs}{n:Nat}(hc:X.calm=true)(h:PGs X es t)
  (hn:(assignEach es X.env).length=n:=by rfl) (hst:(assignEach es X.env).findIdx? (·.1)=none:=by rfl):PG X (.Tuple es k pos) (xs1 X.K n t):=⟨by
 intro pins s σ H v u Q I r hw
 obtain⟨a,xs,e1,hq,hl,hw⟩:=hw
 subst e1
 cases r
 obtain⟨its,rv,ht,hz⟩:=I.list hq
 refine yk4 (I.ok.hd hc) ht.isList (by simp [hn,<-hl,rv.length]) hst fun h' hx=> ?_
 have I1:Inv X pins σ H {s with heap:=h'}:=I.kept (t':=s.toks) fun b o e=>hx b o (ZE (Zk e)) e
 exact h pins _ σ H xs _ Q I1 (by simpa using rv) hw⟩
end
inductive AreC:List Expr->List V->Prop
 |nil:AreC [] []
 |int {i:Int} {j:Nat} {pos:Pos} {es:List Expr} {vs:List V}:AreC es vs->AreC (.Constant (.int i) j pos::es) (.int i::vs)
 |str {x:Str} {j:Nat} {pos:Pos} {es:List Expr} {vs:List V}:AreC es vs->AreC (.Constant (.str x) j pos::es) (.str x::vs)
 |bl {b:Bool} {j:Nat} {pos:Pos} {es:List Expr} {vs:List V}:AreC es vs->AreC (.Constant (.bool b) j pos::es) (.bl b::vs)
 |non {j:Nat} {pos:Pos} {es:List Expr} {vs:List V}:AreC es vs->AreC (.Constant .none j pos::es) (.non::vs)
def zn3(vs:List V):TA:=fun _ H Q=>Q vs H
theorem xc2{X:Cx}{es:List Expr}{vs:List V}(h:AreC es vs):PA X es (zn3 vs):=by
 induction h with
 |nil=>exact kT
 |int _ ih=>exact⟨fun pos pins s σ H Q I q=>eK (t:=zn3 _) iG ih rfl pos pins s σ H Q I q⟩
 |str _ ih=>exact⟨fun pos pins s σ H Q I q=>eK (t:=zn3 _) yz0 ih rfl pos pins s σ H Q I q⟩
 |bl _ ih=>exact⟨fun pos pins s σ H Q I q=>eK (t:=zn3 _) xt1 ih rfl pos pins s σ H Q I q⟩
 |non _ ih=>exact⟨fun pos pins s σ H Q I q=>eK (t:=zn3 _) yy9 ih rfl pos pins s σ H Q I q⟩
set_option genInjectivity true in
inductive D where
 |non|bl (b:Bool)|int (i:Int)|str (x:Str)|ty (n:String)
 |tup (xs:List D)|con (xs:List D)|lst (o:Bool) (xs:List D)|dic (o:Bool) (ks:List Key) (vs:List D)|obj (o:Bool) (C:Str) (ns:List Str) (vs:List D)
mutual
def D.imm:D->Bool
 | .tup xs=>D.imms xs
 | .con xs=>D.imms xs
 | .lst o xs=> !o&&D.imms xs
 | .dic o _ vs=> !o&&D.imms vs
 | .obj o _ _ vs=> !o&&D.imms vs
 |_=>true
def D.imms:List D->Bool
 |[]=>true
 |d::ds=>d.imm&&D.imms ds
end
def kd:HO->Bool
 | .lst _=>true
 | .tup _=>true
 | .dK _=>true
 | .ins _ _ _=>true
 | .frz _ _=>true
 | .xd _=>true
 |_=>false
def tf:HO->Bool
 | .tup _=>true
 | .frz _ _=>true
 |_=>false
theorem nS(h:tf o=true):kd o=true:=by cases o<;>first|rfl|cases h
def SqF(K:tz0)(H:Hp)(a:Addr)(xs:List V):Prop:=(∃o,H a=some (.frz o (.lst xs)))\/
 ∃(o:Obj) (its:Array Value) (n:Nat),K.lookup a=some o/\o.cls= .type "list"/\o.dict=none/\o.data= .seq its n/\its.size<=sizeLine/\bJ xs its.toList
mutual
inductive Rep(K:tz0)(U:tz9)(H:Hp):V->D->List Addr->Prop
 |non:Rep K U H .non .non []
 |bl (b:Bool):Rep K U H (.bl b) (.bl b) []
 |int (i:Int):Rep K U H (.int i) (.int i) []
 |str (x:Str):Rep K U H (.str x) (.str x) []
 |ty (n:String):Rep K U H (.ty n) (.ty n) []
 |tup {a:Addr} {vs:List V} {ds:List D}:SqT K H a vs->Reps K U H vs ds []->Rep K U H (.ref a) (.tup ds) []
 |con {a:Addr} {vs:List V} {ds:List D}:SqF K H a vs->Reps K U H vs ds []->Rep K U H (.ref a) (.con ds) []
 |lst {a:Addr} {vs:List V} {ds:List D} {fp:List Addr}:H a=some (.lst vs)->Reps K U H vs ds fp->Rep K U H (.ref a) (.lst true ds) (a::fp)
 |lstF {a:Addr} {o:Obj} {vs:List V} {ds:List D}:H a=some (.frz o (.lst vs))->Reps K U H vs ds []->Rep K U H (.ref a) (.lst false ds) []
 |dic {a:Addr} {kvs:List (Key×V)} {ks:List Key} {ds:List D} {fp:List Addr}:H a=some (.dK kvs)->kvs.map (·.1)=ks->Reps K U H (kvs.map (·.2)) ds fp->Rep K U H (.ref a) (.dic true ks ds) (a::fp)
 |dicF {a:Addr} {o:Obj} {kvs:List (Key×V)} {ks:List Key} {ds:List D}:H a=some (.frz o (.dK kvs))->kvs.map (·.1)=ks->Reps K U H (kvs.map (·.2)) ds []->Rep K U H (.ref a) (.dic false ks ds) []
 |obj {a dx:Addr} {C:Str} {fs:List (Str×V)} {ns:List Str} {ds:List D} {fp:List Addr}:H a=some (.ins (U C) dx fs)->fs.map (·.1)=ns->Reps K U H (fs.map (·.2)) ds fp->Rep K U H (.ref a) (.obj true C ns ds) (a::fp)
 |objF {a dx:Addr} {o:Obj} {C:Str} {fs:List (Str×V)} {ns:List Str} {ds:List D}:H a=some (.frz o (.ins (U C) dx fs))->fs.map (·.1)=ns->Reps K U H (fs.map (·.2)) ds []->Rep K U H (.ref a) (.obj false C ns ds) []
inductive Reps(K:tz0)(U:tz9)(H:Hp):List V->List D->List Addr->Prop
 |nil:Reps K U H [] [] []
 |cons {v:V} {vs:List V} {d:D} {ds:List D} {f g:List Addr}:Rep K U H v d f->Reps K U H vs ds g->Reps K U H (v::vs) (d::ds) (f++g)
end
section
variable{K:tz0}{U:tz9}{H H':Hp}
theorem SqT.tf(t:∀a o,H a=some o->tf o=true->H' a=some o){a:Addr}{xs:List V}(h:SqT K H a xs):SqT K H' a xs:=by
 rcases h with (h|⟨o,h⟩)|h
 ·exact .inl (.inl (t _ _ h rfl))
 ·exact .inl (.inr ⟨o,t _ _ h rfl⟩)
 ·exact .inr h
theorem SqF.tf(t:∀a o,H a=some o->tf o=true->H' a=some o){a:Addr}{xs:List V}(h:SqF K H a xs):SqF K H' a xs:=h.elim (fun⟨o,h⟩=> .inl ⟨o,t _ _ h rfl⟩) .inr
theorem SqF.l(h:SqF K H a xs):SqL K H a xs:=h.elim (fun⟨o,h⟩=> .inl (.inr ⟨o,h⟩)) .inr
theorem iH{P:Addr->Prop}:∀a∈([]:List Addr),P a:=fun _ h=>nomatch h
theorem Reps.move(t:∀a o,H a=some o->tf o=true->H' a=some o){vs:List V}{ds:List D}{fp:List Addr}(h:Reps K U H vs ds fp):(∀a∈fp,H' a=H a)->Reps K U H' vs ds fp:=
 Reps.rec (motive_1:=fun v d fp _=>(∀a∈fp,H' a=H a)->Rep K U H' v d fp) (motive_2:=fun vs ds fp _=>(∀a∈fp,H' a=H a)->Reps K U H' vs ds fp)
  (fun _=> .non) (fun b _=> .bl b) (fun b _=> .int b) (fun b _=> .str b) (fun b _=> .ty b) (fun h _ ih _=> .tup (h.tf t) (ih iH)) (fun h _ ih _=> .con (h.tf t) (ih iH))
  (fun h _ ih k=> .lst ((k _ Z0).trans h) (ih fun a ha=>k a (Z1 _ ha))) (fun h _ ih _=> .lstF (t _ _ h rfl) (ih iH))
  (fun h e _ ih k=> .dic ((k _ Z0).trans h) e (ih fun a ha=>k a (Z1 _ ha))) (fun h e _ ih _=> .dicF (t _ _ h rfl) e (ih iH))
  (fun h e _ ih k=> .obj ((k _ Z0).trans h) e (ih fun a ha=>k a (Z1 _ ha))) (fun h e _ ih _=> .objF (t _ _ h rfl) e (ih iH))
  (fun _=> .nil) (fun _ _ i1 i2 k=> .cons (i1 fun a ha=>k a (Zi _ ha)) (i2 fun a ha=>k a (Z8 _ ha))) h
theorem Reps.nil_fp(h:Reps K U H vs [] fp):vs=[]/\fp=[]:=by cases h;exact⟨rfl,rfl⟩
theorem Reps.one_inv(r:Reps K U H vs [d] fp):∃v,vs=[v]/\Rep K U H v d fp:=by
 cases r with
 |cons h hs=>
  obtain⟨rfl,rfl⟩:=hs.nil_fp
  exact⟨_,rfl,by rw [Zj];exact h⟩
theorem Reps.one(h:Rep K U H v d f):Reps K U H [v] [d] f:=by have:=Reps.cons h (Reps.nil (K:=K) (U:=U) (H:=H));rwa [Zj] at this
theorem Rep.move(t:∀a o,H a=some o->tf o=true->H' a=some o){v:V}{d:D}{fp:List Addr}(h:Rep K U H v d fp)(k:∀a∈fp,H' a=H a):Rep K U H' v d fp:=by
 obtain⟨u,e,r⟩:=((Reps.one h).move t k).one_inv
 cases e;exact r
theorem Reps.own{vs:List V}{ds:List D}{fp:List Addr}(h:Reps K U H vs ds fp):∀a∈fp,∃o,H a=some o/\kd o=true/\tf o=false:=
 Reps.rec (motive_1:=fun _ _ fp _=>∀a∈fp,∃o,H a=some o/\kd o=true/\tf o=false) (motive_2:=fun _ _ fp _=>∀a∈fp,∃o,H a=some o/\kd o=true/\tf o=false)
  iH (fun _=>iH) (fun _=>iH) (fun _=>iH) (fun _=>iH) (fun _ _ _=>iH) (fun _ _ _=>iH)
  (fun h _ ih a ha=>(Z4.mp ha).elim (fun e=>e▸⟨_,h,rfl,rfl⟩) (ih a)) (fun _ _ _=>iH)
  (fun h _ _ ih a ha=>(Z4.mp ha).elim (fun e=>e▸⟨_,h,rfl,rfl⟩) (ih a)) (fun _ _ _ _=>iH)
  (fun h _ _ ih a ha=>(Z4.mp ha).elim (fun e=>e▸⟨_,h,rfl,rfl⟩) (ih a)) (fun _ _ _ _=>iH)
  iH (fun _ _ i1 i2 a ha=>(Zn.mp ha).elim (i1 a) (i2 a)) h
theorem Rep.own(h:Rep K U H v d fp):∀a∈fp,∃o,H a=some o/\kd o=true/\tf o=false:=(Reps.one h).own
theorem Rep.imm(h:Rep K U H v d fp)(e:d.imm=true):fp=[]:=by
 cases h<;>first|rfl|exact nomatch e
theorem Reps.imm:∀{vs:List V} {ds:List D} {fp:List Addr},Reps K U H vs ds fp->D.imms ds=true->fp=[]
 |_,_,_,.nil,_=>rfl
 |_,_,_,.cons h hs,e=>by
  rw [D.imms,Zx] at e
  rw [h.imm e.1,Reps.imm hs e.2];rfl
theorem Reps.length:∀{vs:List V} {ds:List D} {fp:List Addr},Reps K U H vs ds fp->vs.length=ds.length
 |_,_,_,.nil=>rfl
 |_,_,_,.cons _ hs=>by rw [Z6,Z6,Reps.length hs]
theorem Reps.get:∀{vs:List V} {ds:List D} {fp:List Addr} {i:Nat} {d:D},Reps K U H vs ds fp->ds[i]? =some d->∃v f,vs[i]? =some v/\Rep K U H v d f/\∀a∈f,a∈fp
 |_,_,_,_,_,.nil,e=>by simp at e
 |_,_,_,0,_,.cons h _,e=>by simp at e;subst e;exact⟨_,_,rfl,h,fun a ha=>Zi _ ha⟩
 |_,_,_,i+1,_,.cons _ hs,e=>by
  obtain⟨v,f,h1,h2,h3⟩:=Reps.get (i:=i) hs (by simpa using e)
  exact⟨v,f,by simpa using h1,h2,fun a ha=>Z8 _ (h3 a ha)⟩
theorem Reps.append:∀{vs:List V} {ds:List D} {f:List Addr} {us:List V} {es:List D} {g:List Addr},Reps K U H vs ds f->Reps K U H us es g->Reps K U H (vs++us) (ds++es) (f++g)
 |_,_,_,_,_,_,.nil,r=>r
 |_,_,_,_,_,_,.cons h hs,r=>by rw [Zl];exact .cons h (Reps.append hs r)
theorem Reps.split:∀{vs:List V} {d:D} {ds:List D} {fp:List Addr},Reps K U H vs (d::ds) fp->∃v us f g,vs=v::us/\Rep K U H v d f/\Reps K U H us ds g/\fp=f++g
 |_,_,_,_,.cons h hs=>⟨_,_,_,_,rfl,h,hs,rfl⟩
theorem Reps.nilp:∀{vs:List V} {ds:List D},Reps K U H vs ds []->Paired (fun v d=>Rep K U H v d []) vs ds:=by
 intro vs ds h
 generalize e:([]:List Addr)=fp at h
 induction h using Reps.rec (motive_1:=fun _ _ _ _=>True) with
 |nil=>exact .nil
 |cons h hs _ ih=>
  obtain⟨e1,e2⟩:=W6.mp e.symm
  subst e1;subst e2
  exact .cons h (ih rfl)
 |_=>trivial
theorem Reps.ofp:∀{vs:List V} {ds:List D},Paired (fun v d=>Rep K U H v d []) vs ds->Reps K U H vs ds []
 |_,_,.nil=> .nil
 |_,_,.cons h hs=> .cons (f:=[]) (g:=[]) h (Reps.ofp hs)
end
theorem Paired.takeN:∀{l₁:List α} {l₂:List β} (n:Nat),Paired R l₁ l₂->Paired R (l₁.take n) (l₂.take n)
 |_,_,0,_=> .nil
 |_,_,_+1,.nil=> .nil
 |_,_,n+1,.cons h t=> .cons h (Paired.takeN n t)
theorem Paired.dropN:∀{l₁:List α} {l₂:List β} (n:Nat),Paired R l₁ l₂->Paired R (l₁.drop n) (l₂.drop n)
 |_,_,0,r=>r
 |_,_,_+1,.nil=> .nil
 |_,_,n+1,.cons _ t=>Paired.dropN n t
theorem Paired.app:∀{l₁:List α} {l₂:List β} {m₁:List α} {m₂:List β},Paired R l₁ l₂->Paired R m₁ m₂->Paired R (l₁++m₁) (l₂++m₂)
 |_,_,_,_,.nil,r=>r
 |_,_,_,_,.cons h t,r=> .cons h (Paired.app t r)
theorem Paired.repl(r:Paired R l₁ l₂):∀k:Nat,Paired R (List.replicate k l₁).flatten (List.replicate k l₂).flatten
 |0=> .nil
 |k+1=>by rw [Ye,Ye,Yz,Yz];exact Paired.app r (Paired.repl r k)
structure SameK(H H':Hp):Prop where
 keep:∀a o,H a=some o->kd o=true->H' a=some o
 grow:∀a,H' a=none->H a=none
theorem SameK.refl(H:Hp):SameK H H:=⟨fun _ _ h _=>h,fun _ h=>h⟩
theorem SameK.trans(a:SameK H H1)(b:SameK H1 H2):SameK H H2:=⟨fun c o h k=>b.keep c o (a.keep c o h k) k,fun c h=>a.grow c (b.grow c h)⟩
theorem SameK.of(h:yx0 H H'):SameK H H':=⟨fun a o e _=>h a o e,fun a e=>h.free e⟩
theorem SameK.new(h:H p=none)(o:HO):SameK H (upd H p o):= .of (xm3 h o)
section
variable{K:tz0}{U:tz9}{H H':Hp}
theorem Rep.same(e:SameK H H'){v:V}{d:D}{fp:List Addr}(r:Rep K U H v d fp):Rep K U H' v d fp:=
 r.move (fun a o h t=>e.keep a o h (nS t)) fun a ha=>by obtain⟨o,h,k,_⟩:=r.own a ha;rw [h];exact e.keep a o h k
theorem Reps.same(e:SameK H H'){v:List V}{d:List D}{fp:List Addr}(r:Reps K U H v d fp):Reps K U H' v d fp:=
 r.move (fun a o h t=>e.keep a o h (nS t)) fun a ha=>by obtain⟨o,h,k,_⟩:=r.own a ha;rw [h];exact e.keep a o h k
end
theorem PE.imp(h:PE X e t)(k:∀σ H Q,t' σ H Q->t σ H Q):PE X e t':=⟨fun pins s σ H Q I q=>h pins s σ H Q I (k σ H Q q)⟩
theorem PT.imp(h:PT X e t)(k:∀σ H Q,t' σ H Q->t σ H Q):PT X e t':=⟨fun pins s σ H Q I q=>h pins s σ H Q I (k σ H Q q)⟩
theorem PW.imp(h:PW X e t)(k:∀σ H Q,t' σ H Q->t σ H Q):PW X e t':=⟨fun wh pins s σ H Q I q=>h wh pins s σ H Q I (k σ H Q q)⟩
theorem PA.imp(h:PA X e t)(k:∀σ H Q,t' σ H Q->t σ H Q):PA X e t':=⟨fun pos pins s σ H Q I q=>h pos pins s σ H Q I (k σ H Q q)⟩
theorem PS.imp{X:Cx}{st:Stmt}{t t':TS}(h:PS X st t)(k:∀D σ H,t' D σ H->t D σ H):PS X st t':=⟨fun pins s σ H D I q=>h pins s σ H D I (k D σ H q)⟩
theorem PSs.imp{X:Cx}{st:List Stmt}{t t':TS}(h:PSs X st t)(k:∀D σ H,t' D σ H->t D σ H):PSs X st t':=⟨fun pins s σ H D I q=>h pins s σ H D I (k D σ H q)⟩
abbrev PSt:=List (Option D)
abbrev _root_.tz7:=List D->Option (D×List D)
abbrev _root_.tz8:=PSt->Option (D×PSt)
abbrev _root_.tz3:=PSt->Option (List D)
abbrev _root_.tz4:=PSt->Option Bool
abbrev _root_.tz6:=List D->Option D
abbrev _root_.tz2:=PSt->Option D
abbrev _root_.tz5:=PSt->Bool
def WS(K:tz0)(U:tz9)(H:Hp)(σ:St)(ps:PSt):Prop:=∀(i:Nat) (d:D),ps[i]? =some (some d)->∃v fp,σ[i]? =some (some v)/\Rep K U H v d fp
theorem WS.same{K:tz0}{U:tz9}{H H':Hp}{σ:St}{ps:PSt}(w:WS K U H σ ps)(e:SameK H H'):WS K U H' σ ps:=fun i d h=>by
 obtain⟨v,fp,h1,h2⟩:=w i d h
 exact⟨v,fp,h1,h2.same e⟩
def lF(K:tz0)(U:tz9)(H:Hp)(d:D)(Q:VK):Prop:=∀v H' fv,SameK H H'->(∀a∈fv,H a=none)->fv.Nodup->Rep K U H' v d fv->Q v H'
def wk8(K:tz0)(U:tz9)(H:Hp)(d:D)(Q:VK):Prop:=∀v H' fp,SameK H H'->Rep K U H' v d fp->Q v H'
def tV(K:tz0)(U:tz9)(f:tz2):TE:=fun σ H Q=>∃ps d,WS K U H σ ps/\f ps=some d/\wk8 K U H d Q
def tP(K:tz0)(U:tz9)(f:tz2):TE:=fun σ H Q=>∃ps d,WS K U H σ ps/\f ps=some d/\lF K U H d Q
def tQ(K:tz0)(U:tz9)(f:tz4):TT:=fun σ H Q=>∃ps b,WS K U H σ ps/\f ps=some b/\∀H',SameK H H'->Q b H'
def tVA(K:tz0)(U:tz9)(f:tz3):TA:=fun σ H Q=>∃ps ds,WS K U H σ ps/\f ps=some ds/\∀vs H' fp,SameK H H'->Reps K U H' vs ds fp->Q vs H'
def tPA(K:tz0)(U:tz9)(f:tz3):TA:=fun σ H Q=>∃ps ds,WS K U H σ ps/\f ps=some ds/\∀vs H' fv,SameK H H'->(∀a∈fv,H a=none)->fv.Nodup->Reps K U H' vs ds fv->Q vs H'
abbrev QV(X:Cx)(U:tz9)(e:Expr)(f:tz2):Prop:=PE X e (tV X.K U f)
abbrev QP(X:Cx)(U:tz9)(e:Expr)(f:tz2):Prop:=PE X e (tP X.K U f)
abbrev QT(X:Cx)(U:tz9)(e:Expr)(f:tz4):Prop:=PT X e (tQ X.K U f)
abbrev QW(X:Cx)(U:tz9)(e:Expr)(f:tz4):Prop:=PW X e (tQ X.K U f)
abbrev QVA(X:Cx)(U:tz9)(es:List Expr)(f:tz3):Prop:=PA X es (tVA X.K U f)
abbrev QPA(X:Cx)(U:tz9)(es:List Expr)(f:tz3):Prop:=PA X es (tPA X.K U f)
theorem lF.see{K:tz0}{U:tz9}{H:Hp}{d:D}{Q:VK}(h:wk8 K U H d Q):lF K U H d Q:=fun v H' fv s _ _ r=>h v H' fv s r
theorem lF.after{K:tz0}{U:tz9}{H H1:Hp}{d:D}{Q:VK}(h:lF K U H d Q)(s:SameK H H1):lF K U H1 d Q:=
 fun v H' fv s' n nd r=>h v H' fv (s.trans s') (fun a ha=>s.grow a (n a ha)) nd r
theorem lF.now{K:tz0}{U:tz9}{H:Hp}{d:D}{Q:VK}{v:V}(h:lF K U H d Q)(r:Rep K U H v d []):Q v H:=h v H [] (.refl H) (fun _ h=>absurd h (by simp)) Zm r
theorem lF.at{K:tz0}{U:tz9}{H:Hp}{d:D}{Q:VK}{p:Addr}{o:HO}{fv:List Addr}(h:lF K U H d Q)(hp:H p=none)(hn:∀a∈fv,H a=none)(nd:fv.Nodup)(r:Rep K U (upd H p o) (.ref p) d fv):Q (.ref p) (upd H p o):=
 h _ _ fv (.new hp o) hn nd r
section
variable{X:Cx}{U:tz9}{e a b:Expr}{f fa fb:tz2}
theorem QP.v(h:QP X U e f):QV X U e f:=h.imp fun _ _ _ ⟨ps,d,w,e,q⟩=>⟨ps,d,w,e,.see q⟩
def aX(f:tz2):tz2:=fun ps=>(f ps).bind fun d=>if d.imm=true then some d else none
theorem QV.p(h:QV X U e f):QP X U e (aX f):=h.imp fun σ H Q hh_=>by
 obtain⟨ps,d,w,e,q⟩:=hh_
 unfold aX at e
 cases e1:f ps with
 |none=>rw [e1] at e;cases e
 | some d1=>
  rw [e1] at e
  by_cases hi:d1.imm=true
  ·have e2:d1=d:=by simpa [hi] using e
   subst e2
   refine⟨ps,d1,w,e1,fun v H' fp s r=> ?_⟩
   have:=r.imm hi;subst this
   exact q v H' [] s (fun _ h=>absurd h (by simp)) Zm r
  ·simp [hi] at e
def aA(i:Nat):tz2:=fun ps=>(ps[i]?).join
theorem aC(i:Nat){x:Str}{pos:Pos}(hN:X.N[i]? =some x:=by rfl)(hv:Vis X.env.scope x:=by first|exact Or.inl rfl|exact Or.inr (Or.inl rfl)|exact Or.inr (Or.inr rfl))(hd:NDb x:=by decide)
  (hcd:(x==("__classdict__":Str))=false:=by decide):QV X U (.Name x pos) (aA i):=(qH hN hv hd hcd).imp fun σ H Q hh_=>by
 obtain⟨ps,d,w,e,q⟩:=hh_
 have e':ps[i]? =some (some d):=by
  unfold aA at e
  cases q:ps[i]? with
  |none=>rw [q] at e;cases e
  |some o=>rw [q] at e;exact ZN some e
 obtain⟨v,fp,h1,h2⟩:=w i d e'
 exact⟨v,h1,q v H fp (.refl H) h2⟩
def fC(d:D):tz2:=fun _=>some d
theorem aG{i j pos}:QP X U (.Constant (.int i) j pos) (fC (.int i)):=iG.imp fun σ H Q ⟨ps,d,w,e,q⟩=>by cases e;exact q _ H [] (.refl H) (fun _ h=>absurd h (by simp)) Zm (.int i)
theorem bV{x j pos}:QP X U (.Constant (.str x) j pos) (fC (.str x)):=yz0.imp fun σ H Q ⟨ps,d,w,e,q⟩=>by cases e;exact q _ H [] (.refl H) (fun _ h=>absurd h (by simp)) Zm (.str x)
theorem nN{b j pos}:QP X U (.Constant (.bool b) j pos) (fC (.bl b)):=xt1.imp fun σ H Q ⟨ps,d,w,e,q⟩=>by cases e;exact q _ H [] (.refl H) (fun _ h=>absurd h (by simp)) Zm (.bl b)
theorem jG{j pos}:QP X U (.Constant .none j pos) (fC .non):=yy9.imp fun σ H Q ⟨ps,d,w,e,q⟩=>by cases e;exact q _ H [] (.refl H) (fun _ h=>absurd h (by simp)) Zm .non
theorem vP(hg:Gl X x)(hm:X.mg x=some u)(r:cG v u)(hd:∀H,Rep X.K U H v d [])(hdb:NDb x:=by decide):QP X U (.Name x pos) (fC d):=
 (zc2 hg hm r hdb).imp fun σ H Q ⟨ps,d,w,e,q⟩=>by cases e;exact q _ H [] (.refl H) (fun _ h=>absurd h (by simp)) Zm (hd H)
theorem xt6(hg:Gl X x)(hm:X.mg x=none)(hv:bootBuiltins x=some (.type n))(hn:x≠"__name__":=by decide)(hd:NDb x:=by decide):QP X U (.Name x pos) (fC (.ty n)):=
 (yl4 (v:= .ty n) hg hm hv rfl hn hd).imp fun σ H Q ⟨ps,d,w,e,q⟩=>by cases e;exact q _ H [] (.refl H) (fun _ h=>absurd h (by simp)) Zm (.ty n)
def f2(g:D->D->Option D)(fa fb:tz2):tz2:=fun ps=>(fa ps).bind fun x=>(fb ps).bind fun y=>g x y
def POp(K:tz0)(U:tz9)(g:D->D->Option D):R2:=fun x y H Q=>∃dx dy d fx fy,Rep K U H x dx fx/\Rep K U H y dy fy/\g dx dy=some d/\lF K U H d Q
theorem vQ(h:f2 g fa fb ps=some d):∃x y,fa ps=some x/\fb ps=some y/\g x y=some d:=by
 unfold f2 at h
 cases e1:fa ps with
 |none=>rw [e1] at h;cases h
 |some x=>
  rw [e1] at h
  cases e2:fb ps with
  |none=>rw [e2] at h;cases h
  |some y=>rw [e2] at h;exact⟨x,y,rfl,rfl,h⟩
theorem yb7(hr:∀x y H Q,POp X.K U g x y H Q->r x y H Q)(h:tP X.K U (f2 g fa fb) σ H Q):tOp r (tV X.K U fa) (tV X.K U fb) σ H Q:=by
 obtain⟨ps,d,w,e,q⟩:=h
 obtain⟨x,y,e1,e2,e3⟩:=vQ e
 exact⟨ps,x,w,e1,fun v H1 fp s1 r1=>⟨ps,y,w.same s1,e2,fun u H2 fq s2 r2=>hr _ _ _ _ ⟨x,y,d,fp,fq,r1.same s2,r2,e3,q.after (s1.trans s2)⟩⟩⟩
theorem bG(ho:OpR X (binaryOp op) (POp X.K U g))(ha:QV X U a fa)(hb:QV X U b fb):QP X U (.BinOp a op b pos) (f2 g fa fb):=
 (gJ ho ha hb).imp fun _ _ _ h=>yb7 (fun _ _ _ _ h=>h) h
theorem lO(ho:OpR X (compareOp op) (POp X.K U g))(ha:QV X U a fa)(hb:QV X U b fb)(hm:behindInMarks op b=false):QP X U (.Compare a [op] [b] pos) (f2 g fa fb):=
 (xv6 ho ha hb hm).imp fun _ _ _ h=>yb7 (fun _ _ _ _ h=>h) h
def dB:D->Option Bool
 | .bl b=>some b
 |_=>none
def fB(f:tz2):tz4:=fun ps=>(f ps).bind dB
theorem zq0{f:tz2}{ps:PSt}{b:Bool}(h:fB f ps=some b):f ps=some (.bl b):=by
 unfold fB at h
 cases e:f ps with
 |none=>rw [e] at h;cases h
 |some d=>rw [e] at h;cases d<;>first|(cases h;rfl)|cases h
theorem Rep.is_bl{K:tz0}{H:Hp}{v:V}{b:Bool}{fp:List Addr}(r:Rep K U H v (.bl b) fp):v= .bl b:=by cases r;rfl
theorem Rep.is_int{K:tz0}{H:Hp}{v:V}{b:Int}{fp:List Addr}(r:Rep K U H v (.int b) fp):v= .int b:=by cases r;rfl
theorem Rep.is_str{K:tz0}{H:Hp}{v:V}{b:Str}{fp:List Addr}(r:Rep K U H v (.str b) fp):v= .str b:=by cases r;rfl
theorem bS(ho:OpR X (compareOp op) (POp X.K U g))(ha:QV X U a fa)(hb:QV X U b fb)(hm:behindInMarks op b=false):QT X U (.Compare a [op] [b] pos) (fB (f2 g fa fb)):=
 (ym0 ho ha hb hm).imp fun σ H Q ⟨ps,c,w,e,q⟩=>yb7 (Q:=fun x H'=>∃k,x= .bl k/\Q k H') (fun _ _ _ _ h=>h) ⟨ps,_,w,zq0 e,fun v H' fv s _ _ r=>⟨c,r.is_bl,q H' s⟩⟩
def f3(g g':D->D->Option D)(fa fb fc:tz2):tz2:=fun ps=>(fa ps).bind fun x=>(fb ps).bind fun y=>(g x y).bind fun k=>match k with
 | .bl true=>(fc ps).bind fun z=>g' y z
 | .bl false=>some (.bl false)
 |_=>none
def zs7:D->Option Bool
 | .non=>some false
 | .bl b=>some b
 | .int i=>some (i !=0)
 | .str y=>if y.length<=sizeLine then some ((y.length:Int) !=0) else none
 | .lst _ xs=>some (!xs.isEmpty)
 | .tup xs=>some (!xs.isEmpty)
 | .con xs=>some (!xs.isEmpty)
 |_=>none
theorem oG{K:tz0}{H:Hp}{vs:List V}{ds:List D}{fp:List Addr}(r:Reps K U H vs ds fp):ds.isEmpty=vs.isEmpty:=by cases r<;>rfl
theorem ym5{K:tz0}{H:Hp}{v:V}{d:D}{fp:List Addr}{b:Bool}(r:Rep K U H v d fp)(h:zs7 d=some b):xr8 K v H b:=by
 cases r with
 |non=>cases h;rfl
 |bl b=>cases h;rfl
 |int i=>cases h;rfl
 |str x=>
  rw [zs7] at h
  split at h
  ·cases h;exact⟨by assumption,rfl⟩
  ·cases h
 |tup s rs=>cases h;exact .inr (.inl ⟨_,s,by rw [oG rs]⟩)
 |con s rs=>cases h;exact .inl ⟨_,s.l,by rw [oG rs]⟩
 |lst s rs=>cases h;exact .inl ⟨_,.inl (.inl s),by rw [oG rs]⟩
 |lstF s rs=>cases h;exact .inl ⟨_,.inl (.inr ⟨_,s⟩),by rw [oG rs]⟩
 |_=>cases h
def fT(f:tz2):tz4:=fun ps=>(f ps).bind zs7
theorem xx2{f:tz2}{ps:PSt}{b:Bool}(h:fT f ps=some b):∃d,f ps=some d/\zs7 d=some b:=by
 unfold fT at h
 cases e:f ps with
 |none=>rw [e] at h;cases h
 |some d=>rw [e] at h;exact⟨d,rfl,h⟩
theorem fZ(ha:QV X U a fa)(he:∀whole,isTrue a X.env whole=(do let v<-whole;standAt a.pos;holding [v] (truthy v)):=by intro _;rfl):QT X U a (fT fa):=
 (yb0 ha he).imp fun σ H Q hh_=>by
  obtain⟨ps,c,w,e,q⟩:=hh_
  obtain⟨d,e1,e2⟩:=xx2 e
  exact⟨ps,d,w,e1,fun v H' fp s r=>⟨c,ym5 r e2,q H' s⟩⟩
def cJ(f g:tz4):tz4:=fun ps=>(f ps).bind fun c=>if c=true then g ps else some false
def pQ(f g:tz4):tz4:=fun ps=>(f ps).bind fun c=>if c=true then some true else g ps
def eB(f:tz4):tz4:=fun ps=>(f ps).map (!·)
variable{pos:Pos}{rest:List Expr}{ta tb:tz4}
theorem jD(ha:QT X U a ta):QW X U (.BoolOp .And [a] pos) ta:=xv3 ha
theorem zj7(ha:QT X U a ta):QW X U (.BoolOp .Or [a] pos) ta:=yz1 ha
theorem jU(ha:QT X U a ta)(hb:QW X U (.BoolOp .And (b::rest) pos) tb):QW X U (.BoolOp .And (a::b::rest) pos) (cJ ta tb):=
 (wd1 ha hb).imp fun σ H Q hh_=>by
  obtain⟨ps,c,w,e,q⟩:=hh_
  unfold cJ at e
  cases e1:ta ps with
  |none=>rw [e1] at e;cases e
  | some k=>
   rw [e1] at e
   refine⟨ps,k,w,e1,fun H1 s1=> ?_⟩
   cases k with
   |true=>rw [if_pos rfl];exact⟨ps,c,w.same s1,by simpa using e,fun H2 s2=>q H2 (s1.trans s2)⟩
   |false=>
    rw [if_neg Z7]
    have:c=false:=by simpa using e.symm
    subst this;exact q H1 s1
theorem zj8(ha:QT X U a ta)(hb:QW X U (.BoolOp .Or (b::rest) pos) tb):QW X U (.BoolOp .Or (a::b::rest) pos) (pQ ta tb):=
 (yr2 ha hb).imp fun σ H Q hh_=>by
  obtain⟨ps,c,w,e,q⟩:=hh_
  unfold pQ at e
  cases e1:ta ps with
  |none=>rw [e1] at e;cases e
  | some k=>
   rw [e1] at e
   refine⟨ps,k,w,e1,fun H1 s1=> ?_⟩
   cases k with
   |true=>
    rw [if_pos rfl]
    have:c=true:=by simpa using e.symm
    subst this;exact q H1 s1
   |false=>rw [if_neg Z7];exact⟨ps,c,w.same s1,by simpa using e,fun H2 s2=>q H2 (s1.trans s2)⟩
theorem mZ(h:QW X U a ta):QT X U a ta:=PW.pt h
theorem oH(ha:QT X U a ta):QT X U (.UnaryOp .Not a pos) (eB ta):=
 (zj0 ha).imp fun σ H Q hh_=>by
  obtain⟨ps,c,w,e,q⟩:=hh_
  unfold eB at e
  cases e1:ta ps with
  |none=>rw [e1] at e;cases e
  |some k=>
   rw [e1] at e
   have:c= !k:=by simpa using e.symm
   subst this
   exact⟨ps,k,w,e1,fun H1 s1=>q H1 s1⟩
def rL(f g:tz2):tz2:=fun ps=>(f ps).bind fun c=>match c with
 | .bl true=>g ps
 | .bl false=>some (.bl false)
 |_=>none
def fOr(f g:tz2):tz2:=fun ps=>(f ps).bind fun c=>match c with
 | .bl true=>some (.bl true)
 | .bl false=>g ps
 |_=>none
theorem zy9{d:D}{α:Type}{x y:Option α}{z:α}(h:(match d with| .bl true=>x| .bl false=>y|_=>none)=some z):∃b,d= .bl b/\(if b=true then x else y)=some z:=by
 cases d with
 |bl b=>cases b<;>exact⟨_,rfl,h⟩
 |_=>cases h
theorem zD{op}(h:QP X U a fa):QP X U (.BoolOp op [a] pos) fa:=yz2 h
theorem yb8(ha:QP X U a fa)(hb:QP X U (.BoolOp .And (b::rest) pos) fb):QP X U (.BoolOp .And (a::b::rest) pos) (rL fa fb):=
 (yz3 ha hb).imp fun σ H Q hh_=>by
  obtain⟨ps,d,w,e,q⟩:=hh_
  unfold rL at e
  cases e1:fa ps with
  |none=>rw [e1] at e;cases e
  | some k=>
   rw [e1] at e
   obtain⟨c,rfl,e2⟩:=zy9 (x:=fb ps) (y:=some (.bl false)) e
   refine⟨ps,_,w,e1,fun v H1 fv s1 _ _ r1=>⟨c,r1.is_bl,?_⟩⟩
   cases c with
   |true=>rw [if_pos rfl] at e2|-;exact⟨ps,d,w.same s1,e2,q.after s1⟩
   |false=>
    rw [if_neg Z7] at e2|-
    cases e2;exact(q.after s1).now (.bl false)
theorem xt7(ha:QP X U a fa)(hb:QP X U (.BoolOp .Or (b::rest) pos) fb):QP X U (.BoolOp .Or (a::b::rest) pos) (fOr fa fb):=
 (wl6 ha hb).imp fun σ H Q hh_=>by
  obtain⟨ps,d,w,e,q⟩:=hh_
  unfold fOr at e
  cases e1:fa ps with
  |none=>rw [e1] at e;cases e
  |some k=>
   rw [e1] at e
   obtain⟨c,rfl,e2⟩:=zy9 (d:=k) (x:=some (D.bl true)) (y:=fb ps) (z:=d) e
   refine⟨ps,_,w,e1,fun v H1 fv s1 _ _ r1=>⟨c,r1.is_bl,?_⟩⟩
   cases c with
   |true=>rw [if_pos rfl] at e2|-;cases e2;exact(q.after s1).now (.bl true)
   |false=>rw [if_neg Z7] at e2|-;exact⟨ps,d,w.same s1,e2,q.after s1⟩
def dU(f:tz2):tz2:=fun ps=>(f ps).bind fun c=>match c with
 | .int i=>some (.int (-i))
 |_=>none
theorem oI(ha:QV X U a fa):QP X U (.UnaryOp .USub a pos) (dU fa):=
 (wl7 wd6 ha).imp fun σ H Q hh_=>by
  obtain⟨ps,d,w,e,q⟩:=hh_
  unfold dU at e
  cases e1:fa ps with
  |none=>rw [e1] at e;cases e
  |some k=>
   rw [e1] at e
   cases k with
   |int i=>cases e;exact⟨ps,_,w,e1,fun v H1 fp s1 r1=>⟨i,r1.is_int,(q.after s1).now (.int _)⟩⟩
   |_=>cases e
end
section
variable{X:Cx}{U:tz9}
theorem Inv.lstR(I:Inv X pins σ H s)(h:Rd H l (.lst xs)):
  xs.length<=sizeLine/\∃(its:List Value) (n:Nat),bJ xs its/\xs.length=its.length/\s.heap.get? l=some {cls:= .type "list",data:= .seq its.toArray n}:=by
 obtain⟨z,its,n,r,e⟩:=h.ok I.hok
 exact⟨z,its,n,r,r.length,e⟩
theorem xx3:OpR X (binaryOp .Add) (fun x y H Q=>∃l b xs zs,x= .ref l/\y= .ref b/\Rd H l (.lst xs)/\Rd H b (.lst zs)/\xs.length+zs.length<=sizeLine/\∀p,H p=none->Q (.ref p) (upd H p (.lst (xs++zs)))):=⟨by
 intro pins s σ H x y v u Q I rx ry h
 obtain⟨l,b,xs,zs,rfl,rfl,hH,hB,hz,q⟩:=h
 cases rx
 cases ry
 obtain⟨z,its,n,r,hl,e⟩:=I.lstR hH
 obtain⟨z2,its2,n2,r2,hl2,e2⟩:=I.lstR hB
 refine PySem.P.add_list e e2 ?_ (by rw [Zo,Zo];omega)
 have ea:its.toArray++its2.toArray=(its++its2).toArray:=by simp
 rw [ea]
 exact⟨.ref _,_,I.lnew (t':=s.toks) (r.append r2) (by rw [Z3];omega),rfl,q _ I.fresh⟩⟩
theorem xm6:OpR X (binaryOp .Add) (fun x y H Q=>∃a b ys,x= .ref a/\y= .ref b/\SqT X.K H a []/\SqT X.K H b ys/\Q (.ref b) H):=⟨by
 intro pins s σ H x y v u Q I rx ry h
 obtain⟨a,b,ys,rfl,rfl,ha,hb,q⟩:=h
 cases rx
 cases ry
 obtain⟨its,r1,p1,_⟩:=I.tuple ha
 obtain⟨its2,r2,p2,_⟩:=I.tuple hb
 cases r1
 obtain⟨⟨cls,dd,data,sl⟩,ho,hc,n,hd⟩:=id p1
 obtain⟨⟨cls2,dd2,data2,sl2⟩,ho2,hc2,n2,hd2⟩:=id p2
 simp only at hc hd hc2 hd2
 subst hc hd hc2 hd2
 exact concat_meets ⟨_,ho,rfl⟩ ⟨_,ho2,rfl⟩ XT Wu X0 YX (YT _ _)
   (tuple_addW0 a b _ _ n n2 dd dd2 sl sl2 rfl) ⟨ho,ho2,⟨.ref b,H,I,rfl,q⟩⟩⟩
theorem Rep.lst_inv{K:tz0}{H:Hp}{v:V}{o:Bool}{ds:List D}{fp:List Addr}(r:Rep K U H v (.lst o ds) fp):∃a vs g,v= .ref a/\Rd H a (.lst vs)/\Reps K U H vs ds g/\g.Sublist fp:=by
 cases r with
 |lst h hs=>exact⟨_,_,_,rfl,.inl h,hs,X1 _ _⟩
 |lstF h hs=>exact⟨_,_,_,rfl,.inr ⟨_,h⟩,hs,.refl _⟩
theorem Rep.lstT_inv{K:tz0}{H:Hp}{v:V}{ds:List D}{fp:List Addr}(r:Rep K U H v (.lst true ds) fp):∃a vs g,v= .ref a/\H a=some (.lst vs)/\Reps K U H vs ds g/\fp=a::g:=by
 cases r with
 |lst h hs=>exact⟨_,_,_,rfl,h,hs,rfl⟩
theorem Rep.objT_inv{K:tz0}{H:Hp}{v:V}{C:Str}{ns:List Str}{ds:List D}{fp:List Addr}(r:Rep K U H v (.obj true C ns ds) fp):∃a dx fs g,v= .ref a/\H a=some (.ins (U C) dx fs)/\fs.map (·.1)=ns/\Reps K U H (fs.map (·.2)) ds g/\fp=a::g:=by
 cases r with
 |obj h e hs=>exact⟨_,_,_,_,rfl,h,e,hs,rfl⟩
theorem Rep.tup_inv{K:tz0}{H:Hp}{v:V}{ds:List D}{fp:List Addr}(r:Rep K U H v (.tup ds) fp):∃a vs,v= .ref a/\SqT K H a vs/\Reps K U H vs ds []:=by
 cases r with
 |tup h hs=>exact⟨_,_,rfl,h,hs⟩
theorem Reps.pair{K:tz0}{H:Hp}{vs:List V}{ds:List D}{fp:List Addr}(r:Reps K U H vs ds fp)(h:D.imms ds=true):Paired (fun v d=>Rep K U H v d []) vs ds:=by
 have e:=r.imm h
 subst e
 exact r.nilp
theorem Rep.con_inv{K:tz0}{H:Hp}{v:V}{ds:List D}{fp:List Addr}(r:Rep K U H v (.con ds) fp):∃a vs,v= .ref a/\SqF K H a vs/\Reps K U H vs ds []:=by
 cases r with
 |con h hs=>exact⟨_,_,rfl,h,hs⟩
theorem zc6{K:tz0}{H:Hp}{vs:List V}{ds:List D}{Q:VK}{p:Addr}(hp:H p=none)(r:Paired (fun v d=>Rep K U H v d []) vs ds)(q:lF K U H (.lst true ds) Q):Q (.ref p) (upd H p (.lst vs)):=
 q.at hp (fv:=[p]) (fun a ha=>by simp at ha;subst ha;exact hp) (by simp) (.lst cV ((Reps.ofp r).same (.new hp _)))
theorem zq1{K:tz0}{H:Hp}{vs:List V}{ds:List D}{Q:VK}{p:Addr}(hp:H p=none)(r:Paired (fun v d=>Rep K U H v d []) vs ds)(q:lF K U H (.tup ds) Q):Q (.ref p) (upd H p (.tup vs)):=
 q.at hp (fv:=[]) (fun a ha=>by simp at ha) (by simp) (.tup (.inl (.inl cV)) ((Reps.ofp r).same (.new hp _)))
def bQ:D->D->Option D
 | .int i,.int j=>some (.int (i+j))
 | .str x,.str y=>if x.length+y.length<=sizeLine then some (.str (x++y)) else none
 | .lst _ xs,.lst _ ys=>if (D.imms xs&&D.imms ys&&decide (xs.length+ys.length<=sizeLine))=true then some (.lst true (xs++ys)) else none
 | .tup xs,.tup ys=>if xs.length+ys.length<=sizeLine then some (.tup (xs++ys)) else none
 |_,_=>none
theorem bind_some(h:o.bind g=some z):∃x,o=some x/\g x=some z:=by
 cases o with
 |none=>cases h
 |some x=>exact⟨x,rfl,h⟩
theorem bU[Decidable c]{x:Option α}{z:α}(h:(if c then x else none)=some z):c/\x=some z:=by
 by_cases k:c
 ·rw [if_pos k] at h;exact⟨k,h⟩
 ·rw [if_neg k] at h;cases h
theorem eG:OpR X (binaryOp .Add) (POp X.K U bQ):=⟨by
 rintro pins s σ H x y v u Q I rx ry ⟨dx,dy,d,fx,fy,r1,r2,e,q⟩
 unfold bQ at e
 split at e
 ·rename_i i j
  cases e;exact vO pins s σ H x y v u Q I rx ry ⟨i,j,r1.is_int,r2.is_int,q.now (.int _)⟩
 ·rename_i i j
  obtain⟨hc,e⟩:=bU e
  cases e;exact yr9 pins s σ H x y v u Q I rx ry ⟨i,j,r1.is_str,r2.is_str,hc,q.now (.str _)⟩
 ·rename_i o xs o' ys
  obtain⟨hc,e⟩:=bU e
  simp only [Zx,ZX] at hc
  cases e
  obtain⟨a,vs,g,rfl,h1,s1,_⟩:=r1.lst_inv
  obtain⟨b,us,g',rfl,h2,s2,_⟩:=r2.lst_inv
  exact xx3 pins s σ H _ _ v u Q I rx ry ⟨a,b,vs,us,rfl,rfl,h1,h2,by rw [s1.length,s2.length];exact hc.2,fun p hp=>zc6 hp (Paired.app (s1.pair hc.1.1) (s2.pair hc.1.2)) q⟩
 ·rename_i xs ys
  obtain⟨hc,e⟩:=bU e
  cases e
  obtain⟨a,vs,rfl,h1,s1⟩:=r1.tup_inv
  obtain⟨b,us,rfl,h2,s2⟩:=r2.tup_inv
  have l1:=s1.length;have l2:=s2.length
  cases vs with
  |nil=>
   cases s1
   exact xm6 pins s σ H _ _ v u Q I rx ry ⟨a,b,us,rfl,rfl,h1,h2,q.now (.tup h2 s2)⟩
  |cons w ws=>
   refine xw2 pins s σ H _ _ v u Q I rx ry ⟨a,b,_,us,rfl,rfl,h1,h2,by simp,by omega,fun z=> ?_,fun z p hp=>zq1 hp (Paired.app s1.nilp s2.nilp) q⟩
   subst z
   cases s2
   rw [Zj] at q
   exact q.now (.tup h1 s1)
 ·cases e⟩
def dII(C:Int->Int->Bool)(g:Int->Int->D):D->D->Option D
 | .int i,.int j=>if C i j=true then some (g i j) else none
 |_,_=>none
theorem yb9(h:dII C g x y=some d):∃i j,x= .int i/\y= .int j/\C i j=true/\d=g i j:=by
 unfold dII at h
 split at h
 ·obtain⟨hc,h⟩:=bU h
  cases h;exact⟨_,_,rfl,rfl,hc,rfl⟩
 ·cases h
def jB:D->D->Option D
 | .int i,.int j=>some (.int (i-j))
 |_,_=>none
theorem oJ:OpR X (binaryOp .Sub) (POp X.K U jB):=⟨by
 rintro pins s σ H x y v u Q I rx ry ⟨dx,dy,d,fx,fy,r1,r2,e,q⟩
 unfold jB at e
 split at e
 ·rename_i i j
  cases e;exact wd4 pins s σ H x y v u Q I rx ry ⟨i,j,r1.is_int,r2.is_int,q.now (.int _)⟩
 ·cases e⟩
def qR(i j:Int):Bool:=(decide (-(2^64)<i)&&decide (i<2^64))||(decide (-(2^64)<j)&&decide (j<2^64))
def jC:D->D->Option D
 | .int i,.int j=>if qR i j=true then some (.int (i*j)) else none
 | .str x,.int n=>if (decide (x.length<=1)&&decide (-(2^63)<=n)&&decide (n<=16777216))=true then some (.str (Txt.mul x n)) else none
 |_,_=>none
theorem yt2:OpR X (binaryOp .Mult) (fun x y H Q=>∃z n,x= .str z/\y= .int n/\MulOk z n/\Q (.str (Txt.mul z n)) H):=⟨by
 rintro pins s σ H x y v u Q I rx ry ⟨z,n,e1,e2,ok,q⟩
 subst e1 e2
 obtain⟨t,rfl⟩:=rx
 obtain⟨t',rfl⟩:=ry
 exact SB.mul ok fun t' k=>⟨.str _,H,I.tok k,⟨_,rfl⟩,q⟩⟩
theorem uG:OpR X (binaryOp .Mult) (POp X.K U jC):=⟨by
 rintro pins s σ H x y v u Q I rx ry ⟨dx,dy,d,fx,fy,r1,r2,e,q⟩
 unfold jC at e
 split at e
 ·rename_i i j
  obtain⟨hc,e⟩:=bU e
  cases e
  refine oE pins s σ H x y v u Q I rx ry ⟨i,j,r1.is_int,r2.is_int,?_,q.now (.int _)⟩
  unfold qR at hc
  simp only [Bool.or_eq_true,Zx,ZX] at hc
  exact hc
 ·rename_i z n
  obtain⟨hc,e⟩:=bU e
  simp only [Zx,ZX] at hc
  cases e
  exact yt2 pins s σ H _ _ v u Q I rx ry ⟨z,n,r1.is_str,r2.is_int,mulOk_of 1 16777216 hc.1.1 (by omega) hc.1.2 (by decide) (by decide),q.now (.str _)⟩
 ·cases e⟩
def eE:D->D->Option D:=dII (fun _ j=>decide (0<j)) fun i j=> .int (i % j)
theorem iY:OpR X (binaryOp .Mod) (POp X.K U eE):=⟨by
 rintro pins s σ H x y v u Q I rx ry ⟨dx,dy,d,fx,fy,r1,r2,e,q⟩
 obtain⟨i,j,rfl,rfl,hc,rfl⟩:=yb9 e
 exact zj1 pins s σ H x y v u Q I rx ry ⟨i,j,r1.is_int,r2.is_int,Xp hc,q.now (.int _)⟩⟩
def nD:D->D->Option D:=dII (fun _ j=>decide (0<j)&&decide (j<1073741824)) fun i j=> .int (i/j)
theorem wS:OpR X (binaryOp .FloorDiv) (POp X.K U nD):=⟨by
 rintro pins s σ H x y v u Q I rx ry ⟨dx,dy,d,fx,fy,r1,r2,e,q⟩
 obtain⟨i,j,rfl,rfl,hc,rfl⟩:=yb9 e
 simp only [Zx,ZX] at hc
 exact yl6 pins s σ H x y v u Q I rx ry ⟨i,j,r1.is_int,r2.is_int,hc,q.now (.int _)⟩⟩
def D.ints:List D->Option (List Int)
 |[]=>some []
 | .int i::ds=>(D.ints ds).map (i::·)
 |_::_=>none
theorem sI{K:tz0}{H:Hp}:∀{vs:List V} {ds:List D} {fp:List Addr} {ns:List Int},Reps K U H vs ds fp->D.ints ds=some ns->vs=ns.map V.int
 |_,_,_,_,.nil,e=>by cases e;rfl
 | _,d::ds,_,ns,.cons h hs,e=>by
  cases d with
  |int i=>
   rw [D.ints] at e
   cases e1:D.ints ds with
   |none=>rw [e1] at e;cases e
   |some ms=>rw [e1] at e;cases e;rw [h.is_int,sI hs e1];rfl
  |_=>cases e
def dLt:D->D->Option D
 | .int i,.int j=>some (.bl (decide (i<j)))
 |_,_=>none
theorem sX(hu:X.A.units<cLine):OpR X (compareOp .Lt) (POp X.K U dLt):=⟨by
 rintro pins s σ H x y v u Q I rx ry ⟨dx,dy,d,fx,fy,r1,r2,e,q⟩
 unfold dLt at e
 split at e
 ·rename_i i j
  cases e;exact wl8 pins s σ H x y v u Q I rx ry ⟨i,j,r1.is_int,r2.is_int,q.now (.bl _)⟩
 ·cases e⟩
def dLe:D->D->Option D
 | .int i,.int j=>some (.bl (decide (i<=j)))
 |_,_=>none
theorem zg8:OpR X (compareOp .LtE) (POp X.K U dLe):=⟨by
 rintro pins s σ H x y v u Q I rx ry ⟨dx,dy,d,fx,fy,r1,r2,e,q⟩
 unfold dLe at e
 split at e
 ·rename_i i j
  cases e;exact wl9 pins s σ H x y v u Q I rx ry ⟨i,j,r1.is_int,r2.is_int,q.now (.bl _)⟩
 ·cases e⟩
def dGt:D->D->Option D
 | .int i,.int j=>some (.bl (decide (j<i)))
 |_,_=>none
theorem yt3:OpR X (compareOp .Gt) (POp X.K U dGt):=⟨by
 rintro pins s σ H x y v u Q I rx ry ⟨dx,dy,d,fx,fy,r1,r2,e,q⟩
 unfold dGt at e
 split at e
 ·rename_i i j
  cases e;exact wm0 pins s σ H x y v u Q I rx ry ⟨i,j,r1.is_int,r2.is_int,q.now (.bl _)⟩
 ·cases e⟩
def dGe:D->D->Option D
 | .int i,.int j=>some (.bl (decide (j<=i)))
 |_,_=>none
theorem yt4:OpR X (compareOp .GtE) (POp X.K U dGe):=⟨by
 rintro pins s σ H x y v u Q I rx ry ⟨dx,dy,d,fx,fy,r1,r2,e,q⟩
 unfold dGe at e
 split at e
 ·rename_i i j
  cases e;exact wm1 pins s σ H x y v u Q I rx ry ⟨i,j,r1.is_int,r2.is_int,q.now (.bl _)⟩
 ·cases e⟩
mutual
def D.data:D->Option PyData
 | .non=>some .none
 | .bl b=>some (.bool b)
 | .int i=>some (.int i)
 | .str x=>some (.str x)
 | .tup xs=>(D.datas xs).map .tuple
 | .lst _ xs=>(D.datas xs).map .list
 |_=>none
def D.datas:List D->Option (List PyData)
 |[]=>some []
 |d::ds=>d.data.bind fun p=>(D.datas ds).map (p::·)
end
theorem Reps.dps{K:tz0}{H:Hp}{vs:List V}{ds:List D}{fp:List Addr}(h:Reps K U H vs ds fp):∀{p:List PyData},D.datas ds=some p->DpAll K H vs p:=
 Reps.rec (motive_1:=fun v d _ _=>∀{p:PyData},d.data=some p->Dp K H v p) (motive_2:=fun vs ds _ _=>∀{p:List PyData},D.datas ds=some p->DpAll K H vs p)
  (fun e=>by cases e;exact .non) (fun b _ e=>by cases e;exact .bl b) (fun b _ e=>by cases e;exact .int b) (fun b _ e=>by cases e;exact .str b) (fun b _ e=>nomatch e)
  (fun h _ ih _ e=>by obtain⟨ps,e1,e⟩:=Zr.mp e;subst e;exact .tup h (ih e1)) (fun _ _ _ _ e=>nomatch e)
  (fun h _ ih _ e=>by obtain⟨ps,e1,e⟩:=Zr.mp e;subst e;exact .lst (.inl (.inl h)) (ih e1))
  (fun h _ ih _ e=>by obtain⟨ps,e1,e⟩:=Zr.mp e;subst e;exact .lst (.inl (.inr ⟨_,h⟩)) (ih e1))
  (fun _ _ _ _ _ e=>nomatch e) (fun _ _ _ _ _ e=>nomatch e) (fun _ _ _ _ _ e=>nomatch e) (fun _ _ _ _ _ e=>nomatch e)
  (fun e=>by cases e;exact .nil)
  (fun _ _ i1 i2 _ e=>by
   obtain⟨q,e1,e⟩:=bind_some e
   obtain⟨qs,e2,e⟩:=Zr.mp e
   subst e
   exact .cons (i1 e1) (i2 e2)) h
theorem Rep.dp{K:tz0}{H:Hp}{v:V}{d:D}{fp:List Addr}{p:PyData}(h:Rep K U H v d fp)(e:d.data=some p):Dp K H v p:=by
 have:=(Reps.one h).dps (p:=[p]) (by show(d.data.bind _)=_;rw [e];rfl)
 cases this;assumption
def yi0(x y:D):Option Bool:=x.data.bind fun a=>y.data.bind fun b=>if (a.canLay0&&b.canLay0&&decide (a.depth<=60))=true then some (PyData.eqv a b) else none
def eqB(x y:D):Option Bool:=match x,y with
 | .int i,.int j=>some (decide (i=j))
 | .str i,.str j=>some (decide (i=j))
 |x,y=>yi0 x y
def dEq(x y:D):Option D:=(eqB x y).map .bl
def dNe(x y:D):Option D:=(eqB x y).map fun b=> .bl (!b)
theorem zu2(h:eqB x y=some b):(∃i j,x= .int i/\y= .int j/\b=decide (i=j))\/(∃i j,x= .str i/\y= .str j/\b=decide (i=j))\/
  ∃p q,x.data=some p/\y.data=some q/\p.canLay0=true/\q.canLay0=true/\p.depth<=60/\b=PyData.eqv p q:=by
 have gen:yi0 x y=some b->∃p q,x.data=some p/\y.data=some q/\p.canLay0=true/\q.canLay0=true/\p.depth<=60/\b=PyData.eqv p q:=fun h=>by
  unfold yi0 at h
  cases e1:x.data with
  |none=>rw [e1] at h;cases h
  | some p=>
   rw [e1] at h
   cases e2:y.data with
   |none=>rw [e2] at h;cases h
   | some q=>
    rw [e2] at h
    have h':(if (p.canLay0&&q.canLay0&&decide (p.depth<=60))=true then some (PyData.eqv p q) else none)=some b:=h
    split at h'
    ·rename_i hc
     simp only [Zx,ZX] at hc
     exact⟨p,q,rfl,rfl,hc.1.1,hc.1.2,hc.2,(Zz h').symm⟩
    ·cases h'
 unfold eqB at h
 split at h
 ·cases h;exact .inl ⟨_,_,rfl,rfl,rfl⟩
 ·cases h;exact .inr (.inl ⟨_,_,rfl,rfl,rfl⟩)
 ·exact .inr (.inr (gen h))
theorem fX(hu:X.A.units+64<cLine):OpR X (compareOp .Eq) (POp X.K U dEq):=⟨by
 rintro pins s σ H x y v u Q I rx ry ⟨dx,dy,d,fx,fy,r1,r2,e,q⟩
 unfold dEq at e
 cases e1:eqB dx dy with
 |none=>rw [e1] at e;cases e
 | some b=>
  rw [e1] at e
  cases e
  rcases zu2 e1 with ⟨i,j,rfl,rfl,rfl⟩|⟨i,j,rfl,rfl,rfl⟩|⟨p,p',h1,h2,h3,h4,h5,rfl⟩
  ·rw [r1.is_int] at rx;rw [r2.is_int] at ry
   exact yr7 pins s σ H _ _ v u Q I rx ry ⟨rfl,by rw [show decide (V.int i=V.int j)=decide (i=j) by simp];exact q.now (.bl _)⟩
  ·rw [r1.is_str] at rx;rw [r2.is_str] at ry
   exact yr7 pins s σ H _ _ v u Q I rx ry ⟨rfl,by rw [show decide (V.str i=V.str j)=decide (i=j) by simp];exact q.now (.bl _)⟩
  ·exact wf2 hu pins s σ H _ _ v u Q I rx ry ⟨p,p',r1.dp h1,r2.dp h2,h3,h4,h5,q.now (.bl _)⟩⟩
theorem wp9(hu:X.A.units+64<cLine):OpR X (compareOp .NotEq) (POp X.K U dNe):=⟨by
 rintro pins s σ H x y v u Q I rx ry ⟨dx,dy,d,fx,fy,r1,r2,e,q⟩
 unfold dNe at e
 cases e1:eqB dx dy with
 |none=>rw [e1] at e;cases e
 | some b=>
  rw [e1] at e
  cases e
  rcases zu2 e1 with ⟨i,j,rfl,rfl,rfl⟩|⟨i,j,rfl,rfl,rfl⟩|⟨p,p',h1,h2,h3,h4,h5,rfl⟩
  ·rw [r1.is_int] at rx;rw [r2.is_int] at ry
   exact xt2 pins s σ H _ _ v u Q I rx ry ⟨rfl,by rw [show decide (V.int i=V.int j)=decide (i=j) by simp];exact q.now (.bl _)⟩
  ·rw [r1.is_str] at rx;rw [r2.is_str] at ry
   exact xt2 pins s σ H _ _ v u Q I rx ry ⟨rfl,by rw [show decide (V.str i=V.str j)=decide (i=j) by simp];exact q.now (.bl _)⟩
  ·exact wf3 hu pins s σ H _ _ v u Q I rx ry ⟨p,p',r1.dp h1,r2.dp h2,h3,h4,h5,q.now (.bl _)⟩⟩
def zn4:D->Bool
 | .non=>true
 |_=>false
theorem yc0{K:tz0}{H:Hp}{v:V}{d:D}{fp:List Addr}(r:Rep K U H v d fp):decide (v= .non)=zn4 d:=by cases r<;>first|rfl|simp [zn4]
def dIs:D->D->Option D
 |x,.non=>some (.bl (zn4 x))
 |_,_=>none
def qS:D->D->Option D
 |x,.non=>some (.bl (!(zn4 x)))
 |_,_=>none
theorem yt5:OpR X (compareOp .Is) (POp X.K U dIs):=⟨by
 rintro pins s σ H x y v u Q I rx ry ⟨dx,dy,d,fx,fy,r1,r2,e,q⟩
 cases dy with
 |non=>
  cases e;cases r2
  refine wd7 pins s σ H x _ v u Q I rx ry ⟨rfl,?_⟩
  rw [yc0 r1];exact q.now (.bl _)
 |_=>cases e⟩
theorem zc7:OpR X (compareOp .IsNot) (POp X.K U qS):=⟨by
 rintro pins s σ H x y v u Q I rx ry ⟨dx,dy,d,fx,fy,r1,r2,e,q⟩
 cases dy with
 |non=>
  cases e;cases r2
  refine xv5 pins s σ H x _ v u Q I rx ry ⟨rfl,?_⟩
  rw [yc0 r1];exact q.now (.bl _)
 |_=>cases e⟩
def D.flat:D->Option V
 | .non=>some .non
 | .bl b=>some (.bl b)
 | .int i=>some (.int i)
 | .str x=>some (.str x)
 |_=>none
def D.flats:List D->Option (List V)
 |[]=>some []
 |d::ds=>d.flat.bind fun v=>(D.flats ds).map (v::·)
theorem ym6{K:tz0}{H:Hp}{v w:V}{d:D}{fp:List Addr}(r:Rep K U H v d fp)(h:d.flat=some w):v=w/\lK v=true:=by
 cases r<;>first|(cases h;exact⟨rfl,rfl⟩)|cases h
theorem yc1{K:tz0}{H:Hp}:∀{vs ws:List V} {ds:List D} {fp:List Addr},Reps K U H vs ds fp->D.flats ds=some ws->vs=ws/\vs.all lK=true
 |_,_,_,_,.nil,e=>by cases e;exact⟨rfl,rfl⟩
 | _,ws,d::ds,_,.cons h hs,e=>by
  rw [D.flats] at e
  cases e1:d.flat with
  |none=>rw [e1] at e;cases e
  | some w=>
   rw [e1] at e
   cases e2:D.flats ds with
   |none=>rw [e2] at e;cases e
   |some us=>
    rw [e2] at e;cases e
    obtain⟨a1,a2⟩:=ym6 h e1
    obtain⟨b1,b2⟩:=yc1 hs e2
    exact⟨by rw [a1,b1],by rw [XU,a2,b2];rfl⟩
def rZ(x:D)(ds:List D):Option Bool:=x.flat.bind fun v=>(D.flats ds).map fun ws=>inV v ws
def inB(x:D):D->Option Bool
 | .lst _ ds=>rZ x ds
 | .tup ds=>rZ x ds
 |_=>none
def dIn(x y:D):Option D:=(inB x y).map .bl
theorem wf5{H:Hp}{x y:V}{dx dy:D}{fx fy:List Addr}{b:Bool}(r1:Rep X.K U H x dx fx)(r2:Rep X.K U H y dy fy)(e:inB dx dy=some b):
  ∃p xs,y= .ref p/\(SqL X.K H p xs\/SqT X.K H p xs)/\lK x=true/\xs.all lK=true/\b=inV x xs:=by
 have gen:∀{vs:List V} {ds:List D} {g:List Addr},Reps X.K U H vs ds g->rZ dx ds=some b->lK x=true/\vs.all lK=true/\b=inV x vs:=fun {vs ds g} rs h=>by
  unfold rZ at h
  cases e1:dx.flat with
  |none=>rw [e1] at h;cases h
  | some w=>
   rw [e1] at h
   cases e2:D.flats ds with
   |none=>rw [e2] at h;cases h
   |some ws=>
    rw [e2] at h
    obtain⟨a1,a2⟩:=ym6 r1 e1
    obtain⟨b1,b2⟩:=yc1 rs e2
    subst a1 b1
    exact⟨a2,b2,(Zz h).symm⟩
 cases dy with
 |lst o ds=>
  obtain⟨a,vs,g,rfl,h,hs,_⟩:=r2.lst_inv
  obtain⟨g1,g2,g3⟩:=gen hs e
  exact⟨a,vs,rfl,.inl (.inl h),g1,g2,g3⟩
 |tup ds=>
  obtain⟨a,vs,rfl,h,hs⟩:=r2.tup_inv
  obtain⟨g1,g2,g3⟩:=gen hs e
  exact⟨a,vs,rfl,.inr h,g1,g2,g3⟩
 |_=>cases e
theorem wf6:OpR X (compareOp .In) (POp X.K U dIn):=⟨by
 rintro pins s σ H x y v u Q I rx ry ⟨dx,dy,d,fx,fy,r1,r2,e,q⟩
 unfold dIn at e
 cases e1:inB dx dy with
 |none=>rw [e1] at e;cases e
 |some b=>
  rw [e1] at e;cases e
  obtain⟨p,xs,ey,h,f1,f2,rfl⟩:=wf5 r1 r2 e1
  exact xa8 pins s σ H x y v u Q I rx ry ⟨p,xs,ey,h,f1,f2,q.now (.bl _)⟩⟩
end
theorem Reps.getS{K:tz0}{U:tz9}{H:Hp}:∀{vs:List V} {ds:List D} {fp:List Addr} {i:Nat} {d:D},Reps K U H vs ds fp->ds[i]? =some d->∃v f,vs[i]? =some v/\Rep K U H v d f/\f.Sublist fp
 |_,_,_,_,_,.nil,e=>by simp at e
 |_,_,_,0,_,.cons h _,e=>by simp at e;subst e;exact⟨_,_,rfl,h,XW _ _⟩
 |_,_,_,i+1,_,.cons _ hs,e=>by
  obtain⟨v,f,h1,h2,h3⟩:=Reps.getS (i:=i) hs (by simpa using e)
  exact⟨v,f,by simpa using h1,h2,h3.trans (XR _ _)⟩
theorem Reps.atI{K:tz0}{U:tz9}{H:Hp}{vs:List V}{ds:List D}{fp:List Addr}{i:Int}{d:D}(r:Reps K U H vs ds fp)(h:L2.atI ds i=some d):∃v f,L2.atI vs i=some v/\Rep K U H v d f/\f.Sublist fp:=by
 unfold L2.atI at h|-
 rw [r.length]
 cases e:ixN ds.length i with
 |none=>rw [e] at h;cases h
 |some j=>rw [e] at h;exact r.getS h
section
variable{X:Cx}{U:tz9}{e a b:Expr}{es:List Expr}{f fa fb:tz2}{g:tz3}{pos p2:Pos}
def aE:tz3:=fun _=>some []
def aB(f:tz2)(g:tz3):tz3:=fun ps=>(f ps).bind fun d=>(g ps).bind fun ds=>some (d::ds)
theorem wT(h:aB f g ps=some ds):∃d es,f ps=some d/\g ps=some es/\ds=d::es:=by
 unfold aB at h
 cases e1:f ps with
 |none=>rw [e1] at h;cases h
 |some d=>
  rw [e1] at h
  cases e2:g ps with
  |none=>rw [e2] at h;cases h
  |some es=>rw [e2] at h;cases h;exact⟨d,es,rfl,rfl,rfl⟩
theorem aP:QVA X U [] aE:=kT.imp fun σ H Q ⟨ps,ds,w,e,q⟩=>by cases e;exact q [] H [] (.refl H) .nil
theorem aF(ha:QV X U e f)(hr:QVA X U es g)(hs:StE e es X:=by rfl):QVA X U (e::es) (aB f g):=
 (eK ha hr hs).imp fun σ H Q hh_=>by
  obtain⟨ps,ds,w,e,q⟩:=hh_
  obtain⟨d,es,e1,e2,rfl⟩:=wT e
  exact⟨ps,d,w,e1,fun v H1 fp s1 r1=>⟨ps,es,w.same s1,e2,fun vs H2 fq s2 r2=>q _ H2 _ (s1.trans s2) (.cons (r1.same s2) r2)⟩⟩
theorem bD:QPA X U [] aE:=kT.imp fun σ H Q ⟨ps,ds,w,e,q⟩=>by cases e;exact q [] H [] (.refl H) (fun _ h=>absurd h (by simp)) Zm .nil
theorem xc3{K:tz0}{H1:Hp}{v:V}{d:D}{fv fw:List Addr}(r:Rep K U H1 v d fv)(n1:fv.Nodup)(hw:∀a∈fw,H1 a=none)(n2:fw.Nodup):(fv++fw).Nodup:=by
 rw [ZC]
 refine⟨n1,n2,fun a ha b hb e=> ?_⟩
 subst e
 obtain⟨o,h,_⟩:=r.own a ha
 rw [hw a hb] at h;cases h
theorem aR(ha:QP X U e f)(hr:QPA X U es g)(hs:StE e es X:=by rfl):QPA X U (e::es) (aB f g):=
 (eK ha hr hs).imp fun σ H Q hh_=>by
  obtain⟨ps,ds,w,e,q⟩:=hh_
  obtain⟨d,es,e1,e2,rfl⟩:=wT e
  refine⟨ps,d,w,e1,fun v H1 fv s1 n1 nd1 r1=>⟨ps,es,w.same s1,e2,fun vs H2 fw s2 n2 nd2 r2=> ?_⟩⟩
  refine q _ H2 (fv++fw) (s1.trans s2) (fun a ha=> ?_) (xc3 r1 nd1 n2 nd2) (.cons (r1.same s2) r2)
  rcases Zn.mp ha with z|z
  ·exact n1 a z
  ·exact s1.grow a (n2 a z)
def cP(g:tz3):tz2:=fun ps=>(g ps).bind fun ds=>if (D.imms ds&&decide (ds.length<=1000))=true then some (.tup ds) else none
def cZ(g:tz3):tz2:=fun ps=>(g ps).bind fun ds=>if ds.length<=1000 then some (.lst true ds) else none
theorem dQ{x1}(h:QPA X U es g):QP X U (.Tuple es x1 pos) (cP g):=
 (xa3 h).imp fun σ H Q hh_=>by
  obtain⟨ps,d,w,e,q⟩:=hh_
  obtain⟨ds,e1,e2⟩:=bind_some e
  obtain⟨hc,e3⟩:=bU e2
  cases e3
  rw [Zx,ZX] at hc
  refine⟨ps,ds,w,e1,fun vs H1 fv s1 n1 nd1 r1=>⟨by rw [r1.length];exact zy8 hc.2,fun p hp=> ?_⟩⟩
  exact zq1 hp (r1.pair hc.1) (q.after s1)
theorem eP(h:QPA X U es g):QP X U (.List es pos) (cZ g):=
 (we1 h).imp fun σ H Q hh_=>by
  obtain⟨ps,d,w,e,q⟩:=hh_
  obtain⟨ds,e1,e2⟩:=bind_some e
  obtain⟨hc,e3⟩:=bU e2
  cases e3
  refine⟨ps,ds,w,e1,fun vs H1 fv s1 n1 nd1 r1=>⟨by rw [r1.length];exact zy8 hc,fun p hp=> ?_⟩⟩
  refine q _ _ (p::fv) (s1.trans (.new hp _)) (fun a ha=> ?_) (Zs.mpr ⟨fun hm=> ?_,nd1⟩) (.lst cV (r1.same (.new hp _)))
  ·rcases Z4.mp ha with z|z
   ·rw [z];exact s1.grow p hp
   ·exact n1 a z
  ·obtain⟨o,h,_⟩:=r1.own p hm
   rw [hp] at h;cases h
def dIx:D->D->Option D
 | .lst _ xs,.int i=>atI xs i
 | .tup xs,.int i=>atI xs i
 | .con xs,.int i=>atI xs i
 | .str z,.int i=>if z.length<=sizeLine then(atI z.cps.toList i).map fun c=> .str ⟨#[c]⟩ else none
 |_,_=>none
theorem xc4{K:tz0}{H:Hp}{x y:V}{dx dy d:D}{fx fy:List Addr}{Q:VK}(r1:Rep K U H x dx fx)(r2:Rep K U H y dy fy)(e:dIx dx dy=some d)(q:∀v f,Rep K U H v d f->f.Sublist fx->Q v H):rIx K x y H Q:=by
 unfold dIx at e
 split at e
 ·rename_i o xs i
  obtain⟨a,vs,g,rfl,h,hs,sub⟩:=r1.lst_inv
  obtain⟨v,f,h1,h2,h3⟩:=hs.atI e
  exact .inl ⟨a,vs,i,v,rfl,r2.is_int,.inl h,h1,q v f h2 (h3.trans sub)⟩
 ·rename_i xs i
  obtain⟨a,vs,rfl,h,hs⟩:=r1.tup_inv
  obtain⟨v,f,h1,h2,h3⟩:=hs.atI e
  cases List.sublist_nil.mp h3
  exact .inr (.inl ⟨a,vs,i,v,rfl,r2.is_int,h,h1,q v [] h2 (Xv _)⟩)
 ·rename_i xs i
  obtain⟨a,vs,rfl,h,hs⟩:=r1.con_inv
  obtain⟨v,f,h1,h2,h3⟩:=hs.atI e
  cases List.sublist_nil.mp h3
  exact .inl ⟨a,vs,i,v,rfl,r2.is_int,h.l,h1,q v [] h2 (Xv _)⟩
 ·rename_i z i
  obtain⟨hz,e⟩:=bU e
  obtain⟨c,e1,e⟩:=Zr.mp e
  subst e
  exact .inr (.inr ⟨z,i,c,r1.is_str,r2.is_int,hz,e1,q _ [] (.str _) (Xv _)⟩)
 ·cases e
theorem bB(ha:QV X U a fa)(hb:QV X U b fb)(hs:ze2 b:=by exact fun _ _=>rfl):QV X U (.Subscript a b pos) (f2 dIx fa fb):=
 (zy6 xa6 ha hb hs).imp fun σ H Q hh_=>by
  obtain⟨ps,d,w,e,q⟩:=hh_
  obtain⟨x,y,e1,e2,e3⟩:=vQ e
  exact⟨ps,x,w,e1,fun v H1 fp s1 r1=>⟨ps,y,w.same s1,e2,fun u H2 fq s2 r2=>xc4 (r1.same s2) r2 e3 fun v f r _=>q v H2 f (s1.trans s2) r⟩⟩
theorem wU(ha:QP X U a fa)(hb:QV X U b fb)(hs:ze2 b:=by exact fun _ _=>rfl):QP X U (.Subscript a b pos) (f2 dIx fa fb):=
 (zy6 xa6 ha hb hs).imp fun σ H Q hh_=>by
  obtain⟨ps,d,w,e,q⟩:=hh_
  obtain⟨x,y,e1,e2,e3⟩:=vQ e
  exact⟨ps,x,w,e1,fun v H1 fv s1 n1 nd1 r1=>⟨ps,y,w.same s1,e2,fun u H2 fq s2 r2=>xc4 (r1.same s2) r2 e3 fun v f r sub=>q v H2 f (s1.trans s2) (fun c hc=>n1 c (sub.subset hc)) (nd1.sublist sub) r⟩⟩
def tO(K:tz0)(U:tz9)(f:PSt->Option (Option Int)):TO:=fun σ H Q=>∃ps o,WS K U H σ ps/\f ps=some o/\∀H',SameK H H'->Q o H'
abbrev QO(X:Cx)(U:tz9)(e:Option Expr)(f:PSt->Option (Option Int)):Prop:=PO X e (tO X.K U f)
def lC:PSt->Option (Option Int):=fun _=>some none
def nO(f:tz2):PSt->Option (Option Int):=fun ps=>(f ps).bind fun d=>match d with
 | .int i=>some (some i)
 |_=>none
theorem ym7:QO X U none lC:=⟨fun pins s σ H Q I ⟨ps,o,w,e,q⟩=>by cases e;exact xw0 pins s σ H Q I (q H (.refl H))⟩
theorem ym8(h:QV X U e f):QO X U (some e) (nO f):=⟨fun pins s σ H Q I hh_=>by
 obtain⟨ps,o,w,e,q⟩:=hh_
 obtain⟨d,e1,e2⟩:=bind_some e
 cases d with
 |int i=>cases e2;exact xw1 h pins s σ H Q I ⟨ps,_,w,e1,fun v H1 fp s1 r1=>⟨i,r1.is_int,q H1 s1⟩⟩
 |_=>cases e2⟩
def xs2(xs:List D)(lo hi:Option Int):List D:=(xs.drop (HT.sIx xs.length 0 lo)).take (HT.sIx xs.length xs.length hi-HT.sIx xs.length 0 lo)
def dSl:D->Option Int->Option Int->Option D
 | .lst _ xs,lo,hi=>if D.imms xs=true then some (.lst true (xs2 xs lo hi)) else none
 | .str z,lo,hi=>if z.length<=sizeLine then some (.str (Txt.slice z lo hi)) else none
 |_,_,_=>none
theorem xm7{K:tz0}{H:Hp}{vs:List V}{ds:List D}{lo hi:Option Int}(r:Paired (fun v d=>Rep K U H v d []) vs ds):Paired (fun v d=>Rep K U H v d []) (zs5 vs lo hi) (xs2 ds lo hi):=by
 unfold zs5 xs2
 rw [ZI r]
 exact Paired.takeN _ (Paired.dropN _ r)
def PSl(K:tz0)(U:tz9):V->Option Int->Option Int->Hp->VK->Prop:=fun x lo hi H Q=>∃dx d fx,Rep K U H x dx fx/\dSl dx lo hi=some d/\lF K U H d Q
theorem wf7:SlR X (PSl X.K U):=by
 rintro pins s σ H x v vl vu lo hi sl Q I rx hs pl pu ⟨dx,d,fx,r,e,q⟩
 unfold dSl at e
 split at e
 ·obtain⟨hc,e2⟩:=bU e
  cases e2
  obtain⟨a,vs,g,rfl,h,rs,sub⟩:=r.lst_inv
  exact xw3 pins s σ H _ v vl vu _ _ sl Q I rx hs pl pu ⟨a,vs,rfl,.inl h,fun p hp=>zc6 hp (xm7 (rs.pair hc)) q⟩
 ·obtain⟨hc,e2⟩:=bU e
  cases e2
  exact wf1 pins s σ H _ v vl vu _ _ sl Q I rx hs pl pu ⟨_,r.is_str,hc,q.now (.str _)⟩
 ·cases e
def fSl(f:tz2)(fl fh:PSt->Option (Option Int)):tz2:=fun ps=>(f ps).bind fun d=>(fl ps).bind fun l=>(fh ps).bind fun h=>dSl d l h
theorem yc2{lo hi:Option Expr}{fl fh:PSt->Option (Option Int)}(he:QV X U e f)(hl:QO X U lo fl)(hh:QO X U hi fh):QP X U (.Subscript e (.Slice lo hi none p2) pos) (fSl f fl fh):=
 (xl8 wf7 he hl hh).imp fun σ H Q hh_=>by
  obtain⟨ps,d,w,e,q⟩:=hh_
  obtain⟨d1,e1,e2⟩:=bind_some e
  obtain⟨l,e3,e4⟩:=bind_some e2
  obtain⟨h,e5,e6⟩:=bind_some e4
  exact⟨ps,d1,w,e1,fun v H1 fp s1 r1=>⟨ps,l,w.same s1,e3,fun H2 s2=>⟨ps,h,(w.same s1).same s2,e5,fun H3 s3=>⟨d1,d,fp,(r1.same s2).same s3,e6,q.after ((s1.trans s2).trans s3)⟩⟩⟩⟩
def PCl(K:tz0)(U:tz9)(g:tz6):List V->Hp->VK->Prop:=fun vs H Q=>∃ds fp d,Reps K U H vs ds fp/\g ds=some d/\lF K U H d Q
def aH(h:tz6)(g:tz3):tz2:=fun ps=>(g ps).bind h
theorem xc5(q:tP X.K U (aH h g) σ H Q):tCB (PCl X.K U h) (tVA X.K U g) σ H Q:=by
 obtain⟨ps,d,w,e,q⟩:=q
 obtain⟨ds,e1,e2⟩:=bind_some e
 exact⟨ps,ds,w,e1,fun vs H1 fp s1 r1=>⟨ds,fp,d,r1,e2,q.after s1⟩⟩
theorem cY{x:Str}{id:String}{p:Pos}{h:tz6}(hc:CallR X (.builtin id) (PCl X.K U h))(hg:Gl X x)(hm:X.mg x=none)(hv:bootBuiltins x=some (.builtin id))(ha:QVA X U (e::es) g)(hn:x≠"__name__":=by decide)(hdb:NDb x:=by decide)
  (hs:StE e es X:=by rfl) (hpl:BkE pos es X:=by rfl):QP X U (.Call (.Name x p) (e::es) [] pos) (aH h g):=
 (nR hc hg hm hv ha hn hdb hs hpl).imp fun _ _ _ q=>xc5 q
theorem nX(hc:CallR X (.type T) (PCl X.K U h))(hg:Gl X x)(hm:X.mg x=none)(hv:bootBuiltins x=some (.type T))(ha:QVA X U (e::es) g)(hn:x≠"__name__":=by decide)(hdb:NDb x:=by decide)
  (hs:StE e es X:=by rfl) (hpl:BkE pos es X:=by rfl):QP X U (.Call (.Name x p) (e::es) [] pos) (aH h g):=
 (xa5 hc hg hm hv ha hn hdb hs hpl).imp fun _ _ _ q=>xc5 q
theorem Reps.two_inv{K:tz0}{H:Hp}{vs:List V}{d e:D}{fp:List Addr}(r:Reps K U H vs [d,e] fp):∃v u f g,vs=[v,u]/\Rep K U H v d f/\Rep K U H u e g:=by
 obtain⟨v,us,f,g,rfl,h,t,rfl⟩:=r.split
 obtain⟨u,rfl,h2⟩:=t.one_inv
 exact⟨v,u,f,g,rfl,h,h2⟩
def dJ:tz6
 |[.lst _ xs]=>some (.int xs.length)
 |[.tup xs]=>some (.int xs.length)
 |[.con xs]=>some (.int xs.length)
 |[.str z]=>if z.length<=sizeLine then some (.int z.length) else none
 |_=>none
theorem iK:CallR X (.builtin "len") (PCl X.K U dJ):=⟨by
 rintro pins s σ H vs us Q I r ⟨ds,fp,d,rs,e,q⟩
 unfold dJ at e
 split at e
 ·cases e
  obtain⟨v,rfl,r1⟩:=rs.one_inv
  obtain⟨a,ws,g,rfl,h,hs,_⟩:=r1.lst_inv
  exact jT pins s σ H _ us Q I r ⟨a,ws,rfl,.inl (.inl h),by rw [hs.length];exact q.now (.int _)⟩
 ·cases e
  obtain⟨v,rfl,r1⟩:=rs.one_inv
  obtain⟨a,ws,rfl,h,hs⟩:=r1.tup_inv
  exact jT pins s σ H _ us Q I r ⟨a,ws,rfl,.inr h,by rw [hs.length];exact q.now (.int _)⟩
 ·cases e
  obtain⟨v,rfl,r1⟩:=rs.one_inv
  obtain⟨a,ws,rfl,h,hs⟩:=r1.con_inv
  exact jT pins s σ H _ us Q I r ⟨a,ws,rfl,.inl h.l,by rw [hs.length];exact q.now (.int _)⟩
 ·obtain⟨hz,e⟩:=bU e
  cases e
  obtain⟨v,rfl,r1⟩:=rs.one_inv
  exact yb4 pins s σ H _ us Q I r ⟨_,by rw [r1.is_str],hz,q.now (.int _)⟩
 ·cases e⟩
def ze3:tz6
 |[.int i,.int j]=>some (.int (if j>i then j else i))
 |_=>none
theorem wf8(hc:X.calm=true):CallR X (.builtin "max") (PCl X.K U ze3):=⟨by
 rintro pins s σ H vs us Q I r ⟨ds,fp,d,rs,e,q⟩
 unfold ze3 at e
 split at e
 ·cases e
  obtain⟨v,u,f,g,rfl,r1,r2⟩:=rs.two_inv
  exact zt1 hc pins s σ H _ us Q I r ⟨_,_,by rw [r1.is_int,r2.is_int],q.now (.int _)⟩
 ·cases e⟩
def dTy:D->Option String
 | .non=>some "NoneType"
 | .bl _=>some "bool"
 | .int _=>some "int"
 | .str _=>some "str"
 | .lst _ _=>some "list"
 | .tup _=>some "tuple"
 | .dic true _ _=>some "dict"
 |_=>none
def zi6:tz6
 |[x,.ty c]=>(dTy x).bind fun t=>if c∈["bool","int","str","list","tuple","dict"] then some (.bl (zn2 t c)) else none
 |_=>none
theorem wf9{K:tz0}{H:Hp}{v:V}{d:D}{fp:List Addr}{t:String}(r:Rep K U H v d fp)(h:dTy d=some t):(wE H v=some t\/(t="tuple"/\∃a xs,v= .ref a/\SqT K H a xs)):=by
 cases r with
 |non=>cases h;exact .inl rfl
 |bl _=>cases h;exact .inl rfl
 |int _=>cases h;exact .inl rfl
 |str _=>cases h;exact .inl rfl
 |tup s _=>cases h;exact .inr ⟨rfl,_,_,rfl,s⟩
 |lst s _=>cases h;exact .inl (by simp [wE,s])
 |lstF s _=>cases h;exact .inl (by simp [wE,s])
 |dic s _ _=>cases h;exact .inl (by simp [wE,s])
 |_=>cases h
theorem xt8:CallR X (.builtin "isinstance") (PCl X.K U zi6):=⟨by
 rintro pins s σ H vs us Q I r ⟨ds,fp,d,rs,e,q⟩
 unfold zi6 at e
 split at e
 ·obtain⟨t,e1,e2⟩:=bind_some e
  obtain⟨hc,e3⟩:=bU e2
  cases e3
  obtain⟨v,u,f,g,rfl,r1,r2⟩:=rs.two_inv
  cases r2
  rcases wf9 r1 e1 with h|⟨rfl,a,xs,rfl,h⟩
  ·exact xm4 pins s σ H _ us Q I r ⟨_,_,t,rfl,h,hc,q.now (.bl _)⟩
  ·obtain⟨u1,u2,rfl,rx,rc⟩:=ys0 r
   cases(show u2=Value.type _ from rc)
   cases(show u1=Value.ref a from rx)
   obtain⟨its,rv,⟨o,h1,h2,_⟩,_⟩:=I.tuple h
   exact ZL Wq I.kIn ⟨o,h1,h2⟩ (yb5 X.K "tuple" (by decide) _ hc) (fun z=>nomatch z) fun tk=>⟨.bl _,H,I.tok tk,rfl,q.now (.bl _)⟩
 ·cases e⟩
def fP:tz6
 |[.lst _ xs]=>if D.imms xs=true then some (.tup xs) else none
 |[.tup xs]=>some (.tup xs)
 |_=>none
theorem sJ:CallR X (.type "tuple") (PCl X.K U fP):=⟨by
 rintro pins s σ H vs us Q I r ⟨ds,fp,d,rs,e,q⟩
 unfold fP at e
 split at e
 ·obtain⟨hc,e⟩:=bU e
  cases e
  obtain⟨v,rfl,r1⟩:=rs.one_inv
  obtain⟨a,ws,g,rfl,h,hs,_⟩:=r1.lst_inv
  exact yP pins s σ H _ us Q I r ⟨a,ws,rfl,.inl ⟨.inl h,fun p hp=>zq1 hp (hs.pair hc) q⟩⟩
 ·cases e
  obtain⟨v,rfl,r1⟩:=rs.one_inv
  obtain⟨a,ws,rfl,h,hs⟩:=r1.tup_inv
  exact yP pins s σ H _ us Q I r ⟨a,ws,rfl,.inr ⟨h,q.now (.tup h hs)⟩⟩
 ·cases e⟩
def D.bools:List D->Option (List Bool)
 |[]=>some []
 | .bl b::ds=>(D.bools ds).map (b::·)
 |_::_=>none
theorem yc3{K:tz0}{H:Hp}:∀{vs:List V} {ds:List D} {fp:List Addr} {ns:List Bool},Reps K U H vs ds fp->D.bools ds=some ns->vs=ns.map V.bl
 |_,_,_,_,.nil,e=>by cases e;rfl
 | _,d::ds,_,ns,.cons h hs,e=>by
  cases d with
  |bl i=>
   rw [D.bools] at e
   cases e1:D.bools ds with
   |none=>rw [e1] at e;cases e
   |some ms=>rw [e1] at e;cases e;rw [h.is_bl,yc3 hs e1];rfl
  |_=>cases e
def yx1:tz6
 |[.lst _ xs]=>(D.bools xs).map fun bs=> .bl (bs.all id)
 |_=>none
theorem wm4(hc:X.calm=true):CallR X (.builtin "all") (PCl X.K U yx1):=⟨by
 rintro pins s σ H vs us Q I r ⟨ds,fp,d,rs,e,q⟩
 unfold yx1 at e
 split at e
 ·rename_i xs
  cases e1:D.bools xs with
  |none=>rw [e1] at e;cases e
  |some bs=>
   rw [e1] at e;cases e
   obtain⟨v,rfl,r1⟩:=rs.one_inv
   obtain⟨a,ws,g,rfl,h,hs,_⟩:=r1.lst_inv
   rw [yc3 hs e1] at h
   exact xb7 hc pins s σ H _ us Q I r ⟨a,bs,rfl,.inl h,q.now (.bl _)⟩
 ·cases e⟩
def yx2:tz6
 |[.lst _ xs]=>(D.ints xs).map fun ns=> .int ns.sum
 |_=>none
theorem wm5(hc:X.calm=true):CallR X (.builtin "sum") (PCl X.K U yx2):=⟨by
 rintro pins s σ H vs us Q I r ⟨ds,fp,d,rs,e,q⟩
 unfold yx2 at e
 split at e
 ·rename_i xs
  cases e1:D.ints xs with
  |none=>rw [e1] at e;cases e
  |some bs=>
   rw [e1] at e;cases e
   obtain⟨v,rfl,r1⟩:=rs.one_inv
   obtain⟨a,ws,g,rfl,h,hs,_⟩:=r1.lst_inv
   rw [sI hs e1] at h
   exact xb8 hc pins s σ H _ us Q I r ⟨a,bs,rfl,.inl h,q.now (.int _)⟩
 ·cases e⟩
def PMt(K:tz0)(U:tz9)(g:D->tz6):V->List V->Hp->VK->Prop:=fun x vs H Q=>∃dx ds fx fp d,Rep K U H x dx fx/\Reps K U H vs ds fp/\g dx ds=some d/\lF K U H d Q
def zn5:D->Bool
 | .str _=>true
 |_=>false
def fMt(h:D->tz6)(f:tz2)(g:tz3):tz2:=fun ps=>(f ps).bind fun x=>(g ps).bind fun ds=>if zn5 x=true then h x ds else none
theorem zj9{name:Str}{id:String}{apos:Pos}{h:D->tz6}(slot:Slot "str" name id)(hty:typeOf (.builtin id)=pure (.type "method_descriptor"))(hm:MtR X id (PMt X.K U h))(ho:QV X U a fa)(ha:QVA X U (e::es) g)
  (hbase:attributeBase a name X.env (eval a X.env)=eval a X.env:=by rfl)
  (hfew:((backTo pos (starEach (e::es) X.env)).all (fun x=> !x.1)&&(backToKw pos (keywordEach [] X.env)).all (fun x=>x.1.isSome)
   &&decide ((e::es).length+([]:List Keyword).length+(if ([]:List Keyword).isEmpty then 0 else 1)<30))=true:=by rfl)
  (hline:(apos.endLine==pos.line)=true:=by rfl) (hs:StE e es X:=by rfl) (hplain:BkE pos es X:=by rfl):
  QP X U (.Call (.Attribute a name apos) (e::es) [] pos) (fMt h fa g):=
 (xt4 PySem.F.plainAttrs_str slot hty hm ho ha hbase hfew hline hs hplain).imp fun σ H Q hh_=>by
  obtain⟨ps,d,w,e,q⟩:=hh_
  obtain⟨x,e1,e2⟩:=bind_some e
  obtain⟨ds,e3,e4⟩:=bind_some e2
  obtain⟨hc,e5⟩:=bU e4
  refine⟨ps,x,w,e1,fun v H1 fp s1 r1=>⟨?_,ps,ds,w.same s1,e3,fun vs H2 fq s2 r2=>⟨x,ds,fp,fq,d,r1.same s2,r2,e5,q.after (s1.trans s2)⟩⟩⟩
  cases x with
  |str z=>rw [r1.is_str];rfl
  |_=>cases hc
def eY(l:List Str):List D:=l.map .str
theorem zu3{K:tz0}{H:Hp}:∀l:List Str,Paired (fun v d=>Rep K U H v d []) (l.map V.str) (eY l)
 |[]=> .nil
 |x::l=> .cons (.str x) (zu3 l)
def wH:D->tz6
 | .str z,[.str y]=>if ((y.length==0)=false/\z.length<1000000) then some (.lst true (eY (Txt.split z y))) else none
 |_,_=>none
theorem ym9:MtR X "str.split" (PMt X.K U wH):=⟨by
 rintro pins s σ H x vs v us Q I rx r ⟨dx,ds,fx,fp,d,r1,rs,e,q⟩
 unfold wH at e
 split at e
 ·obtain⟨hc,e⟩:=bU e
  cases e
  obtain⟨w,rfl,r2⟩:=rs.one_inv
  exact xm5 pins s σ H x _ v us Q I rx r ⟨_,_,r1.is_str,by rw [r2.is_str],hc.1,hc.2,fun p hp=>zc6 hp (zu3 _) q⟩
 ·cases e⟩
def D.strs:List D->Option (List Str)
 |[]=>some []
 | .str b::ds=>(D.strs ds).map (b::·)
 |_::_=>none
theorem vR{K:tz0}{H:Hp}:∀{vs:List V} {ds:List D} {fp:List Addr} {ns:List Str},Reps K U H vs ds fp->D.strs ds=some ns->vs=ns.map V.str
 |_,_,_,_,.nil,e=>by cases e;rfl
 | _,d::ds,_,ns,.cons h hs,e=>by
  cases d with
  |str i=>
   rw [D.strs] at e
   cases e1:D.strs ds with
   |none=>rw [e1] at e;cases e
   |some ms=>rw [e1] at e;cases e;rw [h.is_str,vR hs e1];rfl
  |_=>cases e
def zn6:D->tz6
 | .str z,[.lst _ xs]=>(D.strs xs).bind fun ys=>if (z.length<=16/\(ys.map (·.length)).sum+ys.length<=1048576) then some (.str (Txt.join z ys)) else none
 |_,_=>none
theorem wg0:MtR X "str.join" (PMt X.K U zn6):=⟨by
 rintro pins s σ H x vs v us Q I rx r ⟨dx,ds,fx,fp,d,r1,rs,e,q⟩
 unfold zn6 at e
 split at e
 ·obtain⟨ys,e1,e2⟩:=bind_some e
  obtain⟨hc,e⟩:=bU e2
  cases e
  obtain⟨w,rfl,r2⟩:=rs.one_inv
  obtain⟨a,ws,g,rfl,h,hs,_⟩:=r2.lst_inv
  rw [vR hs e1] at h
  exact xx1 pins s σ H x _ v us Q I rx r ⟨_,a,ys,r1.is_str,rfl,.inl h,hc.1,hc.2,q.now (.str _)⟩
 ·cases e⟩
end
structure Fx where
 K:tz0
 U:tz9
 bor:Nat->Bool
 M:Nat->Bool
 B:Nat->Addr->Prop
structure RS(φ:Fx)(H:Hp)(σ:St)(ps:PSt)(F:Nat->List Addr):Prop where
 rep:∀(i:Nat) (d:D),ps[i]? =some (some d)->∃v fp,σ[i]? =some (some v)/\Rep φ.K φ.U H v d fp/\(φ.bor i=false->fp=F i)/\(φ.bor i=true->∀a∈fp,φ.B i a)
 emp:∀i a,a∈F i->φ.bor i=false/\∃d,ps[i]? =some (some d)
 dis:∀i j a,a∈F i->a∈F j->i=j
 nd:∀i,(F i).Nodup
 nb:∀i a,a∈F i->∀k,¬φ.B k a
 bt:∀k a,φ.B k a->H a≠none
 len:ps.length<=σ.length
structure Frm(F:Nat->List Addr)(H H':Hp):Prop where
 keep:∀a o,H a=some o->kd o=true->(∀i,a∉F i)->H' a=some o
 grow:∀a,H' a=none->H a=none
structure Stp(φ:Fx)(σ:St)(H:Hp)(F:Nat->List Addr)(σ':St)(H':Hp)(ps':PSt)(F':Nat->List Addr):Prop where
 fr:Frm F H H'
 nw:∀i a,a∈F' i->(∃j,a∈F j)\/H a=none
 rs:RS φ H' σ' ps' F'
 msk:∀i,φ.M i=true->σ'[i]? =σ[i]?
structure OwnV(F:Nat->List Addr)(H:Hp)(F':Nat->List Addr)(fv:List Addr):Prop where
 nw:∀a∈fv,(∃j,a∈F j)\/H a=none
 nd:fv.Nodup
 dis:∀i,∀a∈F' i,a∉fv
section
variable{φ:Fx}{H H' H1 H2:Hp}{σ σ1 σ2:St}{ps ps1 ps2:PSt}{F F1 F2:Nat->List Addr}
theorem RS.own(R:RS φ H σ ps F){i:Nat}{a:Addr}(h:a∈F i):∃o,H a=some o/\kd o=true/\tf o=false:=by
 obtain⟨b,d,e⟩:=R.emp i a h
 obtain⟨v,fp,_,r,q,_⟩:=R.rep i d e
 rw [<-q b] at h
 exact r.own a h
theorem RS.ws(R:RS φ H σ ps F):WS φ.K φ.U H σ ps:=fun i d h=>by
 obtain⟨v,fp,h1,h2,_⟩:=R.rep i d h
 exact⟨v,fp,h1,h2⟩
theorem RS.same(R:RS φ H σ ps F)(s:SameK H H'):RS φ H' σ ps F:=
 ⟨fun i d h=>by obtain⟨v,fp,h1,h2,h3⟩:=R.rep i d h;exact⟨v,fp,h1,h2.same s,h3⟩,R.emp,R.dis,R.nd,R.nb,fun k a h z=>R.bt k a h (s.grow a z),R.len⟩
theorem RS.notB(R:RS φ H σ ps F){a:Addr}(h:(∃j,a∈F j)\/H a=none):∀k,¬φ.B k a:=fun k hb=>h.elim (fun⟨j,hj⟩=>R.nb j a hj k hb) fun z=>R.bt k a hb z
theorem Stp.same(R:RS φ H σ ps F)(s:SameK H H'):Stp φ σ H F σ H' ps F:=
 ⟨⟨fun a o h k _=>s.keep a o h k,s.grow⟩,fun i a h=> .inl ⟨i,h⟩,R.same s,fun _ _=>rfl⟩
theorem Stp.refl(R:RS φ H σ ps F):Stp φ σ H F σ H ps F:= .same R (.refl H)
theorem Stp.trans(s1:Stp φ σ H F σ1 H1 ps1 F1)(s2:Stp φ σ1 H1 F1 σ2 H2 ps2 F2):Stp φ σ H F σ2 H2 ps2 F2:=by
 refine⟨⟨fun a o h k n=>s2.fr.keep a o (s1.fr.keep a o h k n) k fun i hi=> ?_,fun a h=>s1.fr.grow a (s2.fr.grow a h)⟩,fun i a h=> ?_,s2.rs,fun i h=>(s2.msk i h).trans (s1.msk i h)⟩
 ·rcases s1.nw i a hi with ⟨j,hj⟩|z
  ·exact n j hj
  ·rw [h] at z;cases z
 ·rcases s2.nw i a h with ⟨j,hj⟩|z
  ·exact s1.nw j a hj
  ·exact .inr (s1.fr.grow a z)
theorem OwnV.after(s1:Stp φ σ H F σ1 H1 ps1 F1)(o:OwnV F1 H1 F2 fv):OwnV F H F2 fv:=
 ⟨fun a ha=>(o.nw a ha).elim (fun⟨j,hj⟩=>s1.nw j a hj) fun z=> .inr (s1.fr.grow a z),o.nd,o.dis⟩
theorem OwnV.new(R:RS φ H σ ps F)(n:∀a∈fv,H a=none)(nd:fv.Nodup):OwnV F H F fv:=
 ⟨fun a ha=> .inr (n a ha),nd,fun i a ha hb=>by obtain⟨o,h,_⟩:=R.own ha;rw [n a hb] at h;cases h⟩
def vH(F:Nat->List Addr)(i:Nat)(fv:List Addr):Nat->List Addr:=fun j=>if j=i then fv else F j
theorem fE:vH F i fv i=fv:=by simp [vH]
theorem fG(h:j≠i):vH F i fv j=F j:=by simp [vH,h]
theorem kG(h:a∈vH F i fv j):a∈fv\/a∈F j:=by
 by_cases e:j=i
 ·subst e;rw [fE] at h;exact .inl h
 ·rw [fG e] at h;exact .inr h
theorem RS.drop(R:RS φ H σ ps F)(i:Nat):RS φ H σ (ps.set i none) (vH F i []):=by
 have eF:∀j a,a∈vH F i [] j->j≠i/\a∈F j:=fun j a h=>by
  by_cases e:j=i
  ·subst e;rw [fE] at h;exact absurd h (by simp)
  ·rw [fG e] at h;exact⟨e,h⟩
 refine⟨fun j d h=> ?_,fun j a h=> ?_,fun j k a h1 h2=>R.dis j k a (eF j a h1).2 (eF k a h2).2,fun j=> ?_,fun j a h=>R.nb j a (eF j a h).2,R.bt,by simpa using R.len⟩
 ·have e:j≠i:=by
   rintro rfl
   by_cases hj:j<ps.length
   ·rw [ZA hj] at h;cases h
   ·rw [YD (by simpa using hj)] at h;cases h
  rw [Zu (fun z=>e z.symm)] at h
  rw [fG e]
  exact R.rep j d h
 ·obtain⟨e,h⟩:=eF j a h
  obtain⟨b,d,q⟩:=R.emp j a h
  exact⟨b,d,by rw [Zu (fun z=>e z.symm)];exact q⟩
 ·by_cases e:j=i
  ·subst e;rw [fE];exact Zm
  ·rw [fG e];exact R.nd j
theorem RS.set(R:RS φ H σ ps F){i:Nat}{v:V}{d:D}{fv:List Addr}(r:Rep φ.K φ.U H v d fv)(hb:φ.bor i=false\/fv=[])(hd:∀j,j≠i->∀a∈F j,a∉fv)(hn:fv.Nodup)(hB:∀a∈fv,∀k,¬φ.B k a):
  RS φ H (σ.set i (some v)) (ps.set i (some d)) (vH F i (if i<ps.length then fv else [])):=by
 by_cases hi:i<ps.length
 ·rw [if_pos hi]
  have hl:=R.len
  refine⟨fun j d' h=> ?_,fun j a h=> ?_,fun j k a h1 h2=> ?_,fun j=> ?_,fun j a h=> ?_,R.bt,by simpa using R.len⟩
  ·by_cases e:j=i
   ·subst e
    rw [ZA hi] at h
    cases h
    refine⟨v,fv,by rw [ZA (by omega)],r,fun _=>fE.symm,fun z=> ?_⟩
    rcases hb with q|q
    ·rw [q] at z;cases z
    ·subst q;intro a ha;exact absurd ha (by simp)
   ·rw [Zu (fun z=>e z.symm)] at h|-
    rw [fG e]
    exact R.rep j d' h
  ·by_cases e:j=i
   ·subst e
    rw [fE] at h
    refine⟨?_,d,by rw [ZA hi]⟩
    rcases hb with q|q
    ·exact q
    ·subst q;exact absurd h (by simp)
   ·rw [fG e] at h
    obtain⟨b,d',q⟩:=R.emp j a h
    exact⟨b,d',by rw [Zu (fun z=>e z.symm)];exact q⟩
  ·by_cases e1:j=i
   ·by_cases e2:k=i
    ·rw [e1,e2]
    ·subst e1;rw [fE] at h1;rw [fG e2] at h2;exact absurd h1 (hd k e2 a h2)
   ·by_cases e2:k=i
    ·subst e2;rw [fE] at h2;rw [fG e1] at h1;exact absurd h2 (hd j e1 a h1)
    ·rw [fG e1] at h1;rw [fG e2] at h2;exact R.dis j k a h1 h2
  ·by_cases e:j=i
   ·subst e;rw [fE];exact hn
   ·rw [fG e];exact R.nd j
  ·rcases kG h with z|z
   ·exact hB a z
   ·exact R.nb j a z
 ·rw [if_neg hi]
  have e0:ps.set i (some d)=ps:=XX (by omega)
  rw [e0]
  have R':=R.drop i
  rw [XX (by omega)] at R'
  refine⟨fun j d' h=> ?_,R'.emp,R'.dis,R'.nd,R'.nb,R'.bt,by simpa using R.len⟩
  have hj:j≠i:=by
   rintro rfl
   have:=(Z5.mp h).1
   omega
  rw [Zu (fun z=>hj z.symm)]
  exact R'.rep j d' h
theorem Stp.set(s1:Stp φ σ H F σ1 H1 ps1 F1)(o:OwnV F H F1 fv)(R:RS φ H σ ps F)(r:Rep φ.K φ.U H1 v d fv)(hb:φ.bor i=false\/fv=[])(hm:φ.M i=false):
  ∃F',Stp φ σ H F (σ1.set i (some v)) H1 (ps1.set i (some d)) F':=by
 refine⟨_,s1.fr,fun j a h=> ?_,s1.rs.set r hb (fun j _=>o.dis j) o.nd fun a ha=>R.notB (o.nw a ha),fun j h=> ?_⟩
 ·rcases kG h with z|z
  ·by_cases k:i<ps1.length
   ·rw [if_pos k] at z;exact o.nw a z
   ·rw [if_neg k] at z;exact absurd z (by simp)
  ·exact s1.nw j a z
 ·rw [Zu (fun z=>by subst z;rw [hm] at h;cases h)]
  exact s1.msk j h
end
inductive Fl where
 |nx|bk|ct|ret (d:D)
abbrev _root_.tz1:=PSt->Option (Fl×PSt)
def yB(φ:Fx)(E:Ends)(σ:St)(H:Hp)(F:Nat->List Addr)(fl:Fl)(ps':PSt):Prop:=match fl with
 | .nx=>∀σ' H' F',Stp φ σ H F σ' H' ps' F'->E.nx σ' H'
 | .bk=>∀σ' H' F',Stp φ σ H F σ' H' ps' F'->E.bk σ' H'
 | .ct=>∀σ' H' F',Stp φ σ H F σ' H' ps' F'->E.ct σ' H'
 | .ret d=>∀v σ' H' F' fv,Stp φ σ H F σ' H' ps' F'->OwnV F H F' fv->Rep φ.K φ.U H' v d fv->E.rt v H'
def tS(φ:Fx)(f:tz1):TS:=fun E σ H=>∃ps F fl ps',RS φ H σ ps F/\f ps=some (fl,ps')/\yB φ E σ H F fl ps'
def tE(φ:Fx)(f:tz8):TE:=fun σ H Q=>∃ps F d ps',RS φ H σ ps F/\f ps=some (d,ps')/\∀v H' F' fv,Stp φ σ H F σ H' ps' F'->OwnV F H F' fv->Rep φ.K φ.U H' v d fv->Q v H'
def tTE(φ:Fx)(f:PSt->Option (Bool×PSt)):TT:=fun σ H Q=>∃ps F b ps',RS φ H σ ps F/\f ps=some (b,ps')/\∀H' F',Stp φ σ H F σ H' ps' F'->Q b H'
structure F0 where
 bor:Nat->Bool
 M:Nat->Bool
 B:Nat->Addr->Prop
def F0.fx(φ:F0)(K:tz0)(U:tz9):Fx:=⟨K,U,φ.bor,φ.M,φ.B⟩
abbrev QS(X:Cx)(U:tz9)(φ:F0)(st:Stmt)(f:tz1):Prop:=PS X st (tS (φ.fx X.K U) f)
abbrev QSs(X:Cx)(U:tz9)(φ:F0)(st:List Stmt)(f:tz1):Prop:=PSs X st (tS (φ.fx X.K U) f)
abbrev QE(X:Cx)(U:tz9)(φ:F0)(e:Expr)(f:tz8):Prop:=PE X e (tE (φ.fx X.K U) f)
abbrev QTE(X:Cx)(U:tz9)(φ:F0)(e:Expr)(f:PSt->Option (Bool×PSt)):Prop:=PT X e (tTE (φ.fx X.K U) f)
theorem zg9(s1:Stp φ σ H F σ1 H1 ps1 F1)(e:f ps1=some (fl,ps2))(q:yB φ E σ H F fl ps2):tS φ f E σ1 H1:=by
 refine⟨ps1,F1,fl,ps2,s1.rs,e,?_⟩
 cases fl with
 |nx=>exact fun σ' H' F' s=>q σ' H' F' (s1.trans s)
 |bk=>exact fun σ' H' F' s=>q σ' H' F' (s1.trans s)
 |ct=>exact fun σ' H' F' s=>q σ' H' F' (s1.trans s)
 |ret d=>exact fun v σ' H' F' fv s o r=>q v σ' H' F' fv (s1.trans s) (o.after s1) r
def bO:tz1:=fun ps=>some (.nx,ps)
def aT(f g:tz1):tz1:=fun ps=>(f ps).bind fun r=>match r with
 |(.nx,ps')=>g ps'
 |(.bk,ps')=>some (.bk,ps')
 |(.ct,ps')=>some (.ct,ps')
 |(.ret d,ps')=>some (.ret d,ps')
def tU:tz1:=fun _=>none
section
variable{X:Cx}{U:tz9}{φ:F0}{st:Stmt}{rest:List Stmt}{f g:tz1}{pos:Pos}
theorem bR:QSs X U φ [] bO:=zp4.imp fun E σ H ⟨ps,F,fl,ps',R,e,q⟩=>by cases e;exact q σ H F (.refl R)
theorem aK(h:QS X U φ st f):QSs X U φ [st] f:=vM h
theorem aN(h1:QS X U φ st f)(h2:QSs X U φ rest g):QSs X U φ (st::rest) (aT f g):=
 (jM h1 h2).imp fun E σ H hh_=>by
  obtain⟨ps,F,fl,ps',R,e,q⟩:=hh_
  obtain⟨⟨fl1,ps1⟩,e1,e2⟩:=bind_some e
  refine⟨ps,F,fl1,ps1,R,e1,?_⟩
  cases fl1 with
  |nx=>exact fun σ' H' F' s=>zg9 s e2 q
  |bk=>cases e2;exact q
  |ct=>cases e2;exact q
  |ret d=>cases e2;exact q
theorem pK:QS X U φ st tU:=xk7.imp fun E σ H ⟨ps,F,fl,ps',R,e,q⟩=>by cases e
def aJ(f:tz2):tz8:=fun ps=>(f ps).bind fun d=>some (d,ps)
theorem QP.e{e:Expr}{f:tz2}(h:PE X e (tP X.K U f)):QE X U φ e (aJ f):=h.imp fun σ H Q hh_=>by
 obtain⟨ps,F,d,ps',R,e,q⟩:=hh_
 obtain⟨d1,e1,e2⟩:=bind_some e
 cases e2
 exact⟨ps,_,R.ws,e1,fun v H' fv s n nd r=>q v H' F fv (.same R s) (.new R n nd) r⟩
def aV(f:tz4):PSt->Option (Bool×PSt):=fun ps=>(f ps).bind fun d=>some (d,ps)
theorem QT.e{e:Expr}{f:tz4}(h:PT X e (tQ X.K U f)):QTE X U φ e (aV f):=h.imp fun σ H Q hh_=>by
 obtain⟨ps,F,d,ps',R,e,q⟩:=hh_
 obtain⟨d1,e1,e2⟩:=bind_some e
 cases e2
 exact⟨ps,_,R.ws,e1,fun H' s=>q H' F (.same R s)⟩
def aW(i:Nat)(f:tz8):tz1:=fun ps=>(f ps).bind fun r=>some (.nx,r.2.set i (some r.1))
theorem zk0(i:Nat){x:Str}{e:Expr}{pos':Pos}{f:tz8}(hN:X.N.Nodup)(hi:X.N[i]? =some x)(hx:Loc X.env.scope x)(hb:φ.bor i=false)(hm:φ.M i=false)(he:QE X U φ e f)(hs:swapsWith e (some (.Name x pos')) pos.line X.env=pure false:=by rfl)(hf:X.fn x=true\/X.env.scope.names.lookup x=some .local:=by first|exact .inl rfl|exact .inr rfl|assumption):
  QS X U φ (.Assign [.Name x pos'] e pos) (aW i f):=(sS hN hi hx he hs hf).imp fun E σ H hh_=>by
 obtain⟨ps,F,fl,ps',R,e,q⟩:=hh_
 obtain⟨⟨d,ps1⟩,e1,e2⟩:=bind_some e
 cases e2
 refine⟨ps,F,d,ps1,R,e1,fun v H' F' fv s o r=> ?_⟩
 obtain⟨F2,s2⟩:=s.set o R r (.inl hb) hm (i:=i)
 exact q _ _ F2 s2
def cX(f:tz8):tz1:=fun ps=>(f ps).bind fun r=>some (.nx,r.2)
theorem fH{e:Expr}{f:tz8}(he:QE X U φ e f)(hs:swapsWith e none pos.line X.env=pure false:=by rfl):QS X U φ (.Expr e pos) (cX f):=(xv4 he hs).imp fun E σ H hh_=>by
 obtain⟨ps,F,fl,ps',R,e,q⟩:=hh_
 obtain⟨⟨d,ps1⟩,e1,e2⟩:=bind_some e
 cases e2
 exact⟨ps,F,d,ps1,R,e1,fun v H' F' fv s o r=>q _ _ F' s⟩
def bX(f:tz8):tz1:=fun ps=>(f ps).bind fun r=>some (.ret r.1,r.2)
theorem bP{e:Expr}{f:tz8}(he:QE X U φ e f):QS X U φ (.Return (some e) pos) (bX f):=(vN he).imp fun E σ H hh_=>by
 obtain⟨ps,F,fl,ps',R,e,q⟩:=hh_
 obtain⟨⟨d,ps1⟩,e1,e2⟩:=bind_some e
 cases e2
 exact⟨ps,F,d,ps1,R,e1,fun v H' F' fv s o r=>q v σ H' F' fv s o r⟩
def jQ(i:Nat):tz1:=fun ps=>((ps[i]?).join).bind fun d=>some (.ret d,ps.set i none)
theorem join_some{ps:PSt}{i:Nat}{d:D}(h:(ps[i]?).join=some d):ps[i]? =some (some d):=by
 cases q:ps[i]? with
 |none=>rw [q] at h;cases h
 |some o=>rw [q] at h;exact ZN some h
theorem jE(i:Nat){x:Str}{p:Pos}(hb:φ.bor i=false)(hN:X.N[i]? =some x:=by rfl)(hv:Vis X.env.scope x:=by first|exact Or.inl rfl|exact Or.inr (Or.inl rfl)|exact Or.inr (Or.inr rfl))(hd:NDb x:=by decide)
  (hcd:(x==("__classdict__":Str))=false:=by decide):QS X U φ (.Return (some (.Name x p)) pos) (jQ i):=(vN (qH hN hv hd hcd)).imp fun E σ H hh_=>by
 obtain⟨ps,F,fl,ps',R,e,q⟩:=hh_
 obtain⟨d,e1,e2⟩:=bind_some e
 cases e2
 obtain⟨v,fp,h1,h2,h3,_⟩:=R.rep i d (join_some e1)
 have h3:=h3 hb
 subst h3
 refine⟨v,h1,q v σ H (vH F i []) (F i) ⟨⟨fun a o h _ _=>h,fun a h=>h⟩,fun j a h=> ?_,R.drop i,fun _ _=>rfl⟩ ⟨fun a h=> .inl ⟨i,h⟩,R.nd i,fun j a h1 h2=> ?_⟩ h2⟩
 ·rcases kG h with z|z
  ·exact absurd z (by simp)
  ·exact .inl ⟨j,z⟩
 ·rcases kG h1 with z|z
  ·exact absurd z (by simp)
  ·have:=R.dis j i a z h2
   subst this
   rw [fE] at h1;exact absurd h1 (by simp)
def fIf(c:PSt->Option (Bool×PSt))(f g:tz1):tz1:=fun ps=>(c ps).bind fun r=>if r.1=true then f r.2 else g r.2
theorem cA(hc:QTE X U φ c tc)(ha:QSs X U φ a f)(hb:QSs X U φ b g):QS X U φ (.If c a b pos) (fIf tc f g):=(zy4 hc ha hb).imp fun E σ H hh_=>by
 obtain⟨ps,F,fl,ps',R,e,q⟩:=hh_
 obtain⟨⟨k,ps1⟩,e1,e2⟩:=bind_some e
 refine⟨ps,F,k,ps1,R,e1,fun H' F' s=> ?_⟩
 cases k with
 |true=>rw [if_pos rfl] at e2|-;exact zg9 s e2 q
 |false=>rw [if_neg Z7] at e2|-;exact zg9 s e2 q
end
def lX(c:PSt->Option (Bool×PSt))(f:tz1):Nat->tz1
 |0,_=>none
 | n+1,ps=>(c ps).bind fun r=>if r.1=true then(f r.2).bind fun q=>match q with
   |(.nx,p)=>lX c f n p
   |(.ct,p)=>lX c f n p
   |(.bk,p)=>some (.nx,p)
   |(.ret d,p)=>some (.ret d,p)
  else some (.nx,r.2)
section
variable{X:Cx}{φ:Fx}{pos:Pos}{body:List Stmt}{f:tz1}
theorem yB.back(s1:Stp φ σ H F σ1 H1 ps1 F1)(q:yB φ E σ H F fl ps2):yB φ E σ1 H1 F1 fl ps2:=by
 cases fl with
 |nx=>exact fun σ' H' F' s=>q σ' H' F' (s1.trans s)
 |bk=>exact fun σ' H' F' s=>q σ' H' F' (s1.trans s)
 |ct=>exact fun σ' H' F' s=>q σ' H' F' (s1.trans s)
 |ret d=>exact fun v σ' H' F' fv s o r=>q v σ' H' F' fv (s1.trans s) (o.after s1) r
def ws6(φ:Fx)(σ:St)(H:Hp)(F:Nat->List Addr)(tc:PSt->Option (Bool×PSt))(f:tz1)(fl:Fl)(ps':PSt)(m:Nat)(σ1:St)(H1:Hp):Prop:=∃ps1 F1,Stp φ σ H F σ1 H1 ps1 F1/\lX tc f m ps1=some (fl,ps')
theorem xm8{U:tz9}{φ:F0}(n:Nat){c:Expr}{tc:PSt->Option (Bool×PSt)}(hp:PassesOwn (model X.prog X.w) X.A X.env X.xe)(hc:QTE X U φ c tc)(hb:QSs X U φ body f):QS X U φ (.While c body [] pos) (lX tc f n):=
 (xk8 hp hc hb).imp fun E σ H hh_=>by
  obtain⟨ps,F,fl,ps',R,e,q⟩:=hh_
  refine⟨ws6 (φ.fx X.K U) σ H F tc f fl ps',⟨n,ps,F,.refl R,e⟩,?_⟩
  rintro m σ1 H1 ⟨ps1,F1,s1,e1⟩
  cases m with
  |zero=>cases e1
  | succ m=>
   rw [lX] at e1
   obtain⟨⟨k,ps2⟩,e2,e3⟩:=bind_some e1
   refine⟨ps1,F1,k,ps2,s1.rs,e2,fun H2 F2 s2=> ?_⟩
   have s12:=s1.trans s2
   cases k with
   |true=>
    dsimp only at e3|-
    rw [if_pos rfl] at e3|-
    obtain⟨⟨fl3,ps3⟩,e4,e5⟩:=bind_some e3
    refine⟨fun σ' H'=>∃F',Stp (φ.fx X.K U) σ1 H2 F2 σ' H' ps3 F'/\lX tc f m ps3=some (fl,ps'),fun σ' H' ⟨F',s,e⟩=>⟨m,YV m,ps3,F',s12.trans s,e⟩,?_⟩
    refine⟨ps2,F2,fl3,ps3,s2.rs,e4,?_⟩
    cases fl3 with
    |nx=>exact fun σ' H' F' s=>⟨F',s,e5⟩
    |ct=>exact fun σ' H' F' s=>⟨F',s,e5⟩
    |bk=>cases e5;exact fun σ' H' F' s=>q σ' H' F' (s12.trans s)
    |ret d=>cases e5;exact fun v σ' H' F' fv s o r=>q v σ' H' F' fv (s12.trans s) (o.after s12) r
   |false=>
    dsimp only at e3|-
    rw [if_neg Z7] at e3|-
    cases e3
    exact q _ _ F2 s12
end
def rM(Z:List Addr)(H H':Hp):Prop:=∀a o,H a=some o->(tf o=true\/(kd o=true/\a∈Z))->H' a=some o
structure Walk(K:tz0)(U:tz9)(J:It)(Z:List Addr)(H1:Hp)(ds:List D):Prop where
 go:∀H',rM Z H1 H'->∀(i:Nat) d,ds[i]? =some d->J.go i H'/\∀x H2,J.yld i H' x H2->H2=H'/\Rep K U H' x d []
 stop:∀H',rM Z H1 H'->J.stop ds.length H'
def tIV(K:tz0)(U:tz9)(f:tz3):TI:=fun σ H R=>∃ps ds,WS K U H σ ps/\f ps=some ds/\∀J H1 Z,SameK H H1->Walk K U J Z H1 ds->R J H1
def tIP(K:tz0)(U:tz9)(f:tz3):TI:=fun σ H R=>∃ps ds,WS K U H σ ps/\f ps=some ds/\∀J H1 Z,SameK H H1->(∀a∈Z,H a=none/\H1 a≠none)->Walk K U J Z H1 ds->R J H1
theorem rM.sq{K:tz0}{Z:List Addr}{H H':Hp}{a:Addr}{vs:List V}(k:rM Z H H')(h:Rd H a (.lst vs))(hz:H a=some (.lst vs)->a∈Z):SqL K H' a vs:=by
 rcases h with h|⟨o,h⟩
 ·exact .inl (.inl (k a _ h (.inr ⟨rfl,hz h⟩)))
 ·exact .inl (.inr ⟨o,k a _ h (.inl rfl)⟩)
theorem rM.rep{K:tz0}{U:tz9}{Z:List Addr}{H H':Hp}{v:V}{d:D}(k:rM Z H H')(r:Rep K U H v d []):Rep K U H' v d []:=r.move (fun a o h t=>k a o h (.inl t)) fun a ha=>absurd ha (by simp)
theorem lP:∀{l₁:List α} {l₂:List β} {i:Nat} {y:β},Paired R l₁ l₂->l₂[i]? =some y->∃x,l₁[i]? =some x/\R x y
 |_,_,_,_,.nil,e=>by simp at e
 |_,_,0,_,.cons h _,e=>by simp at e;subst e;exact⟨_,rfl,h⟩
 |_,_,i+1,_,.cons _ t,e=>by obtain⟨x,h1,h2⟩:=lP (i:=i) t (by simpa using e);exact⟨x,by simpa using h1,h2⟩
section
variable{K:tz0}{U:tz9}{H1:Hp}{a:Addr}{vs:List V}{ds:List D}{Z:List Addr}
theorem zu4(h:Rd H1 a (.lst vs))(hz:H1 a=some (.lst vs)->a∈Z)(r:Paired (fun v d=>Rep K U H1 v d []) vs ds):Walk K U (Itl K a) Z H1 ds where
 go:=fun H' k i d e=>by
  obtain⟨x,e1,r1⟩:=lP r e
  have sq:SqL K H' a vs:=k.sq h hz
  refine⟨⟨vs,x,sq,e1⟩,fun y H2 hy=>⟨hy.1,?_⟩⟩
  have e2:=hy.2 vs sq
  rw [e1] at e2;cases e2
  exact k.rep r1
 stop:=fun H' k=>⟨vs,k.sq h hz,by rw [ZI r];exact Zc _⟩
theorem xm9(h:SqF K H1 a vs)(r:Paired (fun v d=>Rep K U H1 v d []) vs ds):Walk K U (Itl K a) Z H1 ds where
 go:=fun H' k i d e=>by
  obtain⟨x,e1,r1⟩:=lP r e
  have sq:SqL K H' a vs:=(h.tf fun a o e t=>k a o e (.inl t)).l
  refine⟨⟨vs,x,sq,e1⟩,fun y H2 hy=>⟨hy.1,?_⟩⟩
  have e2:=hy.2 vs sq
  rw [e1] at e2;cases e2
  exact k.rep r1
 stop:=fun H' k=>⟨vs,(h.tf fun a o e t=>k a o e (.inl t)).l,by rw [ZI r];exact Zc _⟩
theorem xn0(h:SqT K H1 a vs)(r:Paired (fun v d=>Rep K U H1 v d []) vs ds):Walk K U (Itt K a) Z H1 ds where
 go:=fun H' k i d e=>by
  obtain⟨x,e1,r1⟩:=lP r e
  have sq:SqT K H' a vs:=h.tf fun a o e t=>k a o e (.inl t)
  refine⟨⟨vs,x,sq,e1⟩,fun y H2 hy=>⟨hy.1,?_⟩⟩
  have e2:=hy.2 vs sq
  rw [e1] at e2;cases e2
  exact k.rep r1
 stop:=fun H' k=>⟨vs,h.tf fun a o e t=>k a o e (.inl t),by rw [ZI r];exact Zc _⟩
end
def eS(lo:Int)(n:Nat):List D:=(List.range n).map fun(k:Nat)=> .int (lo+(k:Int))
theorem zk1{K:tz0}{U:tz9}{H1:Hp}{Z:List Addr}(lo:Int)(n:Nat):Walk K U (Itr lo n) Z H1 (eS lo n) where
 go:=fun H' _ i d e=>by
  have hi:=(Z5.mp e).1
  unfold eS at hi e
  rw [Zb,Yl] at hi
  rw [Ze,List.getElem?_range hi] at e
  cases e
  exact⟨hi,fun x H2 ⟨h1,h2⟩=>⟨h1,by rw [h2];exact .int _⟩⟩
 stop:=fun H' _=>by
  show n<=(eS lo n).length
  unfold eS
  rw [Zb,Yl];exact Zc _
abbrev QIV(X:Cx)(U:tz9)(tg iter:Expr)(f:tz3):Prop:=PI X tg iter (tIV X.K U f)
abbrev QIP(X:Cx)(U:tz9)(tg iter:Expr)(f:tz3):Prop:=PI X tg iter (tIP X.K U f)
theorem PI.imp(h:PI X tg e t)(k:∀σ H Q,t' σ H Q->t σ H Q):PI X tg e t':=⟨fun pins s σ H Q I q=>h pins s σ H Q I (k σ H Q q)⟩
theorem QIP.v(h:QIP X U tg iter f):QIV X U tg iter f:=PI.imp h fun σ H R ⟨ps,ds,w,e,q⟩=>⟨ps,ds,w,e,fun J H1 Z s _ k=>q J H1 Z s k⟩
section
variable{X:Cx}{U:tz9}{tg l a b:Expr}{f:tz2}{g:tz3}{p pos:Pos}
def sA:List D->Option (List D)
 |[.int j]=>if (-(2^62)<=j/\j<2^62) then some (eS 0 j.toNat) else none
 |_=>none
def zz3:List D->Option (List D)
 |[.int i,.int j]=>if (-(2^62)<=i/\i<2^62/\ -(2^62)<=j/\j<2^62) then some (eS i (j-i).toNat) else none
 |_=>none
def lL(g:tz3):tz3:=fun ps=>(g ps).bind sA
def uP(g:tz3):tz3:=fun ps=>(g ps).bind zz3
theorem zE(hg:Gl X "range")(hm:X.mg "range"=none)(ha:QVA X U [a] g)(hs:starEach [a] X.env=[(false,eval a X.env)]:=by rfl):QIP X U tg (.Call (.Name "range" p) [a] [] pos) (lL g):=
 PI.imp (yz6 hg hm ha hs) fun σ H R hh_=>by
  obtain⟨ps,ds,w,e,q⟩:=hh_
  obtain⟨as,e1,e2⟩:=bind_some e
  refine⟨ps,as,w,e1,fun vs H1 fp s1 r1=> ?_⟩
  unfold sA at e2
  split at e2
  ·obtain⟨hc,e3⟩:=bU e2
   cases e3
   obtain⟨v,rfl,r⟩:=r1.one_inv
   exact⟨_,by rw [r.is_int],hc.1,hc.2,q _ H1 [] s1 (fun _ h=>absurd h (by simp)) (zk1 _ _)⟩
  ·cases e2
theorem zF(hg:Gl X "range")(hm:X.mg "range"=none)(ha:QVA X U [a,b] g)(hs:starEach [a,b] X.env=[(false,eval a X.env),(false,eval b X.env)]:=by rfl)(hs2:starEach [b] X.env=[(false,eval b X.env)]:=by rfl):QIP X U tg (.Call (.Name "range" p) [a,b] [] pos) (uP g):=
 PI.imp (yz7 hg hm ha hs hs2) fun σ H R hh_=>by
  obtain⟨ps,ds,w,e,q⟩:=hh_
  obtain⟨as,e1,e2⟩:=bind_some e
  refine⟨ps,as,w,e1,fun vs H1 fp s1 r1=> ?_⟩
  unfold zz3 at e2
  split at e2
  ·obtain⟨hc,e3⟩:=bU e2
   cases e3
   obtain⟨v,u,f,g,rfl,r,r'⟩:=r1.two_inv
   exact⟨_,_,by rw [r.is_int,r'.is_int],hc,q _ H1 [] s1 (fun _ h=>absurd h (by simp)) (zk1 _ _)⟩
  ·cases e2
def ws7(K:tz0)(tl:TE):TI:=fun σ H R=>tl σ H fun x H1=>∃a,x= .ref a/\(((∃xs,SqL K H1 a xs)/\R (Itl K a) H1)\/((∃xs,SqT K H1 a xs)/\R (Itt K a) H1))
theorem xc6(hl:PE X l tl):PI X tg l (ws7 X.K tl):=⟨by
 intro pins s σ H R I h
 refine thn (hl pins s σ H _ I h) fun v s1 ⟨x,H1,I1,r1,q1⟩=> ?_
 obtain⟨a,e,q1⟩:=q1
 subst e
 cases r1
 rcases q1 with ⟨⟨xs,hq⟩,q⟩|⟨⟨xs,hq⟩,q⟩
 ·obtain⟨its,rv,p,hz⟩:=I1.list hq
  refine wpAny_pyIter_list p.isList ?_
  refine⟨s1.heap.objs.size,[s1.heap.objs.size],_,_,H1,rfl,I1.kept (t':=s1.toks) fun b o e=>Zh _ e,yz5 a _,⟨_,Zv _ rfl,rfl,rfl⟩,fun b hb=> ?_,q⟩
  have e:b=s1.heap.objs.size:=by simpa using hb
  subst e
  exact I1.fpOk (Zc _) (I1.hok.fresh (Zc _))
 ·obtain⟨its,rv,p,hz⟩:=I1.tuple hq
  refine wpAny_pyIter_tuple (show s1.heap.IsTuple a its.toArray from p) ?_
  refine⟨s1.heap.objs.size,[s1.heap.objs.size],_,_,H1,rfl,I1.kept (t':=s1.toks) fun b o e=>Zh _ e,yr3 a _,⟨_,Zv _ rfl,rfl,rfl⟩,fun b hb=> ?_,q⟩
  have e:b=s1.heap.objs.size:=by simpa using hb
  subst e
  exact I1.fpOk (Zc _) (I1.hok.fresh (Zc _))⟩
def lY:D->Option (List D)
 | .lst _ xs=>if D.imms xs=true then some xs else none
 | .tup xs=>some xs
 | .con xs=>some xs
 |_=>none
theorem yn0{K:tz0}{H:Hp}{v:V}{d:D}{fp:List Addr}{ds:List D}{R:It->Hp->Prop}(r:Rep K U H v d fp)(e:lY d=some ds)(q:∀J Z,(∀a∈Z,a∈fp)->Walk K U J Z H ds->R J H):
  ∃a,v= .ref a/\(((∃xs,SqL K H a xs)/\R (Itl K a) H)\/((∃xs,SqT K H a xs)/\R (Itt K a) H)):=by
 cases d with
 |lst o xs=>
  obtain⟨hc,e⟩:=bU e
  cases e
  cases r with
  |lst h hs=>exact⟨_,rfl,.inl ⟨⟨_,.inl (.inl h)⟩,q _ [_] (fun a ha=>by simp at ha;subst ha;exact Z0) (zu4 (.inl h) (fun _=>by simp) (hs.pair hc))⟩⟩
  |lstF h hs=>exact⟨_,rfl,.inl ⟨⟨_,.inl (.inr ⟨_,h⟩)⟩,q _ [] (fun a ha=>absurd ha (by simp)) (zu4 (.inr ⟨_,h⟩) (fun z=>by rw [h] at z;cases z) (hs.pair hc))⟩⟩
 |tup xs=>
  cases e
  obtain⟨a,vs,rfl,h,hs⟩:=r.tup_inv
  exact⟨a,rfl,.inr ⟨⟨_,h⟩,q _ [] (fun a ha=>absurd ha (by simp)) (xn0 h hs.nilp)⟩⟩
 |con xs=>
  cases e
  obtain⟨a,vs,rfl,h,hs⟩:=r.con_inv
  exact⟨a,rfl,.inl ⟨⟨_,h.l⟩,q _ [] (fun a ha=>absurd ha (by simp)) (xm9 h hs.nilp)⟩⟩
 |_=>cases e
def eJ(f:tz2):tz3:=fun ps=>(f ps).bind lY
theorem zG(h:QV X U l f):QIV X U tg l (eJ f):=PI.imp (xc6 h) fun σ H R hh_=>by
 obtain⟨ps,ds,w,e,q⟩:=hh_
 obtain⟨d,e1,e2⟩:=bind_some e
 exact⟨ps,d,w,e1,fun v H1 fv s1 r1=>yn0 r1 e2 fun J Z _ k=>q J H1 Z s1 k⟩
end
def dE(i:Nat)(f:tz1):List D->tz1
 |[],ps=>some (.nx,ps)
 | d::ds,ps=>(f (ps.set i (some d))).bind fun q=>match q with
   |(.nx,p)=>dE i f ds p
   |(.ct,p)=>dE i f ds p
   |(.bk,p)=>some (.nx,p)
   |(.ret d,p)=>some (.ret d,p)
section
variable{X:Cx}{φ:Fx}{pos:Pos}{body:List Stmt}{f:tz1}
theorem Frm.kept(R:RS φ H σ ps F)(k:Frm F H H')(hz:∀a∈Z,∀i,a∉F i):rM Z H H':=fun a o h t=>by
 rcases t with t|⟨t1,t2⟩
 ·refine k.keep a o h (nS t) fun i hi=> ?_
  obtain⟨o',h',_,t'⟩:=R.own hi
  rw [h] at h';cases h';rw [t] at t';cases t'
 ·exact k.keep a o h t1 (hz a t2)
def wp5(J:It)(E:Ends)(V:Nat->Nat->St->Hp->Prop)(g:TG)(tb:TS)(k m:Nat)(σ:St)(H:Hp):Prop:=
 (J.stop k H/\E.nx σ H)\/(J.go k H/\∃N:St->Hp->Prop,(∀σ' H',N σ' H'->∃m',m'<m/\V (k+1) m' σ' H')/\∀x H',J.yld k H x H'->g x σ H' fun σ2 H2=>tb {E with nx:=N,ct:=N,bk:=E.nx} σ2 H2)
def ws8(φ:Fx)(σ:St)(H:Hp)(F:Nat->List Addr)(i:Nat)(f:tz1)(ds:List D)(fl:Fl)(ps':PSt)(k m:Nat)(σ1:St)(H1:Hp):Prop:=k<=ds.length/\m=ds.length-k/\∃ps1 F1,Stp φ σ H F σ1 H1 ps1 F1/\dE i f (ds.drop k) ps1=some (fl,ps')
theorem yc4(R:RS φ H σ ps F)(hz:∀a∈Z,H a≠none/\∀i,a∉F i)(W:Walk φ.K φ.U J Z H ds)(hb:φ.bor i=false)(hm:φ.M i=false)
  (e:dE i f ds ps=some (fl,ps')) (q:yB φ E σ H F fl ps'):∃V:Nat->Nat->St->Hp->Prop,(∃m,V 0 m σ H)/\∀k m σ H,V k m σ H->wp5 J E V (yA i) (tS φ f) k m σ H:=by
 refine⟨ws8 φ σ H F i f ds fl ps',⟨_,ZJ _,rfl,ps,F,.refl R,by rw [XO];exact e⟩,?_⟩
 rintro k m σ1 H1 ⟨hk,rfl,ps1,F1,s1,e1⟩
 have kp:rM Z H H1:=s1.fr.kept R fun a ha=>(hz a ha).2
 by_cases hlt:k<ds.length
 ·right
  have ed:ds[k]? =some ds[k]:=Zp hlt
  obtain⟨hgo,hy⟩:=W.go H1 kp k _ ed
  rw [ZP hlt,dE] at e1
  obtain⟨⟨fl2,ps2⟩,e2,e3⟩:=bind_some e1
  refine⟨hgo,fun σ' H'=>∃F',Stp φ σ H F σ' H' ps2 F'/\dE i f (ds.drop (k+1)) ps2=some (fl,ps'),fun σ' H' ⟨F',s,e⟩=>⟨ds.length-(k+1),by omega,hlt,rfl,ps2,F',s,e⟩,fun x H' y=> ?_⟩
  obtain⟨rfl,rx⟩:=hy x H' y
  obtain⟨F2,s2⟩:=(Stp.refl s1.rs).set (i:=i) (fv:=[]) (v:=x) (d:=ds[k]) ⟨fun _ h=>absurd h (by simp),Zm,fun _ _ _ h=>absurd h (by simp)⟩ s1.rs rx (.inl hb) hm
  have s12:=s1.trans s2
  refine⟨_,F2,fl2,ps2,s2.rs,e2,?_⟩
  cases fl2 with
  |nx=>exact fun σ' H' F' s=>⟨F',s12.trans s,e3⟩
  |ct=>exact fun σ' H' F' s=>⟨F',s12.trans s,e3⟩
  |bk=>cases e3;exact fun σ' H' F' s=>q σ' H' F' (s12.trans s)
  |ret d=>cases e3;exact fun v σ' H' F' fv s o r=>q v σ' H' F' fv (s12.trans s) (o.after s12) r
 ·left
  have ek:k=ds.length:=by omega
  subst ek
  rw [Xw,dE] at e1
  cases e1
  exact⟨W.stop H1 kp,q _ _ F1 s1⟩
def gT(i:Nat)(fi:tz3)(f:tz1):tz1:=fun ps=>(fi ps).bind fun ds=>dE i f ds ps
theorem qI{U:tz9}{φ:F0}(i:Nat){x:Str}{px:Pos}{iter:Expr}{fi:tz3}(hp:PassesOwn (model X.prog X.w) X.A X.env X.xe)(hc:X.calm=true)(hN:X.N.Nodup)(hi:X.N[i]? =some x)(hx:Loc X.env.scope x)(hb:φ.bor i=false)(hm:φ.M i=false)
  (hit:PI X (.Name x px) iter (tIP X.K U fi)) (hbd:QSs X U φ body f) (hs:∀x,foldedSetIterable iter X.env x=pure x:=by intro _;rfl) (hf:X.fn x=true\/X.env.scope.names.lookup x=some .local:=by first|exact .inl rfl|exact .inr rfl|assumption):
  QS X U φ (.For (.Name x px) iter body [] pos) (gT i fi f):=(ya9 hp hc hit (hV hN hi hx hf) hbd hs).imp fun E σ H hh_=>by
 obtain⟨ps,F,fl,ps',R,e,q⟩:=hh_
 obtain⟨ds,e1,e2⟩:=bind_some e
 refine⟨ps,ds,R.ws,e1,fun J H1 Z s1 hz W=> ?_⟩
 have s:=Stp.same R s1
 exact yc4 s.rs (fun a ha=>⟨(hz a ha).2,fun j hj=>by obtain⟨o,h,_⟩:=R.own hj;rw [(hz a ha).1] at h;cases h⟩) W hb hm e2 (q.back s)
def wk9(g:TG)(tb:TS)(E:Ends)(σ:St):It->Hp->Prop:=fun J H1=>∃W:Nat->Nat->St->Hp->Prop,(∃m,W 0 m σ H1)/\∀i m σ H,W i m σ H->
 (J.stop i H/\E.nx σ H)\/(J.go i H/\∃N:St->Hp->Prop,(∀σ' H',N σ' H'->∃m',m'<m/\W (i+1) m' σ' H')/\∀x H',J.yld i H x H'->g x σ H' fun σ2 H2=>tb {E with nx:=N,ct:=N,bk:=E.nx} σ2 H2)
theorem zq2{U:tz9}{φ:F0}(i j:Nat){x y:Str}{px py:Pos}(hp:PassesOwn (model X.prog X.w) X.A X.env X.xe)(hc:X.calm=true)(hN:X.N.Nodup)(hi:X.N[i]? =some x)(hx:Loc X.env.scope x)(hb:φ.bor i=false)(hm:φ.M i=false)(hj:φ.bor j=true)
  (hbd:QSs X U φ body f) (hNj:X.N[j]? =some y:=by rfl) (hv:Vis X.env.scope y:=by first|exact Or.inl rfl|exact Or.inr (Or.inl rfl)|exact Or.inr (Or.inr rfl)) (hd:NDb y:=by decide)
  (hcd:(y==("__classdict__":Str))=false:=by decide) (hs:∀x,foldedSetIterable (.Name y py) X.env x=pure x:=by intro _;rfl) (hf:X.fn x=true\/X.env.scope.names.lookup x=some .local:=by first|exact .inl rfl|exact .inr rfl|assumption):
  QS X U φ (.For (.Name x px) (.Name y py) body [] pos) (gT i (eJ (aA j)) f):=(ya9 hp hc (xc6 (qH hNj hv hd hcd)) (hV hN hi hx hf) hbd hs).imp fun E σ H hh_=>by
 obtain⟨ps,F,fl,ps',R,e,q⟩:=hh_
 obtain⟨ds,e1,e2⟩:=bind_some e
 obtain⟨d,e3,e4⟩:=bind_some e1
 obtain⟨v,fp,h1,h2,_,h4⟩:=R.rep j d (join_some e3)
 refine⟨v,h1,?_⟩
 refine yn0 (R:=wk9 (yA i) (tS (φ.fx X.K U) f) E σ) h2 e4 fun J Z hz W=> ?_
 exact yc4 R (fun a ha=>⟨R.bt j a (h4 hj a (hz a ha)),fun k hk=>R.nb k a hk j (h4 hj a (hz a ha))⟩) W hb hm e2 q
end
def gP(np n:Nat)(f:tz1):tz6:=fun ds=>if ds.length=np then(f (ds.map some++List.replicate n none)).bind fun r=>match r with
 |(.ret d,_)=>some d
 |(.nx,_)=>some .non
 |_=>none
 else none
def SpP(np:Nat)(K:tz0)(U:tz9)(g:tz6):Sp:=fun vs H Q _=>vs.length=np/\∃ds fp d,Reps K U H vs ds fp/\g ds=some d/\lF K U H d Q
def fxP(K:tz0)(U:tz9)(np:Nat)(B:Nat->Addr->Prop):Fx:=⟨K,U,fun i=>decide (i<np),fun _=>false,B⟩
def f0P(np:Nat)(B:Nat->Addr->Prop):F0:=⟨fun i=>decide (i<np),fun _=>false,B⟩
theorem xc7{N:List Str}{vs:List V}{i:Nat}{v:V}(h:vs[i]? =some v):(start N vs)[i]? =some (some v):=by
 unfold start
 have hi:=(Z5.mp h).1
 rw [ZO (by simpa using hi),Ze,h];rfl
theorem RS.start{K:tz0}{U:tz9}{H:Hp}{N:List Str}{vs:List V}{ds:List D}{fp:List Addr}{np:Nat}(r:Reps K U H vs ds fp)(hl:vs.length=np)(hn:np<=N.length):
  RS (fxP K U np (fun _ a=>a∈fp)) H (start N vs) (ds.map some++List.replicate (N.length-np) none) (fun _=>[]):=by
 have el:=r.length
 refine⟨fun i d h=> ?_,fun i a h=>absurd h (by simp),fun i j a h=>absurd h (by simp),fun i=>Zm,fun i a h=>absurd h (by simp),fun k a h z=> ?_,?_⟩
 ·by_cases hi:i<ds.length
  ·rw [ZO (by simpa using hi),Ze] at h
   cases e:ds[i]? with
   |none=>rw [e] at h;cases h
   |some d'=>
    rw [e] at h;cases h
    obtain⟨v,f,h1,h2,h3⟩:=r.get e
    refine⟨v,f,xc7 h1,h2,fun z=> ?_,fun _=>h3⟩
    exact absurd (Yt z) (by omega)
  ·rw [YO (by simpa using hi),Yv] at h
   split at h<;>cases h
 ·obtain⟨o,h,_⟩:=r.own a h
  rw [z] at h;cases h
 ·unfold L2.start
  simp only [Z3,Zb,X5]
  omega
section
variable{P:Program}{w:World}{K:tz0}{mg:tzA}{base:Heap}{U:tz9}
theorem cQ{x qual:Str}{st:Stmt}{f:Addr}{fd:FuncData}{N ps:List Str}{k:Nat}{fb:tz1}(F:Fun K x qual st f fd)(S:FnScope N ps (aS st))
  (hbody:∀(cdv:Value) (A:Around) (outer:List Env) (s:Shared) (H:Hp) (E:XK) (B:Nat->Addr->Prop),Room k (A.deeper (envOfC qual (aS st) s.heap.objs.size f cdv))->
   QSs (iT CX0 P w K mg base N qual (aS st) f cdv A outer s H E).nox U (f0P ps.length B) (mU st) fb):
  FnOk P w K mg base CX0 (k+1) f fd ps (SpP ps.length K U (gP ps.length (N.length-ps.length) fb)):=by
 refine F.ok S (fun vs H Q E h=>h.1) fun cdv A outer s H vs Q E hr ⟨hl,ds,fp,d,r,e,q⟩=>⟨_,hbody cdv A outer s H E (fun _ a=>a∈fp) hr,?_⟩
 have hn:ps.length<=N.length:=by have:=ZN List.length S.pre;rw [YG] at this;omega
 unfold gP at e
 obtain⟨_,e0⟩:=bU e
 obtain⟨⟨fl,ps'⟩,e1,e2⟩:=bind_some e0
 refine⟨_,fun _=>[],fl,ps',RS.start r hl hn,e1,?_⟩
 have sm:∀{H':Hp},Frm (fun _=>[]) H H'->SameK H H':=fun k=>⟨fun a o h kk=>k.keep a o h kk (fun _=>by simp),k.grow⟩
 cases fl with
 |ret d'=>
  cases e2
  exact fun v σ' H' F' fv s o rv=>q v H' fv (sm s.fr) (fun a ha=>(o.nw a ha).elim (fun⟨j,hj⟩=>absurd hj (by simp)) id) o.nd rv
 |nx=>
  cases e2
  exact fun σ' H' F' s=>q .non H' [] (sm s.fr) (fun a ha=>absurd ha (by simp)) Zm .non
 |bk=>cases e2
 |ct=>cases e2
end
section
variable{X:Cx}{U:tz9}{e:Expr}{es:List Expr}{g:tz3}{pos p:Pos}
theorem cE{x:Str}{st:Stmt}{ps:List Str}{f:Addr}{fd:FuncData}{k np:Nat}{h:tz6}(Dd:Dn X.K X.mg x st ps f fd)(G:FnOk X.prog X.w X.K X.mg X.base CX0 k f fd ps (SpP np X.K U h))(hr:Room k X.A)(hg:Gl X x)(hnp:(e::es).length=np)(ha:QVA X U (e::es) g)
  (hlen:∀ps ds,g ps=some ds->ds.length=(e::es).length)
  (hdb:NDb x:=by decide) (he:StE e es X:=by rfl) (hpl:BkE pos es X:=by rfl):
  QP X U (.Call (.Name x p) (e::es) [] pos) (aH h g):=(ys8 Dd G hr hg ha hdb he hpl).imp fun σ H Q hh_=>by
 obtain⟨ps,d,w,e,q⟩:=hh_
 obtain⟨ds,e1,e2⟩:=bind_some e
 refine⟨ps,ds,w,e1,fun vs H1 fp s1 r1=> ?_⟩
 show SpP np X.K U h (vs++[]) H1 Q E0
 rw [Zj]
 exact⟨by rw [r1.length,hlen ps ds e1,hnp],ds,fp,d,r1,e2,q.after s1⟩
theorem xc8{x:Str}{st:Stmt}{ps:List Str}{f:Addr}{fd:FuncData}{k:Nat}{h:tz6}(Dd:Dn X.K X.mg x st ps f fd)(G:FnOk X.prog X.w X.K X.mg X.base CX0 k f fd ps (SpP 0 X.K U h))(hr:Room k X.A)(hg:Gl X x)
  (hdb:NDb x:=by decide):QP X U (.Call (.Name x p) [] [] pos) (aH h aE):=(we9 Dd G hr hg hdb).imp fun σ H Q hh_=>by
 obtain⟨ps,d,w,e,q⟩:=hh_
 obtain⟨ds,e1,e2⟩:=bind_some e
 cases e1
 exact⟨rfl,[],[],d,.nil,e2,q⟩
theorem bA:∀(ps:PSt) (ds:List D),aE ps=some ds->ds.length=([]:List Expr).length:=fun _ _ h=>by cases h;rfl
theorem aM(h:∀ps ds,g ps=some ds->ds.length=es.length):∀(ps:PSt) (ds:List D),aB f g ps=some ds->ds.length=(e::es).length:=fun ps ds q=>by
 obtain⟨d,es',_,e2,rfl⟩:=wT q
 rw [Z6,Z6,h ps es' e2]
end
def rN(pick:List (Option Nat))(ps:PSt):PSt:=pick.map fun o=>o.bind fun j=>(ps[j]?).join
def fQ(psb:PSt)(ft:tz4)(fe:tz2):List D->Option (List D)
 |[]=>some []
 |d::ds=>(ft (psb.set 0 (some d))).bind fun b=>if b=true then(fe (psb.set 0 (some d))).bind fun r=>(fQ psb ft fe ds).bind fun rs=>some (r::rs) else fQ psb ft fe ds
def iB(pick:List (Option Nat))(fi:tz3)(ft:tz4)(fe:tz2):tz2:=fun ps=>(fi ps).bind fun ds=>if ds.length<=sizeLine then(fQ (rN pick ps) ft fe ds).bind fun rs=>some (.lst true rs) else none
def gU:tz4:=fun _=>some true
theorem WS.sub{K:tz0}{U:tz9}{H:Hp}{σ:St}{ps:PSt}(pick:List (Option Nat))(w:WS K U H σ ps):WS K U H (rK pick σ) (rN pick ps):=fun i d h=>by
 unfold rN at h
 unfold rK
 rw [Ze] at h|-
 cases e:pick[i]? with
 |none=>rw [e] at h;cases h
 | some o=>
  rw [e] at h
  cases o with
  |none=>cases h
  |some j=>
   have h':(ps[j]?).join=some d:=Zz h
   obtain⟨v,fp,h1,h2⟩:=w j d (join_some h')
   refine⟨v,fp,?_,h2⟩
   show some ((σ[j]?).join)=some (some v)
   rw [h1];rfl
theorem WS.set0{K:tz0}{U:tz9}{H:Hp}{σ:St}{ps:PSt}{v:V}{d:D}{fp:List Addr}(w:∀(i:Nat) (d:D),i≠0->ps[i]? =some (some d)->∃v fp,σ[i]? =some (some v)/\Rep K U H v d fp)(hl:ps.length<=σ.length)(r:Rep K U H v d fp):WS K U H (σ.set 0 (some v)) (ps.set 0 (some d)):=fun i d' h=>by
 by_cases e:i=0
 ·subst e
  by_cases hp:0<ps.length
  ·rw [ZA hp] at h
   cases h
   exact⟨v,fp,by rw [ZA (by omega)],r⟩
  ·rw [YD (by simpa using hp)] at h;cases h
 ·rw [Zu (fun z=>e z.symm)] at h|-
  exact w i d' e h
section
variable{X:Cx}{U:tz9}{sc:Scope}{NX N:List Str}{pick:List (Option Nat)}{elt iter:Expr}{ifs:List Expr}{scope:Scope}{pos px:Pos}{x:Str}{fi:tz3}{ft:tz4}{fe:tz2}
theorem PTs.imp(h:PTs X ifs t)(k:∀σ H Q,t' σ H Q->t σ H Q):PTs X ifs t':=⟨fun pins s σ H Q I q=>h pins s σ H Q I (k σ H Q q)⟩
theorem sK:PTs X [] (tQ X.K U gU):=wf0.imp fun σ H Q ⟨ps,b,w,e,q⟩=>by cases e;exact q H (.refl H)
structure Grown(K:tz0)(U:tz9)(H1:Hp)(Dd:Addr)(H':Hp)(vs:List V)(rs:List D)(fv:List Addr):Prop where
 same:SameK H1 H'
 at_:H' Dd=some (.lst vs)
 rep:Reps K U H' vs rs fv
 new:∀a∈fv,H1 a=none
 ne:Dd∉fv
 nd:fv.Nodup
def wp6(K:tz0)(U:tz9)(J:It)(Dd:Addr)(q:Hp->Prop)(V:Nat->Nat->St->Hp->Prop)(ft:tz4)(fe:tz2)(i m:Nat)(σ':St)(H':Hp):Prop:=
  (J.stop i H'/\q H')\/(J.go i H'/\∀x H2,J.yld i H' x H2->yA 0 x σ' H2 fun σ3 H3=>tQ K U ft σ3 H3 fun b H4=>
   if b=true then tP K U fe σ3 H4 fun y H5=>∃ys,H5 Dd=some (.lst ys)/\ys.length<sizeLine/\∃m',m'<m/\V (i+1) m' σ3 (upd H5 Dd (.lst (ys++[y]))) else ∃m',m'<m/\V (i+1) m' σ3 H4)
def ws9(K:tz0)(U:tz9)(H1:Hp)(Dd:Addr)(pick:List (Option Nat))(ps:PSt)(ft:tz4)(fe:tz2)(ds rs:List D)(i m:Nat)(σ':St)(H':Hp):Prop:=i<=ds.length/\m=ds.length-i/\(∀(j:Nat) (d:D),j≠0->(rN pick ps)[j]? =some (some d)->∃v fp,σ'[j]? =some (some v)/\Rep K U H1 v d fp)/\(rN pick ps).length<=σ'.length/\
  ∃vs fv done rest,Grown K U H1 Dd H' vs done fv/\done.length<=i/\fQ (rN pick ps) ft fe (ds.drop i)=some rest/\rs=done++rest
theorem xn1{pick:List (Option Nat)}{J:It}{Z:List Addr}{σ:St}{ps:PSt}{H1:Hp}{Dd:Addr}{ds rs:List D}{Q:Addr->Hp->Prop}(w:WS X.K U H1 σ ps)(hD:H1 Dd=none)(W:Walk X.K U J Z H1 ds)(hz:ds.length<=sizeLine)
  (e:fQ (rN pick ps) ft fe ds=some rs) (q:∀H' vs fv,Grown X.K U H1 Dd H' vs rs fv->Q Dd H'):
  ∃V:Nat->Nat->St->Hp->Prop,(∃m,V 0 m (rK pick σ) (upd H1 Dd (.lst [])))/\∀i m σ' H',V i m σ' H'->wp6 X.K U J Dd (Q Dd) V ft fe i m σ' H':=by
 refine⟨ws9 X.K U H1 Dd pick ps ft fe ds rs,⟨_,ZJ _,rfl,fun j d _ h=>w.sub pick j d h,by simp [rN,rK],[],[],[],rs,⟨.new hD _,cV,.nil,fun _ h=>absurd h (by simp),by simp,Zm⟩,ZJ _,by rw [XO];exact e,rfl⟩,?_⟩
 rintro i m σ' H' ⟨hi,rfl,ws,wl,vs,fv,done,rest,G,hdn,er,ers⟩
 have kp:rM Z H1 H':=fun a o h t=>G.same.keep a o h (t.elim nS fun t=>t.1)
 by_cases hlt:i<ds.length
 ·right
  have ed:ds[i]? =some ds[i]:=Zp hlt
  obtain⟨hgo,hy⟩:=W.go H' kp i _ ed
  refine⟨hgo,fun x H2 y=> ?_⟩
  obtain⟨rfl,rx⟩:=hy x H2 y
  rw [ZP hlt,fQ] at er
  obtain⟨b,e1,e2⟩:=bind_some er
  have wset:WS X.K U H2 (σ'.set 0 (some x)) ((rN pick ps).set 0 (some ds[i])):=WS.set0 (fun j d hj h=>by obtain⟨v,fp,h1,h2⟩:=ws j d hj h;exact⟨v,fp,h1,h2.same G.same⟩) wl rx
  refine⟨_,b,wset,e1,fun H3 s3=> ?_⟩
  have keepS:∀(j:Nat) (d:D),j≠0->(rN pick ps)[j]? =some (some d)->∃v fp,(σ'.set 0 (some x))[j]? =some (some v)/\Rep X.K U H1 v d fp:=fun j d hj h=>by
   obtain⟨v,fp,h1,h2⟩:=ws j d hj h
   exact⟨v,fp,by rw [Zu (fun z=>hj z.symm)];exact h1,h2⟩
  have Dkeep:∀{H5:Hp},SameK H2 H5->H5 Dd=some (.lst vs):=fun s=>s.keep _ _ G.at_ rfl
  cases b with
  | true=>
   dsimp only
   rw [if_pos rfl] at e2|-
   obtain⟨r,e3,e4⟩:=bind_some e2
   obtain⟨rs',e5,e6⟩:=bind_some e4
   cases e6
   refine⟨_,r,wset.same s3,e3,fun y H5 fw s5 n5 nd5 r5=> ?_⟩
   have s25:=s3.trans s5
   refine⟨vs,Dkeep s25,?_,ds.length-(i+1),by omega,hlt,rfl,keepS,by simpa using wl,vs++[y],fv++fw,done++[r],rs',?_,?_,e5,by rw [ers];simp⟩
   ·have:=G.rep.length;omega
   ·have hDw:Dd∉fw:=fun z=>by have:=s3.grow Dd (n5 Dd z);rw [G.at_] at this;cases this
    have hup:∀a,a≠Dd->upd H5 Dd (.lst (vs++[y])) a=H5 a:=fun a h=>bI h
    have tfk:∀a o,H5 a=some o->tf o=true->upd H5 Dd (.lst (vs++[y])) a=some o:=fun a o h t=>by
     rw [hup a]
     ·exact h
     ·rintro rfl;rw [Dkeep s25] at h;cases h;cases t
    have rv5:Reps X.K U H5 vs done fv:=G.rep.same s25
    refine⟨⟨fun a o h k=> ?_,fun a h=> ?_⟩,cV,Reps.append (rv5.move tfk fun a ha=>hup a fun z=>G.ne (z▸ha)) (Reps.one (r5.move tfk fun a ha=>hup a fun z=>hDw (z▸ha))),fun a ha=> ?_,fun z=> ?_,?_⟩
    ·rw [hup a (fun z=>by subst z;rw [hD] at h;cases h)]
     exact(G.same.trans s25).keep a o h k
    ·by_cases z:a=Dd
     ·subst z;rw [cV] at h;cases h
     ·rw [hup a z] at h;exact(G.same.trans s25).grow a h
    ·rcases Zn.mp ha with z|z
     ·exact G.new a z
     ·exact(G.same.trans s3).grow a (n5 a z)
    ·rcases Zn.mp z with z|z
     ·exact G.ne z
     ·exact hDw z
    ·rw [ZC]
     refine⟨G.nd,nd5,fun a ha b hb e=> ?_⟩
     subst e
     obtain⟨o,h,k,_⟩:=G.rep.own a ha
     have:=s3.keep a o h k
     rw [n5 a hb] at this;cases this
   ·rw [Z3,Wf];omega
  |false=>
   dsimp only
   rw [if_neg Z7] at e2|-
   refine⟨ds.length-(i+1),by omega,hlt,rfl,keepS,by simpa using wl,vs,fv,done,rest,⟨G.same.trans s3,Dkeep s3,G.rep.same s3,G.new,G.ne,G.nd⟩,by omega,e2,ers⟩
 ·left
  have ek:i=ds.length:=by omega
  subst ek
  rw [Xw,fQ] at er
  cases er
  rw [Zj] at ers
  subst ers
  exact⟨W.stop H' kp,q H' vs fv G⟩
theorem sL(S:CScope sc NX N pick scope)(hsc:X.env.scope=sc)(hNX:X.N=NX)(hc:X.calm=true)(hi:QIV X U (.Name x px) iter fi)
  (hg:∀cl fp s H,PG (cxB X N scope cl fp s H) (.Name x px) (yA 0)) (ht:∀cl fp s H,PTs (cxB X N scope cl fp s H) ifs (tQ X.K U ft)) (he:∀cl fp s H,PE (cxB X N scope cl fp s H) elt (tP X.K U fe))
  (hs:∀x,foldedSetIterable iter X.env x=pure x:=by intro _;rfl):QP X U (.ListComp elt [⟨.Name x px,iter,ifs,0⟩] scope pos) (iB pick fi ft fe):=
 (xx0 S hsc hNX hc hi hg ht he hs).imp fun σ H Q hh_=>by
  obtain⟨ps,d,w,e,q⟩:=hh_
  obtain⟨ds,e1,e2⟩:=bind_some e
  obtain⟨hz,e3⟩:=bU e2
  obtain⟨rs,e4,e5⟩:=bind_some e3
  cases e5
  refine⟨ps,ds,w,e1,fun J H1 Z s1 W Dd hD=> ?_⟩
  refine xn1 (Q:=fun Dd H'=>Q (.ref Dd) H') (w.same s1) hD W hz e4 fun H' vs fv G=> ?_
  refine q _ H' (Dd::fv) (s1.trans G.same) (fun a ha=> ?_) (Zs.mpr ⟨G.ne,G.nd⟩) (.lst G.at_ G.rep)
  rcases Z4.mp ha with z|z
  ·rw [z];exact s1.grow Dd hD
  ·exact s1.grow a (G.new a z)
end
inductive Ps1 where
 |ix (n:Nat)|fld (f:Str)
def cN:List Str->Str->Option Nat
 |[],_=>none
 |n::ns,f=>if n=f then some 0 else(cN ns f).map (·+1)
def fY{α:Type}(h:D->Option (α×D)):D->List Ps1->Option (α×D)
 |d,[]=>h d
 | .lst true xs,.ix n::p=>(xs[n]?).bind fun d=>(fY h d p).bind fun r=>some (r.1,.lst true (xs.set n r.2))
 | .obj true C ns vs,.fld f::p=>(cN ns f).bind fun n=>(vs[n]?).bind fun d=>(fY h d p).bind fun r=>some (r.1,.obj true C ns (vs.set n r.2))
 |_,_=>none
def kM:D->List Ps1->Option D
 |d,[]=>some d
 | .lst true xs,.ix n::p=>(xs[n]?).bind fun d=>kM d p
 | .obj true _ ns vs,.fld f::p=>(cN ns f).bind fun n=>(vs[n]?).bind fun d=>kM d p
 |_,_=>none
def At(H:Hp):V->List Ps1->V->Prop
 |v0,[],v=>v=v0
 |v0,.ix n::p,v=>∃a vs v1,v0= .ref a/\H a=some (.lst vs)/\vs[n]? =some v1/\At H v1 p v
 |v0,.fld f::p,v=>∃a C dx fs n v1,v0= .ref a/\H a=some (.ins C dx fs)/\cN (fs.map (·.1)) f=some n/\(fs.map (·.2))[n]? =some v1/\At H v1 p v
theorem At.same(s:SameK H H'):∀{p:List Ps1} {v0 v:V},At H v0 p v->At H' v0 p v
 |[],_,_,h=>h
 | .ix n::p,_,_,⟨a,vs,v1,h1,h2,h3,h4⟩=>⟨a,vs,v1,h1,s.keep _ _ h2 rfl,h3,At.same s h4⟩
 | .fld f::p,_,_,⟨a,C,dx,fs,n,v1,h1,h2,h3,h4,h5⟩=>⟨a,C,dx,fs,n,v1,h1,s.keep _ _ h2 rfl,h3,h4,At.same s h5⟩
theorem At.snoc_ix(h:H a=some (.lst vs))(hv:vs[n]? =some v):∀{p:List Ps1} {v0:V},At H v0 p (.ref a)->At H v0 (p++[.ix n]) v
 |[],_,e=>⟨a,vs,v,e.symm,h,hv,rfl⟩
 | .ix m::p,_,⟨b,us,v1,h1,h2,h3,h4⟩=>⟨b,us,v1,h1,h2,h3,At.snoc_ix h hv h4⟩
 | .fld f::p,_,⟨b,C,dx,fs,m,v1,h1,h2,h3,h4,h5⟩=>⟨b,C,dx,fs,m,v1,h1,h2,h3,h4,At.snoc_ix h hv h5⟩
theorem At.snoc_fld(h:H a=some (.ins C dx fs))(hn:cN (fs.map (·.1)) f=some n)(hv:(fs.map (·.2))[n]? =some v):∀{p:List Ps1} {v0:V},At H v0 p (.ref a)->At H v0 (p++[.fld f]) v
 |[],_,e=>⟨a,C,dx,fs,n,v,e.symm,h,hn,hv,rfl⟩
 | .ix m::p,_,⟨b,us,v1,h1,h2,h3,h4⟩=>⟨b,us,v1,h1,h2,h3,At.snoc_fld h hn hv h4⟩
 | .fld f'::p,_,⟨b,C',dx',fs',m,v1,h1,h2,h3,h4,h5⟩=>⟨b,C',dx',fs',m,v1,h1,h2,h3,h4,At.snoc_fld h hn hv h5⟩
theorem yn1(e:fY h d0 (.ix n::p)=some (r,d')):∃xs d1 d2,d0= .lst true xs/\xs[n]? =some d1/\fY h d1 p=some (r,d2)/\d'= .lst true (xs.set n d2):=by
 unfold fY at e
 split at e
 ·rename_i z;cases z
 ·rename_i z;cases z
  obtain⟨d1,h1,h2⟩:=bind_some e
  obtain⟨⟨r1,d2⟩,h3,h4⟩:=bind_some h2
  cases h4
  exact⟨_,_,_,rfl,h1,h3,rfl⟩
 ·rename_i z;cases z
 ·cases e
theorem yc5(e:fY h d0 (.fld f::p)=some (r,d')):∃C ns xs n d1 d2,d0= .obj true C ns xs/\cN ns f=some n/\xs[n]? =some d1/\fY h d1 p=some (r,d2)/\d'= .obj true C ns (xs.set n d2):=by
 unfold fY at e
 split at e
 ·rename_i z;cases z
 ·rename_i z;cases z
 ·rename_i z;cases z
  obtain⟨n,h0,h9⟩:=bind_some e
  obtain⟨d1,h1,h2⟩:=bind_some h9
  obtain⟨⟨r1,d2⟩,h3,h4⟩:=bind_some h2
  cases h4
  exact⟨_,_,_,_,_,_,rfl,h0,h1,h3,rfl⟩
 ·cases e
theorem zq3(e:kM d0 (.ix n::p)=some d):∃xs d1,d0= .lst true xs/\xs[n]? =some d1/\kM d1 p=some d:=by
 unfold kM at e
 split at e
 ·rename_i z;cases z
 ·rename_i z;cases z
  obtain⟨d1,h1,h2⟩:=bind_some e
  exact⟨_,_,rfl,h1,h2⟩
 ·rename_i z;cases z
 ·cases e
theorem zh0(e:kM d0 (.fld f::p)=some d):∃C ns xs n d1,d0= .obj true C ns xs/\cN ns f=some n/\xs[n]? =some d1/\kM d1 p=some d:=by
 unfold kM at e
 split at e
 ·rename_i z;cases z
 ·rename_i z;cases z
 ·rename_i z;cases z
  obtain⟨n,h0,h9⟩:=bind_some e
  obtain⟨d1,h1,h2⟩:=bind_some h9
  exact⟨_,_,_,_,_,rfl,h0,h1,h2⟩
 ·cases e
theorem nU:∀{d0:D},fY h d0 p=some (r,d')->∃d dn,kM d0 p=some d/\h d=some (r,dn):=by
 induction p generalizing d' with
 |nil=>intro d0 e;rw [fY] at e;exact⟨d0,d',by rw [kM],e⟩
 | cons s p ih=>
  intro d0 e
  cases s with
  |ix m=>
   obtain⟨xs,d1,d2,rfl,h1,h3,rfl⟩:=yn1 e
   obtain⟨d,dn,g1,g2⟩:=ih h3
   refine⟨d,dn,?_,g2⟩
   show(xs[m]?).bind _=_
   rw [h1];exact g1
  |fld f=>
   obtain⟨C,ns,xs,m,d1,d2,rfl,h0,h1,h3,rfl⟩:=yc5 e
   obtain⟨d,dn,g1,g2⟩:=ih h3
   refine⟨d,dn,?_,g2⟩
   show(cN ns f).bind _=_
   rw [h0]
   show(xs[m]?).bind _=_
   rw [h1];exact g1
section
variable{K:tz0}{U:tz9}{H:Hp}
theorem Reps.focus:∀{vs:List V} {ds:List D} {g:List Addr} {n:Nat} {d1:D} {v1:V},Reps K U H vs ds g->ds[n]? =some d1->vs[n]? =some v1->∃f1 rest,Rep K U H v1 d1 f1/\g.Perm (f1++rest)/\
  ∀(H':Hp) (d':D) (f':List Addr),(∀a o,H a=some o->tf o=true->H' a=some o)->(∀a∈rest,H' a=H a)->Rep K U H' v1 d' f'->∃g',Reps K U H' vs (ds.set n d') g'/\g'.Perm (f'++rest)
 |_,_,_,_,_,_,.nil,e,_=>by simp at e
 |_,_,_,0,_,_,.cons (f:=f) (g:=g) h hs,e,e'=>by
  simp at e e';subst e;subst e'
  exact⟨f,g,h,.refl _,fun H' d' f' t k r=>⟨f'++g,.cons r (hs.move t k),.refl _⟩⟩
 | _,_,_,n+1,_,_,.cons (f:=f) (g:=g) h hs,e,e'=>by
  obtain⟨f1,rest,h1,h2,h3⟩:=Reps.focus (n:=n) hs (by simpa using e) (by simpa using e')
  refine⟨f1,f++rest,h1,?_,fun H' d' f' t k r=> ?_⟩
  ·refine(h2.append_left f).trans ?_
   rw [<-Zl,<-Zl]
   exact YE.append_right rest
  ·obtain⟨g',r1,r2⟩:=h3 H' d' f' t (fun a ha=>k a (Z8 _ ha)) r
   refine⟨f++g',.cons (h.move t fun a ha=>k a (Zi _ ha)) r1,?_⟩
   refine(r2.append_left f).trans ?_
   rw [<-Zl,<-Zl]
   exact YE.append_right rest
theorem zu5{b:Addr}{g f1 fd rest rest1:List Addr}(k2:g.Perm (f1++rest1))(m3:f1.Perm (fd++rest)):(b::g).Perm (fd++b::(rest++rest1)):=by
 refine((k2.trans (m3.append_right rest1)).cons b).trans ?_
 rw [Zl]
 exact List.perm_middle.symm
def Foc(K:tz0)(U:tz9)(H:Hp){α:Type}(h:D->Option (α×D))(r:α)(v v0:V)(d0':D)(fp:List Addr):Prop:=∃d d' fd rest,Rep K U H v d fd/\h d=some (r,d')/\fp.Perm (fd++rest)/\
  ∀(H':Hp) (f':List Addr),(∀a o,H a=some o->tf o=true->H' a=some o)->(∀a∈rest,H' a=H a)->Rep K U H' v d' f'->∃fp',Rep K U H' v0 d0' fp'/\fp'.Perm (f'++rest)
theorem focus{α:Type}{h:D->Option (α×D)}{r:α}{p:List Ps1}:∀{v0 v:V} {d0 d0':D} {fp:List Addr},Rep K U H v0 d0 fp->fY h d0 p=some (r,d0')->At H v0 p v->Foc K U H h r v v0 d0' fp:=by
 induction p with
 |nil=>
  intro v0 v d0 d0' fp R e a
  rw [fY] at e
  cases(show v=v0 from a)
  exact⟨d0,d0',fp,[],R,e,by rw [Zj],fun H' f' t k r=>⟨f',r,by rw [Zj]⟩⟩
 | cons s p ih=>
  intro v0 v d0 d0' fp R e a
  have deep:∀(b:Addr) (vs:List V) (xs:List D) (n:Nat) (d1 d2:D) (v1:V) (g:List Addr),fp=b::g->Reps K U H vs xs g->xs[n]? =some d1->vs[n]? =some v1->fY h d1 p=some (r,d2)->At H v1 p v->(∀(H':Hp) (g2:List Addr),H' b=H b->Reps K U H' vs (xs.set n d2) g2->Rep K U H' v0 d0' (b::g2))->
    Foc K U H h r v v0 d0' fp:=fun b vs xs n d1 d2 v1 g ef hs h1 e3 h3 e4 mk=>by
   subst ef
   obtain⟨f1,rest1,k1,k2,k3⟩:=hs.focus h1 e3
   obtain⟨d,d',fd,rest,m1,m2,m3,m4⟩:=ih k1 h3 e4
   refine⟨d,d',fd,b::(rest++rest1),m1,m2,zu5 k2 m3,fun H' f' t k rr=> ?_⟩
   obtain⟨g1,q1,q2⟩:=m4 H' f' t (fun a ha=>k a (Z1 _ (Zi _ ha))) rr
   obtain⟨g2,q3,q4⟩:=k3 H' d2 g1 t (fun a ha=>k a (Z1 _ (Z8 _ ha))) q1
   exact⟨b::g2,mk H' g2 (k b Z0) q3,zu5 q4 q2⟩
  cases s with
  |ix n=>
   obtain⟨b,vs,v1,e1,e2,e3,e4⟩:=a
   subst e1
   obtain⟨xs,d1,d2,rfl,h1,h3,rfl⟩:=yn1 e
   obtain⟨_,_,g,e5,hb,hs,ef⟩:=R.lstT_inv
   cases e5
   rw [e2] at hb;cases hb
   exact deep b vs xs n d1 d2 v1 g ef hs h1 e3 h3 e4 fun H' g2 k q3=> .lst (k.trans e2) q3
  |fld f=>
   obtain⟨b,C,dx,fs,n,v1,e1,e2,e2',e3,e4⟩:=a
   subst e1
   obtain⟨C',ns,xs,n',d1,d2,rfl,h0,h1,h3,rfl⟩:=yc5 e
   obtain⟨_,_,_,g,e5,hb,hn,hs,ef⟩:=R.objT_inv
   cases e5
   rw [e2] at hb;cases hb
   subst hn
   rw [e2'] at h0;cases h0
   exact deep b _ xs n d1 d2 v1 g ef hs h1 e3 h3 e4 fun H' g2 k q3=> .obj (k.trans e2) rfl q3
end
theorem vS(R:RS φ H σ ps F)(s1:SameK H H1)(hb:φ.bor j=false)(e0:ps[j]? =some (some d0))(ev:σ[j]? =some (some v0))
  (em:fY h d0 p=some (r,d0')) (at_:At H1 v0 p v):∃d d' fd,Rep φ.K φ.U H1 v d fd/\h d=some (r,d')/\fd.Nodup/\(∀a∈fd,a∈F j)/\
  ∀(H':Hp) (fd' fr:List Addr),(∀a o,H1 a=some o->kd o=true->a∉fd->H' a=some o)->(∀a,H' a=none->H1 a=none)->Rep φ.K φ.U H' v d' fd'->(fd'++fr).Nodup->(∀a∈fd'++fr,a∈fd\/H a=none)->
   ∃F',Stp φ σ H F σ H' (ps.set j (some d0')) F'/\OwnV F H F' fr:=by
 obtain⟨v0',fp,h1,h2,h3,_⟩:=R.rep j d0 e0
 rw [ev] at h1;cases h1
 have h3:=h3 hb
 subst h3
 obtain⟨d,d',fd,rest,m1,m2,m3,m4⟩:=focus (h2.same s1) em at_
 have ndF:=R.nd j
 have ndp:(fd++rest).Nodup:=m3.nodup_iff.mp ndF
 obtain⟨nd1,nd2,nd3⟩:=ZC.mp ndp
 have inF:∀a,a∈fd\/a∈rest->a∈F j:=fun a ha=>m3.mem_iff.mpr (Zn.mpr ha)
 refine⟨d,d',fd,m1,m2,nd1,fun a ha=>inF a (.inl ha),fun H' fd' fr k1 k2 k3 k4 k5=> ?_⟩
 have tfk:∀a o,H1 a=some o->tf o=true->H' a=some o:=fun a o ha t=>k1 a o ha (nS t) fun hm=>by
  obtain⟨o',q,_,q'⟩:=m1.own a hm
  rw [ha] at q;cases q;rw [t] at q';cases q'
 have keepO:∀a,(∃i,a∈F i)->a∉fd->H' a=H1 a:=fun a ⟨i,hi⟩ hn=>by
  obtain⟨o,q,q',_⟩:=R.own hi
  have q1:=s1.keep a o q q'
  rw [q1];exact k1 a o q1 q' hn
 have notfd:∀a,a∈rest->a∉fd:=fun a hr hf=>nd3 a hf a hr rfl
 obtain⟨fp',r1,r2⟩:=m4 H' fd' tfk (fun a ha=>keepO a ⟨j,inF a (.inr ha)⟩ (notfd a ha)) k3
 obtain⟨kd1,kd2,kd3⟩:=ZC.mp k4
 have memfp:∀a,a∈fp'->a∈fd'\/a∈rest:=fun a ha=>Zn.mp (r2.mem_iff.mp ha)
 have lt:j<ps.length:=(Z5.mp e0).1
 have old:∀a,a∈fd'++fr->∀i,a∈F i->a∈fd:=fun a ha i hi=>(k5 a ha).elim id fun z=>by
  obtain⟨o,q,_⟩:=R.own hi
  rw [z] at q;cases q
 refine⟨vH F j fp',⟨⟨fun a o ha hk hn=> ?_,fun a ha=>s1.grow a (k2 a ha)⟩,fun i a ha=> ?_,⟨fun i d2 hi=> ?_,fun i a ha=> ?_,fun i k a ha hk=> ?_,fun i=> ?_,fun i a ha kk hB=> ?_,fun kk a hB z=>R.bt kk a hB (s1.grow a (k2 a z)),by simpa using R.len⟩,fun _ _=>rfl⟩,⟨fun a ha=> ?_,kd2,fun i a ha hr=> ?_⟩⟩
 ·exact k1 a o (s1.keep a o ha hk) hk fun hm=>hn j (inF a (.inl hm))
 ·rcases kG ha with z|z
  ·rcases memfp a z with z|z
   ·exact(k5 a (Zi _ z)).elim (fun z=> .inl ⟨j,inF a (.inl z)⟩) .inr
   ·exact .inl ⟨j,inF a (.inr z)⟩
  ·exact .inl ⟨i,z⟩
 ·by_cases e:i=j
  ·subst e
   rw [ZA lt] at hi
   cases hi
   exact⟨v0,fp',ev,r1,fun _=>fE.symm,fun z=>by rw [hb] at z;cases z⟩
  ·rw [Zu (fun z=>e z.symm)] at hi
   obtain⟨v2,f2,q1,q2,q3,q4⟩:=R.rep i d2 hi
   refine⟨v2,f2,q1,(q2.same s1).move tfk fun a ha=> ?_,fun z=>by rw [fG e];exact q3 z,q4⟩
   obtain⟨o,w1,w2,_⟩:=q2.own a ha
   have w3:=s1.keep a o w1 w2
   rw [w3]
   refine k1 a o w3 w2 fun hm=> ?_
   have hF:=inF a (.inl hm)
   cases hbi:φ.bor i with
   |true=>exact R.nb j a hF i (q4 hbi a ha)
   |false=>rw [q3 hbi] at ha;exact e (R.dis i j a ha hF)
 ·by_cases e:i=j
  ·subst e;exact⟨hb,d0',by rw [ZA lt]⟩
  ·rw [fG e] at ha
   obtain⟨b1,d1,b2⟩:=R.emp i a ha
   exact⟨b1,d1,by rw [Zu (fun z=>e z.symm)];exact b2⟩
 ·have hh:∀a,a∈fp'->∀i,i≠j->a∈F i->False:=fun a ha i hij hi=>by
   rcases memfp a ha with z|z
   ·exact hij (R.dis i j a hi (inF a (.inl (old a (Zi _ z) i hi))))
   ·exact hij (R.dis i j a hi (inF a (.inr z)))
  by_cases e1:i=j
  ·by_cases e2:k=j
   ·rw [e1,e2]
   ·subst e1;rw [fE] at ha;rw [fG e2] at hk;exact(hh a ha k e2 hk).elim
  ·by_cases e2:k=j
   ·subst e2;rw [fE] at hk;rw [fG e1] at ha;exact(hh a hk i e1 ha).elim
   ·rw [fG e1] at ha;rw [fG e2] at hk;exact R.dis i k a ha hk
 ·by_cases e:i=j
  ·subst e
   rw [fE]
   refine r2.nodup_iff.mpr (ZC.mpr ⟨kd1,nd2,fun a ha b hb' e=> ?_⟩)
   subst e
   exact notfd a hb' (old a (Zi _ ha) i (inF a (.inr hb')))
  ·rw [fG e];exact R.nd i
 ·rcases kG ha with z|z
  ·rcases memfp a z with z|z
   ·exact R.notB ((k5 a (Zi _ z)).elim (fun z=> .inl ⟨j,inF a (.inl z)⟩) .inr) kk hB
   ·exact R.nb j a (inF a (.inr z)) kk hB
  ·exact R.nb i a z kk hB
 ·exact(k5 a (Z8 _ ha)).elim (fun z=> .inl ⟨j,inF a (.inl z)⟩) .inr
 ·rcases kG ha with z|z
  ·rcases memfp a z with z|z
   ·exact kd3 a z a hr rfl
   ·exact notfd a z (old a (Z8 _ hr) j (inF a (.inr z)))
  ·have:=old a (Z8 _ hr) i z
   by_cases e:i=j
   ·subst e
    rw [fE] at ha
    rcases memfp a ha with w|w
    ·exact kd3 a w a hr rfl
    ·exact notfd a w this
   ·exact e (R.dis i j a z (inF a (.inl this)))
def oS(K:tz0)(U:tz9)(j:Nat)(pf:PSt->Option (List Ps1)):TE:=fun σ H Q=>∃ps p d0 d,WS K U H σ ps/\ps[j]? =some (some d0)/\pf ps=some p/\kM d0 p=some d/\∀v H' v0,SameK H H'->σ[j]? =some (some v0)->At H' v0 p v->Q v H'
theorem zh1{K:tz0}{U:tz9}{H:Hp}{v0 v:V}{d0 d:D}{fp:List Addr}{p:List Ps1}(R:Rep K U H v0 d0 fp)(g:kM d0 p=some d)(a:At H v0 p v):∃fd,Rep K U H v d fd:=by
 have key:∀{p:List Ps1} {v0 v:V} {d0 d:D} {fp:List Addr},Rep K U H v0 d0 fp->kM d0 p=some d->At H v0 p v->∃fd,Rep K U H v d fd:=by
  intro p
  induction p with
  |nil=>intro v0 v d0 d fp R g a;cases g;cases(show v=v0 from a);exact⟨fp,R⟩
  | cons s p ih=>
   intro v0 v d0 d fp R g a
   cases s with
   |ix n=>
    obtain⟨b,vs,v1,e1,e2,e3,e4⟩:=a
    subst e1
    obtain⟨xs,d1,rfl,h1,h2⟩:=zq3 g
    obtain⟨_,_,_,e5,hb,hs,_⟩:=R.lstT_inv
    cases e5
    rw [e2] at hb;cases hb
    obtain⟨v',f,q1,q2,_⟩:=hs.get h1
    rw [e3] at q1;cases q1
    exact ih q2 h2 e4
   |fld f=>
    obtain⟨b,C,dx,fs,n,v1,e1,e2,e2',e3,e4⟩:=a
    subst e1
    obtain⟨C',ns,xs,n',d1,rfl,h0,h1,h2⟩:=zh0 g
    obtain⟨_,_,_,_,e5,hb,hn,hs,_⟩:=R.objT_inv
    cases e5
    rw [e2] at hb;cases hb
    subst hn
    rw [e2'] at h0;cases h0
    obtain⟨v',f,q1,q2,_⟩:=hs.get h1
    rw [e3] at q1;cases q1
    exact ih q2 h2 e4
 exact key R g a
def bK:PSt->Option (List Ps1):=fun _=>some []
def dM(j:Nat)(pf:PSt->Option (List Ps1))(fb:tz2):PSt->Option (List Ps1):=fun ps=>(pf ps).bind fun p=>((ps[j]?).join).bind fun d0=>(kM d0 p).bind fun d=>(fb ps).bind fun y=>match d,y with
 | .lst true xs,.int i=>(ixN xs.length i).bind fun n=>some (p++[.ix n])
 |_,_=>none
def zz4(j:Nat)(pf:PSt->Option (List Ps1))(C f:Str):PSt->Option (List Ps1):=fun ps=>(pf ps).bind fun p=>((ps[j]?).join).bind fun d0=>(kM d0 p).bind fun d=>match d with
 | .obj true C' _ _=>if C'=C then some (p++[.fld f]) else none
 |_=>none
theorem sY:∀{fs:List (Str×V)} {f:Str} {n:Nat} {v:V},cN (fs.map (·.1)) f=some n->(fs.map (·.2))[n]? =some v->fs.lookup f=some v
 |[],_,_,_,h,_=>by cases h
 | (g,u)::fs,f,n,v,h,hv=>by
  rw [Z9,cN] at h
  by_cases e:g=f
  ·rw [if_pos e] at h
   cases h
   rw [ZB]
   have:(f==g)=true:=by simp [e]
   rw [this]
   simpa using hv
  ·rw [if_neg e] at h
   cases q:cN (fs.map (·.1)) f with
   |none=>rw [q] at h;cases h
   |some m=>
    rw [q] at h;cases h
    rw [ZB]
    have:(f==g)=false:=by simp;exact fun z=>e z.symm
    rw [this]
    exact sY q (by simpa using hv)
section
variable{X:Cx}{φ:F0}{U:tz9}{K:tz0}{o e a b:Expr}{f fb fe:tz2}{g:tz3}{pf:PSt->Option (List Ps1)}{j:Nat}{pos apos:Pos}
theorem bN(j:Nat){x:Str}(hN:X.N[j]? =some x:=by rfl)(hv:Vis X.env.scope x:=by first|exact Or.inl rfl|exact Or.inr (Or.inl rfl)|exact Or.inr (Or.inr rfl))(hd:NDb x:=by decide)
  (hcd:(x==("__classdict__":Str))=false:=by decide):PE X (.Name x pos) (oS K U j bK):=(qH hN hv hd hcd).imp fun σ H Q hh_=>by
 obtain⟨ps,p,d0,d,w,e0,ep,eg,q⟩:=hh_
 cases ep
 obtain⟨v,fp,h1,h2⟩:=w j d0 e0
 exact⟨v,h1,q v H v (.refl H) h1 rfl⟩
theorem lQ(ha:PE X a (oS X.K U j pf))(hb:QV X U b fb)(hs:ze2 b:=by exact fun _ _=>rfl):PE X (.Subscript a b pos) (oS X.K U j (dM j pf fb)):=
 (zy6 zp8 ha hb hs).imp fun σ H Q hh_=>by
  obtain⟨ps,p,d0,d,w,e0,ep,eg,q⟩:=hh_
  obtain⟨p1,e1,e2⟩:=bind_some ep
  obtain⟨d0',e3,e4⟩:=bind_some e2
  have:=join_some e3
  rw [e0] at this;cases this
  obtain⟨d1,e5,e6⟩:=bind_some e4
  obtain⟨y,e7,e8⟩:=bind_some e6
  split at e8
  ·rename_i xs i
   obtain⟨n,e9,e10⟩:=bind_some e8
   cases e10
   refine⟨ps,p1,d0,_,w,e0,e1,e5,fun v H1 v0 s1 ev a1=>⟨ps,_,w.same s1,e7,fun u H2 fq s2 r2=> ?_⟩⟩
   obtain⟨v0',fp,h1,h2⟩:=w j d0 e0
   rw [ev] at h1;cases h1
   obtain⟨fd,rd⟩:=zh1 (h2.same (s1.trans s2)) e5 (a1.same s2)
   obtain⟨l,vs,g,rfl,hl,hr,_⟩:=rd.lstT_inv
   have ln:=hr.length
   have hn:=(zc4 e9).2.1
   obtain⟨v1,hv⟩:∃v1,vs[n]? =some v1:=⟨_,Zp (by rw [ln];exact hn)⟩
   refine⟨l,vs,i,v1,rfl,r2.is_int,.inl (.inl hl),?_,q _ H2 v0 (s1.trans s2) ev (At.snoc_ix hl hv (a1.same s2))⟩
   unfold atI
   rw [ln,e9];exact hv
  ·cases e8
theorem zu6{C fn:Str}(hc:Cls X.K (U C))(hna:cD X.K (U C) fn)(ha:PE X a (oS X.K U j pf))(hb:attributeBase a fn X.env (eval a X.env)=eval a X.env:=by rfl):PE X (.Attribute a fn pos) (oS X.K U j (zz4 j pf C fn)):=
 (wd9 ha hb).imp fun σ H Q hh_=>by
  obtain⟨ps,p,d0,d,w,e0,ep,eg,q⟩:=hh_
  obtain⟨p1,e1,e2⟩:=bind_some ep
  obtain⟨d0',e3,e4⟩:=bind_some e2
  have:=join_some e3
  rw [e0] at this;cases this
  obtain⟨d1,e5,e6⟩:=bind_some e4
  split at e6
  ·rename_i C' ns xs
   obtain⟨hC,e7⟩:=bU e6
   subst hC
   cases e7
   refine⟨ps,p1,d0,_,w,e0,e1,e5,fun v H1 v0 s1 ev a1=> ?_⟩
   obtain⟨v0',fp,h1,h2⟩:=w j d0 e0
   rw [ev] at h1;cases h1
   obtain⟨fd,rd⟩:=zh1 (h2.same s1) e5 a1
   have key:∀{p:List Ps1} {d0:D},kM d0 p=some (.obj true C' ns xs)->kM d0 (p++[.fld fn])=some d->∃n d',cN ns fn=some n/\xs[n]? =some d':=by
    intro p
    induction p with
    |nil=>
     intro d0 h1 h2
     cases h1
     obtain⟨n,k1,k2⟩:=bind_some h2
     obtain⟨d',k3,_⟩:=bind_some k2
     exact⟨n,d',k1,k3⟩
    | cons s p ih=>
     intro d0 h1 h2
     cases s with
     |ix m=>
      obtain⟨ys,x1,rfl,k1,k2⟩:=zq3 h1
      obtain⟨_,x2,z,k3,k4⟩:=zq3 h2
      cases z
      rw [k1] at k3;cases k3
      exact ih k2 k4
     |fld f'=>
      obtain⟨C2,ns2,ys,m1,x1,rfl,k0,k1,k2⟩:=zh0 h1
      obtain⟨_,_,_,m2,x2,z,k5,k3,k4⟩:=zh0 h2
      cases z
      rw [k0] at k5;cases k5
      rw [k1] at k3;cases k3
      exact ih k2 k4
   obtain⟨n,d',k1,k2⟩:=key e5 eg
   obtain⟨l,dx,fs,g,rfl,hl,hn,hr,_⟩:=rd.objT_inv
   subst hn
   obtain⟨v1,f1,k3,_⟩:=hr.get k2
   exact⟨l,U C',dx,fs,v1,rfl,hl,hc,hna,sY k1 k3,q _ H1 v0 s1 ev (At.snoc_fld hl k1 k3 a1)⟩
  ·cases e6
def dI(j:Nat)(pf:PSt->Option (List Ps1))(g:tz3)(h:List D->D->Option (D×D)):tz8:=fun ps=>((ps[j]?).join).bind fun d0=>(pf ps).bind fun p=>(g ps).bind fun ys=>(fY (h ys) d0 p).bind fun r=>some (r.1,ps.set j (some r.2))
theorem zH(e:dI j pf g h ps=some (d,ps')):∃d0 p ys d0',ps[j]? =some (some d0)/\pf ps=some p/\g ps=some ys/\fY (h ys) d0 p=some (d,d0')/\ps'=ps.set j (some d0'):=by
 obtain⟨d0,e1,e2⟩:=bind_some e
 obtain⟨p,e3,e4⟩:=bind_some e2
 obtain⟨ys,e5,e6⟩:=bind_some e4
 obtain⟨⟨r,d0'⟩,e7,e8⟩:=bind_some e6
 cases e8
 exact⟨d0,p,ys,d0',join_some e1,e3,e5,e7,rfl⟩
def eR:List D->D->Option (D×D)
 |[y],.lst true xs=>if xs.length<sizeLine then some (.non,.lst true (xs++[y])) else none
 |_,_=>none
theorem zI(h:eR ys d=some (r,d')):∃y xs,ys=[y]/\d= .lst true xs/\xs.length<sizeLine/\r= .non/\d'= .lst true (xs++[y]):=by
 unfold eR at h
 split at h
 ·obtain⟨hc,e⟩:=bU h
  cases e
  exact⟨_,_,rfl,rfl,hc,rfl,rfl⟩
 ·cases h
theorem zq4(w:WS K U H σ ps)(s1:SameK H H1)(e0:ps[j]? =some (some d0))(ev:σ[j]? =some (some v0))(g:kM d0 p=some d)(a:At H1 v0 p v):∃fd,Rep K U H1 v d fd:=by
 obtain⟨v0',fp,h1,h2⟩:=w j d0 e0
 rw [ev] at h1;cases h1
 exact zh1 (h2.same s1) g a
theorem nY(hb:φ.bor j=false)(ho:PE X o (oS X.K U j pf))(ha:PA X [e] (tPA X.K U g))
  (hbase:attributeBase o "append" X.env (eval o X.env)=eval o X.env:=by rfl)
  (hfew:((backTo pos (starEach [e] X.env)).all (fun x=> !x.1)&&(backToKw pos (keywordEach [] X.env)).all (fun x=>x.1.isSome)
   &&decide ([e].length+([]:List Keyword).length+(if ([]:List Keyword).isEmpty then 0 else 1)<30))=true:=by rfl)
  (hline:(apos.endLine==pos.line)=true:=by rfl) (hs:starEach [e] X.env=(false,eval e X.env)::starEach [] X.env:=by rfl) (hplain:(backTo pos (starEach [] X.env)).any (·.1)=false:=by rfl):
  QE X U φ (.Call (.Attribute o "append" apos) [e] [] pos) (dI j pf g eR):=
 (xt4 W1 PySem.F.slot_list_append PySem.F.type_list_append zt7 ho ha hbase hfew hline hs hplain).imp fun σ H Q hh_=>by
  obtain⟨ps,F,d,ps',R,e,q⟩:=hh_
  obtain⟨d0,p,ys,d0',e0,ep,eg,em,rfl⟩:=zH e
  obtain⟨dd,dn,gp,hh⟩:=nU em
  refine⟨ps,p,d0,dd,R.ws,e0,ep,gp,fun v H1 v0 s1 ev a1=>⟨?_,ps,ys,R.ws.same s1,eg,fun vs H2 fy s2 n2 nd2 r2=> ?_⟩⟩
  ·obtain⟨y,xs,rfl,rfl,_⟩:=zI hh
   obtain⟨fd,rd⟩:=zq4 R.ws s1 e0 ev gp a1
   obtain⟨_,_,_,rfl,hl,hr,rfl⟩:=rd.lstT_inv
   exact .inl ⟨rfl,_,.inl (.inl hl)⟩
  ·obtain⟨d1,d1',fd,m1,m2,m3,m4,m5⟩:=vS R (s1.trans s2) hb e0 ev em (a1.same s2)
   obtain⟨y,xs,rfl,rfl,hz,rfl,rfl⟩:=zI m2
   obtain⟨u,rfl,ru⟩:=r2.one_inv
   obtain⟨l,us,g1,rfl,hl,hr,rfl⟩:=m1.lstT_inv
   have ln:=hr.length
   refine⟨l,us,u,rfl,rfl,hl,by omega,?_⟩
   have nl:l∉fy:=fun z=>by have:=n2 l z;have:=s1.keep l;obtain⟨o,h1,h2,_⟩:=R.own (m4 l Z0);have:=s1.keep l o h1 h2;rw [n2 l z] at this;cases this
   obtain⟨nl2,nd3⟩:=Zs.mp m3
   have up:∀a,a≠l->upd H2 l (.lst (us++[u])) a=H2 a:=fun a h=>bI h
   have tfk:∀a o,H2 a=some o->tf o=true->upd H2 l (.lst (us++[u])) a=some o:=fun a o h t=>by
    rw [up a]
    ·exact h
    ·rintro rfl;rw [hl] at h;cases h;cases t
   obtain⟨F',st,ow⟩:=m5 (upd H2 l (.lst (us++[u]))) (l::(g1++fy)) [] (fun a o h _ hn=>by rw [up a (fun z=>hn (z▸Z0))];exact h)
    (fun a h=>by
     by_cases z:a=l
     ·subst z;rw [cV] at h;cases h
     ·rw [up a z] at h;exact h)
    (.lst cV (Reps.append (hr.move tfk fun a ha=>up a fun z=>nl2 (z▸ha)) (Reps.one (ru.move tfk fun a ha=>up a fun z=>nl (z▸ha)))))
    (by
     rw [Zj,Zs,ZC]
     refine⟨fun z=>(Zn.mp z).elim nl2 nl,nd3,nd2,fun a ha b hb e=> ?_⟩
     subst e
     obtain⟨o,h1,h2,_⟩:=R.own (m4 a (Z1 _ ha))
     have:=s1.keep a o h1 h2
     rw [n2 a hb] at this;cases this)
    (fun a ha=>by
     rw [Zj] at ha
     rcases Z4.mp ha with z|z
     ·exact .inl (z▸Z0)
     ·rcases Zn.mp z with z|z
      ·exact .inl (Z1 _ z)
      ·exact .inr (s1.grow a (n2 a z)))
   exact q .non _ F' [] st ow .non
end
section
variable{K:tz0}{U:tz9}{H:Hp}{l:Addr}{o0 o:HO}
theorem xc9(hl:H l=some o0)(ht:tf o0=false):∀a u,H a=some u->tf u=true->upd H l o a=some u:=fun a u h t=>by
 rw [bI]
 ·exact h
 ·rintro rfl;rw [hl] at h;cases h;rw [ht] at t;cases t
theorem Rep.updL(r:Rep K U H v d g)(hl:H l=some o0)(ht:tf o0=false)(n:l∉g):Rep K U (upd H l o) v d g:=r.move (xc9 hl ht) fun a ha=>bI fun z=>n (z▸ha)
theorem Reps.updL(r:Reps K U H v d g)(hl:H l=some o0)(ht:tf o0=false)(n:l∉g):Reps K U (upd H l o) v d g:=r.move (xc9 hl ht) fun a ha=>bI fun z=>n (z▸ha)
theorem wV(h:H a=some u)(n:a∉l::g):upd H l o a=some u:=by
 rw [bI (fun z=>n (by rw [z];exact Z0))];exact h
theorem pL(h:upd H l o a=none):H a=none:=by
 by_cases z:a=l
 ·subst z;rw [cV] at h;cases h
 ·rw [bI z] at h;exact h
theorem Reps.pop:∀{vs:List V} {ds:List D} {g:List Addr} {d:D},Reps K U H vs ds g->ds[ds.length-1]? =some d->∃v g1 f,vs[vs.length-1]? =some v/\Rep K U H v d f/\Reps K U H vs.dropLast ds.dropLast g1/\g=g1++f
 |_,_,_,_,.nil,e=>by simp at e
 |_,[d1],_,d,.cons (f:=f) h .nil,e=>by
  have e':d1=d:=by simpa using e
  subst e'
  exact⟨_,[],f,by simp,h,.nil,by simp⟩
 |v::v2::vs,d1::d2::ds,_,d,.cons (f:=f) h (.cons (f:=f2) (g:=g2) h2 hs),e=>by
  obtain⟨w,g1,f',k1,k2,k3,k4⟩:=Reps.pop (.cons h2 hs) (d:=d) (by simpa using e)
  refine⟨w,f++g1,f',by simpa using k1,k2,?_,by rw [Zl,<-k4]⟩
  rw [Wn,Wn]
  exact .cons h k3
theorem Reps.setV:∀{vs:List V} {ds:List D} {g:List Addr} {n:Nat} {v':V} {d':D} {f':List Addr},Reps K U H vs ds g->n<ds.length->Rep K U H v' d' f'->∃f1 rest g',g.Perm (f1++rest)/\Reps K U H (vs.set n v') (ds.set n d') g'/\g'.Perm (f'++rest)
 |_,_,_,_,_,_,_,.nil,e,_=>by simp at e
 |_,_,_,0,_,_,f',.cons (f:=f) (g:=g) h hs,_,r=>⟨f,g,f'++g,.refl _,.cons r hs,.refl _⟩
 | _,_,_,n+1,_,_,f',.cons (f:=f) (g:=g) h hs,e,r=>by
  obtain⟨f1,rest,g',h1,h2,h3⟩:=Reps.setV (n:=n) hs (by simpa using e) r
  refine⟨f1,f++rest,f++g',?_,.cons h h2,?_⟩
  ·refine(h1.append_left f).trans ?_
   rw [<-Zl,<-Zl]
   exact YE.append_right rest
  ·refine(h3.append_left f).trans ?_
   rw [<-Zl,<-Zl]
   exact YE.append_right rest
end
section
variable{X:Cx}{φ:F0}{U:tz9}{K:tz0}{o e a b:Expr}{f fi fe:tz2}{g:tz3}{pf:PSt->Option (List Ps1)}{j:Nat}{pos apos:Pos}
def vI:List D->D->Option (D×D)
 |[],.lst true xs=>(xs[xs.length-1]?).bind fun y=>some (y,.lst true xs.dropLast)
 |_,_=>none
theorem zu7(h:vI ys d=some (r,d')):∃xs,ys=[]/\d= .lst true xs/\xs[xs.length-1]? =some r/\d'= .lst true xs.dropLast:=by
 unfold vI at h
 split at h
 ·obtain⟨y,h1,h2⟩:=bind_some h
  cases h2
  exact⟨_,rfl,rfl,h1,rfl⟩
 ·cases h
theorem wg1(hb:φ.bor j=false)(ho:PE X o (oS X.K U j pf))
  (hbase:attributeBase o "pop" X.env (eval o X.env)=eval o X.env:=by rfl) (hline:(apos.endLine==pos.line)=true:=by rfl):QE X U φ (.Call (.Attribute o "pop" apos) [] [] pos) (dI j pf aE vI):=
 (we5 W1 PySem.F.slot_list_pop PySem.F.type_list_pop we6 ho hbase hline).imp fun σ H Q hh_=>by
  obtain⟨ps,F,d,ps',R,e,q⟩:=hh_
  obtain⟨d0,p,ys,d0',e0,ep,eg,em,rfl⟩:=zH e
  cases eg
  obtain⟨dd,dn,gp,hh⟩:=nU em
  refine⟨ps,p,d0,dd,R.ws,e0,ep,gp,fun v H1 v0 s1 ev a1=>⟨?_,?_⟩⟩
  ·obtain⟨xs,_,rfl,_⟩:=zu7 hh
   obtain⟨fd,rd⟩:=zq4 R.ws s1 e0 ev gp a1
   obtain⟨_,_,_,rfl,hl,hr,rfl⟩:=rd.lstT_inv
   exact .inl ⟨rfl,_,.inl (.inl hl)⟩
  ·obtain⟨d1,d1',fd,m1,m2,m3,m4,m5⟩:=vS R s1 hb e0 ev em a1
   obtain⟨xs,_,rfl,hx,rfl⟩:=zu7 m2
   obtain⟨l,us,g1,rfl,hl,hr,rfl⟩:=m1.lstT_inv
   obtain⟨u,g2,f2,k1,k2,k3,rfl⟩:=hr.pop hx
   obtain⟨nl,nd3⟩:=Zs.mp m3
   have n1:l∉g2:=fun z=>nl (Zi _ z)
   have n2:l∉f2:=fun z=>nl (Z8 _ z)
   refine⟨l,us,u,rfl,rfl,hl,k1,?_⟩
   obtain⟨F',st,ow⟩:=m5 (upd H1 l (.lst us.dropLast)) (l::g2) f2 (fun a o h _ hn=>wV h hn)
    (fun a h=>pL h)
    (.lst cV (k3.updL hl rfl n1)) (by rw [ZU,Zs];exact⟨nl,nd3⟩) (fun a ha=> .inl ha)
   exact q u _ F' f2 st ow (k2.updL hl rfl n2)
def gV:D->D->D->Option (Unit×D)
 | .int i,y,.lst true xs=>(ixN xs.length i).bind fun n=>some ((),.lst true (xs.set n y))
 |_,_,_=>none
def dW(j:Nat)(pf:PSt->Option (List Ps1))(fi fe:tz2):tz1:=fun ps=>(fe ps).bind fun y=>((ps[j]?).join).bind fun d0=>(pf ps).bind fun p=>(fi ps).bind fun i=>(fY (gV i y) d0 p).bind fun r=>some (.nx,ps.set j (some r.2))
theorem yk5(h:gV i y d=some (r,d')):∃k xs n,i= .int k/\d= .lst true xs/\ixN xs.length k=some n/\d'= .lst true (xs.set n y):=by
 unfold gV at h
 split at h
 ·obtain⟨n,h1,h2⟩:=bind_some h
  cases h2
  exact⟨_,_,n,rfl,rfl,h1,rfl⟩
 ·cases h
theorem sZ(hb:φ.bor j=false)(he:PE X e (tP X.K U fe))(ho:PE X o (oS X.K U j pf))(hi:PE X i (tV X.K U fi))(hs:swapsWithSole [.Subscript o i apos] e pos.line X.env=pure false:=by rfl)(hw:swappedStores [.Subscript o i apos] e X.env=pure none:=by rfl)
  (h1:(assignEach [.Subscript o i apos] X.env).map (·.2)=[assign (.Subscript o i apos) X.env]:=by rfl)
  (ha:∀v,assign (.Subscript o i apos) X.env v=(do
   let ov<-holding [v] (eval o X.env)
   let iv<-holding [v,ov] (eval i X.env)
   standAt apos
   holding [v,ov,iv] (setItem ov iv v)
   release [v,ov,iv] []):=by intro _;rfl):QS X U φ (.Assign [.Subscript o i apos] e pos) (dW j pf fi fe):=
 (yz4 he (wd3 ho hi xl9 ha) hs hw h1).imp fun E σ H hh_=>by
  obtain⟨ps,F,fl,ps',R,e,q⟩:=hh_
  obtain⟨y,e1,e2⟩:=bind_some e
  obtain⟨d0,e3,e4⟩:=bind_some e2
  have e0:=join_some e3
  obtain⟨p,e5,e6⟩:=bind_some e4
  obtain⟨iv,e7,e8⟩:=bind_some e6
  obtain⟨⟨r,d0'⟩,em,e9⟩:=bind_some e8
  cases e9
  obtain⟨dd,dn,gp,hh⟩:=nU em
  refine⟨ps,y,R.ws,e1,fun v H1 fy s1 n1 nd1 ry=>⟨ps,p,d0,dd,R.ws.same s1,e0,e5,gp,fun lv H2 v0 s2 ev a2=>⟨ps,iv,(R.ws.same s1).same s2,e7,fun u H3 fu s3 r3=> ?_⟩⟩⟩
  have s13:=(s1.trans s2).trans s3
  obtain⟨d1,d1',fd,m1,m2,m3,m4,m5⟩:=vS R s13 hb e0 ev em (a2.same s3)
  obtain⟨k,xs,n,rfl,rfl,hn,rfl⟩:=yk5 m2
  obtain⟨l,us,g1,rfl,hl,hr,rfl⟩:=m1.lstT_inv
  have ln:=hr.length
  have ry3:=(ry.same s2).same s3
  obtain⟨nl,nd3⟩:=Zs.mp m3
  have own0:∀a∈l::g1,H a≠none:=fun a ha z=>by obtain⟨o,h,_⟩:=R.own (m4 a ha);rw [z] at h;cases h
  have nl2:l∉fy:=fun z=>own0 l Z0 (n1 l z)
  obtain⟨f1,rest,g2,k1,k2,k3⟩:=hr.setV (n:=n) (zc4 hn).2.1 ry3
  have mem2:∀a∈g2,a∈fy\/a∈g1:=fun a ha=>(Zn.mp (k3.mem_iff.mp ha)).elim .inl fun z=> .inr (k1.mem_iff.mpr (Z8 _ z))
  have n2:l∉g2:=fun z=>(mem2 l z).elim nl2 nl
  refine⟨l,us,k,n,rfl,r3.is_int,hl,by rw [ln];exact hn,?_⟩
  obtain⟨F',st,ow⟩:=m5 (upd H3 l (.lst (us.set n v))) (l::g2) [] (fun a o h _ hn=>wV h hn)
   (fun a h=>pL h)
   (.lst cV (k2.updL hl rfl n2))
   (by
    rw [Zj,Zs]
    refine⟨n2,k3.nodup_iff.mpr (ZC.mpr ⟨nd1,?_,fun a ha b hb e=> ?_⟩)⟩
    ·exact(ZC.mp (k1.nodup_iff.mp nd3)).2.1
    ·subst e
     exact own0 a (Z1 _ (k1.mem_iff.mpr (Z8 _ hb))) (n1 a ha))
   (fun a ha=>by
    rw [Zj] at ha
    rcases Z4.mp ha with z|z
    ·exact .inl (by rw [z];exact Z0)
    ·exact(mem2 a z).elim (fun z=> .inr (n1 a z)) fun z=> .inl (Z1 _ z))
  exact q _ _ F' st
end
section
variable{φ:Fx}{H H1:Hp}{σ σ1:St}{ps ps1:PSt}{F F1:Nat->List Addr}
theorem Stp.set'(s1:Stp φ σ H F σ1 H1 ps1 F1)(o:OwnV F H F1 fv)(R:RS φ H σ ps F)(r:Rep φ.K φ.U H1 v d fv)(hb:φ.bor i=false\/fv=[])(hm:φ.M i=false):
  ∃F',Stp φ σ H F (σ1.set i (some v)) H1 (ps1.set i (some d)) F'/\∀k a,a∈F' k->a∈fv\/a∈F1 k:=by
 refine⟨_,⟨s1.fr,fun j a h=> ?_,s1.rs.set r hb (fun j _=>o.dis j) o.nd fun a ha=>R.notB (o.nw a ha),fun j h=> ?_⟩,fun k a h=> ?_⟩
 ·rcases kG h with z|z
  ·by_cases k:i<ps1.length
   ·rw [if_pos k] at z;exact o.nw a z
   ·rw [if_neg k] at z;exact absurd z (by simp)
  ·exact s1.nw j a z
 ·rw [Zu (fun z=>by subst z;rw [hm] at h;cases h)]
  exact s1.msk j h
 ·rcases kG h with z|z
  ·by_cases k:i<ps1.length
   ·rw [if_pos k] at z;exact .inl z
   ·rw [if_neg k] at z;exact absurd z (by simp)
  ·exact .inr z
def setN:St->List Nat->List V->St
 |σ,i::is,v::vs=>setN (σ.set i (some v)) is vs
 |σ,_,_=>σ
def vJ:PSt->List Nat->List D->PSt
 |ps,i::is,d::ds=>vJ (ps.set i (some d)) is ds
 |ps,_,_=>ps
def wI:List Nat->TGs
 |[]=>wj4
 |i::is=>xu4 (yA i) (wI is)
theorem uH:∀{is:List Nat} {vs:List V} {σ:St},vs.length=is.length->Q (setN σ is vs) H->wI is vs σ H Q
 |[],[],σ,_,q=>⟨rfl,q⟩
 |i::is,v::vs,σ,h,q=>⟨v,vs,rfl,uH (is:=is) (by simpa using h) q⟩
 |[],_::_,_,h,_=>by simp at h
 |_::_,[],_,h,_=>by simp at h
theorem Stp.setN(R:RS φ H σ ps F):∀{is:List Nat} {vs:List V} {ds:List D} {g:List Addr} {σ1:St} {ps1:PSt} {F1:Nat->List Addr},Stp φ σ H F σ1 H1 ps1 F1->OwnV F H F1 g->Reps φ.K φ.U H1 vs ds g->(∀i∈is,φ.bor i=false/\φ.M i=false)->
  ∃F',Stp φ σ H F (L2.setN σ1 is vs) H1 (vJ ps1 is ds) F':=by
 intro is
 induction is with
 |nil=>intro vs ds g σ1 ps1 F1 s _ _ _;exact⟨F1,by simpa [L2.setN,vJ] using s⟩
 | cons i is ih=>
  intro vs ds g σ1 ps1 F1 s o r hi
  cases ds with
  |nil=>cases r;exact⟨F1,by simpa [L2.setN,vJ] using s⟩
  |cons d ds=>
   obtain⟨v,us,f,g',rfl,h,hs,rfl⟩:=r.split
   obtain⟨nd1,nd2,nd3⟩:=ZC.mp o.nd
   obtain⟨F2,s2,hF⟩:=s.set' (i:=i) (fv:=f) ⟨fun a ha=>o.nw a (Zi _ ha),nd1,fun k a ha hf=>o.dis k a ha (Zi _ hf)⟩ R h (.inl (hi i Z0).1) (hi i Z0).2
   refine ih s2 ⟨fun a ha=>o.nw a (Z8 _ ha),nd2,fun k a ha hg=> ?_⟩ hs fun k hk=>hi k (Z1 _ hk)
   rcases hF k a ha with z|z
   ·exact nd3 a z a hg rfl
   ·exact o.dis k a z (Z8 _ hg)
end
def yi1:D->Option (List D)
 | .lst _ ds=>some ds
 | .tup ds=>some ds
 |_=>none
def za8(is:List Nat)(f:tz8):tz1:=fun ps=>(f ps).bind fun r=>(yi1 r.1).bind fun ds=>if ds.length=is.length then some (.nx,vJ r.2 is ds) else none
section
variable{X:Cx}{U:tz9}{φ:F0}{es:List Expr}{pos p:Pos}{k:Nat}{is:List Nat}{e:Expr}{f:tz8}
theorem xd0(hc:X.calm=true)(h:PGs X es t)
  (hn:(assignEach es X.env).length=n:=by rfl) (hst:(assignEach es X.env).findIdx? (·.1)=none:=by rfl):PG X (.Tuple es k pos) (fun v σ H Q=>xs1 X.K n t v σ H Q\/xr6 X.K n t v σ H Q):=⟨by
 intro pins s σ H v u Q I r hw
 rcases hw with hw|hw
 ·exact wf4 hc h hn hst pins s σ H v u Q I r hw
 ·exact wd2 hc h hn hst pins s σ H v u Q I r hw⟩
theorem xd1(hc:X.calm=true)(hg:PGs X es (wI is))(he:QE X U φ e f)(hb:∀i∈is,φ.bor i=false/\φ.M i=false)(hn:(assignEach es X.env).length=is.length:=by rfl)(hst:(assignEach es X.env).findIdx? (·.1)=none:=by rfl)
  (hs:swapsWithSole [.Tuple es k p] e pos.line X.env=pure false:=by rfl) (hw:swappedStores [.Tuple es k p] e X.env=pure none:=by rfl)
  (h1:(assignEach [.Tuple es k p] X.env).map (·.2)=[assign (.Tuple es k p) X.env]:=by rfl):QS X U φ (.Assign [.Tuple es k p] e pos) (za8 is f):=
 (yz4 he (xd0 (n:=is.length) hc hg hn hst) hs hw h1).imp fun E σ H hh_=>by
  obtain⟨ps,F,fl,ps',R,e,q⟩:=hh_
  obtain⟨⟨d,ps1⟩,e1,e2⟩:=bind_some e
  obtain⟨ds,e3,e4⟩:=bind_some e2
  obtain⟨hl,e5⟩:=bU e4
  cases e5
  refine⟨ps,F,d,ps1,R,e1,fun v H' F' fv s o r=> ?_⟩
  cases d with
  |lst ow xs=>
   cases e3
   obtain⟨a,vs,g,rfl,h,hs,sub⟩:=r.lst_inv
   have ln:=hs.length
   obtain⟨F2,s2⟩:=Stp.setN R s ⟨fun a ha=>o.nw a (sub.subset ha),o.nd.sublist sub,fun k a ha hg=>o.dis k a ha (sub.subset hg)⟩ hs hb
   exact .inl ⟨a,vs,rfl,.inl h,by omega,uH (by omega) (q _ _ F2 s2)⟩
  |tup xs=>
   cases e3
   obtain⟨a,vs,rfl,h,hs⟩:=r.tup_inv
   have ln:=hs.length
   obtain⟨F2,s2⟩:=Stp.setN R s ⟨fun a ha=>absurd ha (by simp),Zm,fun k a ha hg=>absurd hg (by simp)⟩ hs hb
   exact .inr ⟨a,vs,rfl,h,by omega,uH (by omega) (q _ _ F2 s2)⟩
  |_=>cases e3
end
def D.key:D->Option Key
 | .int i=>some (.inl i)
 | .str x=>some (.inr x)
 |_=>none
theorem zq5{K:tz0}{U:tz9}{H:Hp}{v:V}{d:D}{fp:List Addr}{k:Key}(r:Rep K U H v d fp)(h:d.key=some k):v=kV k:=by
 cases r<;>first|(cases h;rfl)|cases h
def oU:List Key->List D->Key->Option D
 |k::ks,d::ds,j=>if k=j then some d else oU ks ds j
 |_,_,_=>none
def gW:D->D->Option D
 | .dic _ ks ds,y=>y.key.bind fun k=>oU ks ds k
 |_,_=>none
theorem yc6{K:tz0}{U:tz9}{H:Hp}:∀{kvs:List (Key×V)} {ks:List Key} {ds:List D} {g:List Addr} {k:Key} {d:D},kvs.map (·.1)=ks->Reps K U H (kvs.map (·.2)) ds g->oU ks ds k=some d->∃v f,pP kvs k=some v/\Rep K U H v d f/\f.Sublist g
 |[],_,_,_,_,_,e,r,h=>by subst e;cases r;cases h
 | (k0,v0)::kvs,_,_,_,k,d,e,.cons (f:=f) (g:=g) h hs,q=>by
  subst e
  rw [Z9,oU] at q
  by_cases z:k0=k
  ·rw [if_pos z] at q
   cases q
   exact⟨v0,f,sV z,h,XW _ _⟩
  ·rw [if_neg z] at q
   obtain⟨v,f',q1,q2,q3⟩:=yc6 rfl hs q
   exact⟨v,f',by rw [sW z];exact q1,q2,q3.trans (XR _ _)⟩
theorem Rep.dic_inv{K:tz0}{U:tz9}{H:Hp}{v:V}{o:Bool}{ks:List Key}{ds:List D}{fp:List Addr}(r:Rep K U H v (.dic o ks ds) fp):∃a kvs g,v= .ref a/\Rd H a (.dK kvs)/\kvs.map (·.1)=ks/\Reps K U H (kvs.map (·.2)) ds g/\g.Sublist fp:=by
 cases r with
 |dic h e hs=>exact⟨_,_,_,rfl,.inl h,e,hs,X1 _ _⟩
 |dicF h e hs=>exact⟨_,_,_,rfl,.inr ⟨_,h⟩,e,hs,.refl _⟩
section
variable{X:Cx}{U:tz9}{a b:Expr}{fa fb:tz2}{pos:Pos}
theorem xx4{K:tz0}{H:Hp}{x y:V}{dx dy d:D}{fx fy:List Addr}{Q:VK}(r1:Rep K U H x dx fx)(r2:Rep K U H y dy fy)(e:gW dx dy=some d)(q:∀v f,Rep K U H v d f->f.Sublist fx->Q v H):∃a v,x= .ref a/\zs6 H a y (some v)/\Q v H:=by
 cases dx with
 |dic o ks ds=>
  obtain⟨k,e1,e2⟩:=bind_some e
  obtain⟨a,kvs,g,rfl,h,hk,hs,sub⟩:=r1.dic_inv
  obtain⟨v,f,q1,q2,q3⟩:=yc6 hk hs e2
  exact⟨a,v,rfl,.inl ⟨kvs,k,h,zq5 r2 e1,q1.symm⟩,q v f q2 (q3.trans sub)⟩
 |_=>cases e
theorem sM(hu:X.A.units+1<cLine)(ha:QV X U a fa)(hb:QV X U b fb)(hs:xs0 b:=by exact fun _ _=>rfl):QV X U (.Subscript a b pos) (f2 gW fa fb):=
 (xw8 hu ha hb hs).imp fun σ H Q hh_=>by
  obtain⟨ps,d,w,e,q⟩:=hh_
  obtain⟨x,y,e1,e2,e3⟩:=vQ e
  exact⟨ps,x,w,e1,fun v H1 fp s1 r1=>⟨ps,y,w.same s1,e2,fun u H2 fq s2 r2=>xx4 (r1.same s2) r2 e3 fun v f r _=>q v H2 f (s1.trans s2) r⟩⟩
end
def fxE(K:tz0)(U:tz9)(np:Nat)(m:Nat->Bool):Fx:=⟨K,U,fun i=>decide (i<np)&& !m i,m,fun _ _=>False⟩
def f0E(np:Nat)(m:Nat->Bool):F0:=⟨fun i=>decide (i<np)&& !m i,m,fun _ _=>False⟩
def SpE(np:Nat)(K:tz0)(U:tz9)(m:Nat->Bool)(g:tz7):Sp:=fun vs H Q _=>vs.length=np/\∃ds r ds' F,ds.length=np/\RS (fxE K U np m) H (vs.map some) (ds.map some) F/\g ds=some (r,ds')/\
 ∀v H' F' fv,Stp (fxE K U np m) (vs.map some) H F (vs.map some) H' (ds'.map some) F'->OwnV F H F' fv->Rep K U H' v r fv->Q v H'
def yC(m:Nat->Bool)(ps:PSt):Nat->List D->Option (List D)
 |_,[]=>some []
 |i,d::ds=>(if m i=true then(ps[i]?).join else some d).bind fun d'=>(yC m ps (i+1) ds).bind fun ds'=>some (d'::ds')
theorem zu8:∀{ds ds':List D} {i:Nat},yC m ps i ds=some ds'->ds'.length=ds.length/\∀(k:Nat) (d':D),ds'[k]? =some d'->(m (i+k)=true->ps[i+k]? =some (some d'))/\(m (i+k)=false->ds[k]? =some d')
 |[],_,_,e=>by cases e;exact⟨rfl,fun k d' h=>by simp at h⟩
 | d::ds,_,i,e=>by
  obtain⟨d1,e1,e2⟩:=bind_some e
  obtain⟨ds1,e3,e4⟩:=bind_some e2
  cases e4
  obtain⟨l,h⟩:=zu8 e3
  refine⟨by simp [l],fun k d' hk=> ?_⟩
  cases k with
  |zero=>
   simp at hk;subst hk
   refine⟨fun z=> ?_,fun z=> ?_⟩
   ·rw [Xq] at z|-;rw [if_pos z] at e1;exact join_some e1
   ·rw [Xq] at z;rw [if_neg (by rw [z];simp)] at e1;simpa using e1
  |succ k=>
   obtain⟨h1,h2⟩:=h k d' (by simpa using hk)
   have ea:i+(k+1)=i+1+k:=by omega
   rw [ea]
   exact⟨h1,fun z=>by simpa using h2 z⟩
def gE(np n:Nat)(m:Nat->Bool)(f:tz1):tz7:=fun ds=>if ds.length=np then(f (ds.map some++List.replicate n none)).bind fun r=>match r with
 |(.ret d,ps)=>(yC m ps 0 ds).bind fun ds'=>some (d,ds')
 |(.nx,ps)=>(yC m ps 0 ds).bind fun ds'=>some (.non,ds')
 |_=>none
 else none
theorem RS.more(R:RS φ H σ ps F)(hl:ps.length=σ.length)(h2:n<=σ2.length):RS φ H (σ++σ2) (ps++List.replicate n none) F:=by
 refine⟨fun i d h=> ?_,fun i a h=> ?_,R.dis,R.nd,R.nb,R.bt,by simp [hl];omega⟩
 ·by_cases hi:i<ps.length
  ·rw [ZO hi] at h
   rw [ZO (by omega)]
   exact R.rep i d h
  ·rw [YO (by omega),Yv] at h
   split at h<;>cases h
 ·obtain⟨b,d,e⟩:=R.emp i a h
  have hi:=(Z5.mp e).1
  exact⟨b,d,by rw [ZO hi];exact e⟩
theorem yc7{K:tz0}{U:tz9}{np n:Nat}{m:Nat->Bool}{H H':Hp}{vs:List V}{σ2 σ':St}{ds ds':List D}{ps':PSt}{F F':Nat->List Addr}{fv:List Addr}(hm:∀i,m i=true->i<np)(hl:vs.length=np)(hd:ds.length=np)(R:RS (fxE K U np m) H (vs.map some) (ds.map some) F)
  (s:Stp (fxE K U np m) (vs.map some++σ2) H F σ' H' ps' F') (o:OwnV F H F' fv) (e:yC m ps' 0 ds=some ds'):
  ∃F2,Stp (fxE K U np m) (vs.map some) H F (vs.map some) H' (ds'.map some) F2/\OwnV F H F2 fv:=by
 obtain⟨l,ho⟩:=zu8 e
 have sub:∀i a,a∈(if m i=true then F' i else [])->m i=true/\a∈F' i:=fun i a h=>by
  by_cases z:m i=true
  ·rw [if_pos z] at h;exact⟨z,h⟩
  ·rw [if_neg z] at h;exact absurd h (by simp)
 have tfk:∀a u,H a=some u->tf u=true->H' a=some u:=fun a u h t=>s.fr.keep a u h (nS t) fun i hi=>by
  obtain⟨u',h',_,t'⟩:=R.own hi
  rw [h] at h';cases h';rw [t] at t';cases t'
 have mb:∀i,m i=true->(fxE K U np m).bor i=false:=fun i h=>by simp [fxE,h]
 refine⟨fun i=>if m i=true then F' i else [],⟨s.fr,fun i a h=>s.nw i a (sub i a h).2,⟨fun i d h=> ?_,fun i a h=> ?_,fun i j a h1 h2=>s.rs.dis i j a (sub i a h1).2 (sub j a h2).2,fun i=> ?_,fun i a h=>s.rs.nb i a (sub i a h).2,fun _ a h=>h.elim,by simp [l,hl,hd]⟩,fun _ _=>rfl⟩,⟨o.nw,o.nd,fun i a h=>o.dis i a (sub i a h).2⟩⟩
 ·rw [Ze] at h
  cases q:ds'[i]? with
  |none=>rw [q] at h;cases h
  | some d1=>
   rw [q] at h;cases h
   obtain⟨h1,h2⟩:=ho i d q
   rw [YM] at h1 h2
   by_cases z:m i=true
   ·obtain⟨v,fp,k1,k2,k3,_⟩:=s.rs.rep i d (h1 z)
    refine⟨v,fp,?_,k2,fun _=>by rw [if_pos z];exact k3 (mb i z),fun w=>by rw [mb i z] at w;cases w⟩
    rw [<-k1]
    have:=s.msk i z
    rw [this,ZO (by simp [hl];exact hm i z)]
   ·have zf:m i=false:=by simpa using z
    have hi:(ds.map some)[i]? =some (some d):=by rw [Ze,h2 zf];rfl
    have hib:(fxE K U np m).bor i=true:=by
     have:=(Z5.mp (h2 zf)).1
     simp [fxE,zf];omega
    obtain⟨v,fp,k1,k2,_,k4⟩:=R.rep i d hi
    have efp:fp=[]:=by
     cases fp with
     |nil=>rfl
     |cons a r=>exact(k4 hib a Z0).elim
    subst efp
    exact⟨v,[],k1,k2.move tfk (fun a ha=>absurd ha (by simp)),(fun w=>by rw [hib] at w;cases w),(fun _ a ha=>absurd ha (by simp))⟩
 ·obtain⟨z,h⟩:=sub i a h
  refine⟨mb i z,?_⟩
  have hi:i<ds'.length:=by rw [l,hd];exact hm i z
  exact⟨ds'[i],by rw [Ze,Zp hi];rfl⟩
 ·by_cases z:m i=true
  ·rw [if_pos z];exact s.rs.nd i
  ·rw [if_neg z];exact Zm
section
variable{P:Program}{w:World}{K:tz0}{mg:tzA}{base:Heap}{U:tz9}
theorem lI{x qual:Str}{st:Stmt}{f:Addr}{fd:FuncData}{N ps:List Str}{k:Nat}{fb:tz1}{m:Nat->Bool}(F:Fun K x qual st f fd)(S:FnScope N ps (aS st))(hm:∀i,m i=true->i<ps.length)
  (hbody:∀(cdv:Value) (A:Around) (outer:List Env) (s:Shared) (H:Hp) (E:XK),Room k (A.deeper (envOfC qual (aS st) s.heap.objs.size f cdv))->
   QSs (iT CX0 P w K mg base N qual (aS st) f cdv A outer s H E).nox U (f0E ps.length m) (mU st) fb):
  FnOk P w K mg base CX0 (k+1) f fd ps (SpE ps.length K U m (gE ps.length (N.length-ps.length) m fb)):=by
 refine F.ok S (fun vs H Q E h=>h.1) fun cdv A outer s H vs Q E hr ⟨hl,ds,r,ds',F0,hd,R,e,q⟩=>⟨_,hbody cdv A outer s H E hr,?_⟩
 have hn:ps.length<=N.length:=by have:=ZN List.length S.pre;rw [YG] at this;omega
 unfold gE at e
 obtain⟨_,e0⟩:=bU e
 obtain⟨⟨fl,ps'⟩,e1,e2⟩:=bind_some e0
 have R0:=R.more (σ2:=List.replicate (N.length-vs.length) none) (n:=N.length-ps.length) (by simp [hl,hd]) (by simp [hl])
 refine⟨_,F0,fl,ps',R0,e1,?_⟩
 cases fl with
 | ret d'=>
  obtain⟨ds1,e3,e4⟩:=bind_some e2
  cases e4
  exact fun v σ' H' F' fv s o rv=>by
   obtain⟨F2,s2,o2⟩:=yc7 (n:=0) hm hl hd R s o e3
   exact q v H' F2 fv s2 o2 rv
 | nx=>
  obtain⟨ds1,e3,e4⟩:=bind_some e2
  cases e4
  exact fun σ' H' F' s=>by
   obtain⟨F2,s2,o2⟩:=yc7 (n:=0) (fv:=[]) hm hl hd R s ⟨fun _ h=>absurd h (by simp),Zm,fun _ _ _ h=>absurd h (by simp)⟩ e3
   exact q .non H' F2 [] s2 o2 .non
 |bk=>cases e2
 |ct=>cases e2
end
set_option genInjectivity true in
inductive Arg where
 |io (j:Nat)|im (f:tz2)
def cB:List Arg->tz3
 |[],_=>some []
 | .io j::as,ps=>((ps[j]?).join).bind fun d=>(cB as ps).bind fun ds=>some (d::ds)
 | .im f::as,ps=>(aX f ps).bind fun d=>(cB as ps).bind fun ds=>some (d::ds)
def nE:List Arg->Nat->Bool
 | .io _::_,0=>true
 |_::as,i+1=>nE as i
 |_,_=>false
def slots:List Arg->List Nat
 |[]=>[]
 | .io j::as=>j::slots as
 | .im _::as=>slots as
def eC:PSt->List Arg->List D->PSt
 |ps,.io j::as,d::ds=>eC (ps.set j (some d)) as ds
 |ps,.im _::as,_::ds=>eC ps as ds
 |ps,_,_=>ps
inductive ArgsAt(K:tz0)(U:tz9)(H:Hp)(σ:St)(ps:PSt):List Arg->List V->List D->Prop
 |nil:ArgsAt K U H σ ps [] [] []
 |io {j:Nat} {as:List Arg} {v:V} {vs:List V} {d:D} {ds:List D}:σ[j]? =some (some v)->ps[j]? =some (some d)->ArgsAt K U H σ ps as vs ds->ArgsAt K U H σ ps (.io j::as) (v::vs) (d::ds)
 |im {f:tz2} {as:List Arg} {v:V} {vs:List V} {d:D} {ds:List D}:Rep K U H v d []->ArgsAt K U H σ ps as vs ds->ArgsAt K U H σ ps (.im f::as) (v::vs) (d::ds)
theorem ArgsAt.len{K:tz0}{U:tz9}{H:Hp}{σ:St}{ps:PSt}:∀{as:List Arg} {vs:List V} {ds:List D},ArgsAt K U H σ ps as vs ds->vs.length=as.length/\ds.length=as.length
 |_,_,_,.nil=>⟨rfl,rfl⟩
 |_,_,_,.io _ _ h=>by have:=h.len;simp [this]
 |_,_,_,.im _ h=>by have:=h.len;simp [this]
theorem ArgsAt.get{K:tz0}{U:tz9}{H:Hp}{σ:St}{ps:PSt}:∀{as:List Arg} {vs:List V} {ds:List D} {i:Nat} {d:D},ArgsAt K U H σ ps as vs ds->ds[i]? =some d->∃v,vs[i]? =some v/\((∃j,as[i]? =some (.io j)/\nE as i=true/\σ[j]? =some (some v)/\ps[j]? =some (some d))\/(nE as i=false/\Rep K U H v d []))
 |_,_,_,_,_,.nil,e=>by simp at e
 |_,_,_,0,_,.io h1 h2 _,e=>by simp at e;subst e;exact⟨_,rfl,.inl ⟨_,rfl,rfl,h1,h2⟩⟩
 |_,_,_,0,_,.im r _,e=>by simp at e;subst e;exact⟨_,rfl,.inr ⟨rfl,r⟩⟩
 |_,_,_,i+1,_,.io _ _ h,e=>by
  obtain⟨v,h1,h2⟩:=ArgsAt.get (i:=i) h (by simpa using e)
  exact⟨v,by simpa using h1,by simpa [nE] using h2⟩
 |_,_,_,i+1,_,.im _ h,e=>by
  obtain⟨v,h1,h2⟩:=ArgsAt.get (i:=i) h (by simpa using e)
  exact⟨v,by simpa using h1,by simpa [nE] using h2⟩
theorem zq6:∀{as:List Arg} {i:Nat},nE as i=true->∃j,as[i]? =some (.io j)
 | .io j::_,0,_=>⟨j,rfl⟩
 | .im _::_,0,h=>by cases h
 | .io _::as,i+1,h=>by obtain⟨j,e⟩:=zq6 (as:=as) (i:=i) h;exact⟨j,by simpa using e⟩
 | .im _::as,i+1,h=>by obtain⟨j,e⟩:=zq6 (as:=as) (i:=i) h;exact⟨j,by simpa using e⟩
 |[],_,h=>by cases h
theorem pM:∀{as:List Arg} {i j:Nat},as[i]? =some (.io j)->nE as i=true
 | .io _::_,0,_,_=>rfl
 | .im _::_,0,_,h=>by simp at h
 | .io _::as,i+1,j,h=>pM (as:=as) (i:=i) (j:=j) (by simpa using h)
 | .im _::as,i+1,j,h=>pM (as:=as) (i:=i) (j:=j) (by simpa using h)
 |[],_,_,h=>by simp at h
theorem jH:∀{as:List Arg} {i j:Nat},as[i]? =some (.io j)->j∈slots as
 | .io _::_,0,_,h=>by simp at h;subst h;exact Z0
 | .im _::_,0,_,h=>by simp at h
 | .io _::as,i+1,j,h=>Z1 _ (jH (as:=as) (i:=i) (by simpa using h))
 | .im _::as,i+1,j,h=>jH (as:=as) (i:=i) (by simpa using h)
 |[],_,_,h=>by simp at h
theorem zJ:∀{as:List Arg} {i k j:Nat},(slots as).Nodup->as[i]? =some (.io j)->as[k]? =some (.io j)->i=k
 |[],_,_,_,_,h,_=>by simp at h
 |a::as,0,0,_,_,_,_=>rfl
 | .io j'::as,0,k+1,j,nd,h1,h2=>by
  simp at h1;subst h1
  exact absurd (jH (as:=as) (i:=k) (by simpa using h2)) (Zs.mp nd).1
 | .im _::as,0,k+1,j,_,h1,_=>by simp at h1
 | .io j'::as,i+1,0,j,nd,h1,h2=>by
  simp at h2;subst h2
  exact absurd (jH (as:=as) (i:=i) (by simpa using h1)) (Zs.mp nd).1
 | .im _::as,i+1,0,j,_,_,h2=>by simp at h2
 | .io j'::as,i+1,k+1,j,nd,h1,h2=>by rw [zJ (as:=as) (i:=i) (k:=k) (j:=j) (Zs.mp nd).2 (by simpa using h1) (by simpa using h2)]
 | .im _::as,i+1,k+1,j,nd,h1,h2=>by rw [zJ (as:=as) (i:=i) (k:=k) (j:=j) nd (by simpa using h1) (by simpa using h2)]
def fM:List Arg->Nat->Option Nat
 |[],_=>none
 | .io i::as,j=>if i=j then some 0 else(fM as j).map (·+1)
 | .im _::as,j=>(fM as j).map (·+1)
theorem mQ:∀{as:List Arg} {j i:Nat},fM as j=some i->as[i]? =some (.io j)
 |[],_,_,h=>by cases h
 | .io k::as,j,i,h=>by
  rw [fM] at h
  by_cases z:k=j
  ·rw [if_pos z] at h;cases h;rw [z];rfl
  ·rw [if_neg z] at h
   cases q:fM as j with
   |none=>rw [q] at h;cases h
   |some n=>rw [q] at h;cases h;simpa using mQ q
 | .im _::as,j,i,h=>by
  rw [fM] at h
  cases q:fM as j with
  |none=>rw [q] at h;cases h
  |some n=>rw [q] at h;cases h;simpa using mQ q
theorem kH:∀{as:List Arg} {j:Nat},fM as j=none->j∉slots as
 |[],_,_=>by simp [slots]
 | .io k::as,j,h=>by
  rw [fM] at h
  by_cases z:k=j
  ·rw [if_pos z] at h;cases h
  ·rw [if_neg z] at h
   have h':fM as j=none:=by
    cases q:fM as j with
    |none=>rfl
    |some n=>rw [q] at h;cases h
   exact fun hm=>(Z4.mp hm).elim (fun e=>z e.symm) (kH h')
 | .im _::as,j,h=>by
  rw [fM] at h
  have h':fM as j=none:=by
   cases q:fM as j with
   |none=>rfl
   |some n=>rw [q] at h;cases h
  exact fun hm=>kH (as:=as) h' hm
theorem wW:∀{as:List Arg} {ds:List D} {ps:PSt},(eC ps as ds).length=ps.length
 |[],_,_=>by simp [eC]
 | .io j::as,[],_=>by simp [eC]
 | .im _::as,[],_=>by simp [eC]
 | .io j::as,d::ds,ps=>by rw [eC,wW (as:=as)];simp
 | .im _::as,d::ds,ps=>by rw [eC,wW (as:=as)]
theorem oK:∀{as:List Arg} {ds:List D} {ps:PSt} {j:Nat},j∉slots as->(eC ps as ds)[j]? =ps[j]?
 |[],_,_,_,_=>by simp [eC]
 | .io _::_,[],_,_,_=>by simp [eC]
 | .im _::_,[],_,_,_=>by simp [eC]
 | .io k::as,d::ds,ps,j,h=>by
  rw [eC,oK (as:=as) (fun z=>h (Z1 _ z)),Zu (fun z=>h (by rw [<-z];exact Z0))]
 | .im _::as,d::ds,ps,j,h=>by rw [eC];exact oK (as:=as) h
theorem zc8:∀{as:List Arg} {ds:List D} {ps:PSt} {i j:Nat} {d:D},(slots as).Nodup->as[i]? =some (.io j)->ds[i]? =some d->j<ps.length->(eC ps as ds)[j]? =some (some d)
 |[],_,_,_,_,_,_,h,_,_=>by simp at h
 |_::_,[],_,_,_,_,_,_,h,_=>by simp at h
 | .io k::as,d1::ds,ps,0,j,d,nd,h1,h2,h3=>by
  simp at h1 h2;subst h1;subst h2
  rw [eC,oK (Zs.mp nd).1,ZA h3]
 | .im _::as,d1::ds,ps,0,j,d,_,h1,_,_=>by simp at h1
 | .io k::as,d1::ds,ps,i+1,j,d,nd,h1,h2,h3=>by
  rw [eC];exact zc8 (Zs.mp nd).2 (by simpa using h1) (by simpa using h2) (by simpa using h3)
 | .im _::as,d1::ds,ps,i+1,j,d,nd,h1,h2,h3=>by
  rw [eC];exact zc8 (as:=as) nd (by simpa using h1) (by simpa using h2) h3
def pR(as:List Arg)(F:Nat->List Addr):Nat->List Addr:=fun i=>match as[i]? with
 |some (.io j)=>F j
 |_=>[]
theorem yn2(e:as[i]? =some (.io j)):pR as F i=F j:=by unfold pR;rw [e]
theorem yc8(h:b∈pR as F i):∃j,as[i]? =some (.io j)/\b∈F j:=by
 unfold pR at h
 cases q:as[i]? with
 |none=>rw [q] at h;exact absurd h (by simp)
 |some x=>
  cases x with
  |io j=>rw [q] at h;exact⟨j,rfl,h⟩
  |im _=>rw [q] at h;exact absurd h (by simp)
theorem zq7(e:nE as i=false):pR as F i=[]:=by
 unfold pR
 cases q:as[i]? with
 |none=>rfl
 |some x=>cases x with
  |io j=>rw [pM q] at e;cases e
  |im _=>rfl
theorem xn2{φ:Fx}{H:Hp}{σ:St}{ps:PSt}{F:Nat->List Addr}{as:List Arg}{vs:List V}{ds:List D}(R:RS φ H σ ps F)(nd:(slots as).Nodup)(hb:∀j∈slots as,φ.bor j=false)(a:ArgsAt φ.K φ.U H σ ps as vs ds):
  RS (fxE φ.K φ.U as.length (nE as)) H (vs.map some) (ds.map some) (pR as F):=by
 obtain⟨lv,ld⟩:=a.len
 have memF:∀i b,b∈pR as F i->∃j,as[i]? =some (Arg.io j)/\b∈F j:=fun i b h=>yc8 h
 refine⟨fun i d h=> ?_,fun i b h=> ?_,fun i k b h1 h2=> ?_,fun i=> ?_,fun i b h k z=>z.elim,fun k b z=>z.elim,by simp [lv,ld]⟩
 ·rw [Ze] at h
  cases q:ds[i]? with
  |none=>rw [q] at h;cases h
  | some d1=>
   rw [q] at h;cases h
   obtain⟨v,h1,h2⟩:=a.get q
   have hi:=(Z5.mp q).1
   refine⟨v,pR as F i,by rw [Ze,h1];rfl,?_,fun _=>rfl,fun z=> ?_⟩
   ·rcases h2 with ⟨j,e1,e2,e3,e4⟩|⟨e1,r⟩
    ·obtain⟨v',fp,k1,k2,k3,_⟩:=R.rep j d e4
     rw [e3] at k1;cases k1
     rw [yn2 e1]
     have:=k3 (hb j (jH e1))
     subst this
     exact k2
    ·rw [zq7 e1];exact r
   ·rcases h2 with ⟨j,e1,e2,_⟩|⟨e1,r⟩
    ·simp [fxE,e2] at z
    ·rw [zq7 e1];intro b hb;exact absurd hb (by simp)
 ·obtain⟨j,e,hj⟩:=memF i b h
  have hi:i<ds.length:=by rw [ld];exact(Z5.mp e).1
  exact⟨by simp [fxE,pM e],ds[i],by rw [Ze,Zp hi];rfl⟩
 ·obtain⟨j1,e1,m1⟩:=memF i b h1
  obtain⟨j2,e2,m2⟩:=memF k b h2
  have:=R.dis j1 j2 b m1 m2
  subst this
  exact zJ nd e1 e2
 ·cases z:nE as i with
  |true=>obtain⟨j,e⟩:=zq6 z;rw [yn2 e];exact R.nd j
  |false=>rw [zq7 z];exact Zm
def uQ(as:List Arg)(F Fc:Nat->List Addr):Nat->List Addr:=fun j=>match fM as j with
 |some i=>Fc i
 |none=>F j
theorem xd2(h:b∈uQ as F Fc j):(∃i,fM as j=some i/\b∈Fc i)\/(fM as j=none/\b∈F j):=by
 unfold uQ at h
 cases q:fM as j with
 |none=>rw [q] at h;exact .inr ⟨rfl,h⟩
 |some i=>rw [q] at h;exact .inl ⟨i,rfl,h⟩
theorem zk2(e:fM as j=some i):uQ as F Fc j=Fc i:=by unfold uQ;rw [e]
theorem zk3(e:fM as j=none):uQ as F Fc j=F j:=by unfold uQ;rw [e]
theorem xx5{φ:Fx}{H H1 H':Hp}{σ:St}{ps:PSt}{F Fc':Nat->List Addr}{as:List Arg}{vs:List V}{ds ds':List D}{fv:List Addr}(R:RS φ H σ ps F)(s1:SameK H H1)(nd:(slots as).Nodup)(hb:∀j∈slots as,φ.bor j=false)(a:ArgsAt φ.K φ.U H1 σ ps as vs ds)(hl:ds'.length=as.length)
  (s:Stp (fxE φ.K φ.U as.length (nE as)) (vs.map some) H1 (pR as F) (vs.map some) H' (ds'.map some) Fc') (o:OwnV (pR as F) H1 Fc' fv):
  ∃F',Stp φ σ H F σ H' (eC ps as ds') F'/\OwnV F H F' fv:=by
 have memF:∀i b,b∈pR as F i->∃j,as[i]? =some (Arg.io j)/\b∈F j:=fun i b h=>yc8 h
 have nwA:∀b,((∃i,b∈pR as F i)\/H1 b=none)->(∃j∈slots as,b∈F j)\/H b=none:=fun b h=>by
  rcases h with ⟨i,h⟩|h
  ·obtain⟨j,e,m⟩:=memF i b h
   exact .inl ⟨j,jH e,m⟩
  ·exact .inr (s1.grow b h)
 have isDisj:∀b,((∃i,b∈Fc' i)\/b∈fv)->∀j,j∉slots as->b∉F j:=fun b h j hj hm=>by
  have h':(∃j∈slots as,b∈F j)\/H b=none:=by
   rcases h with ⟨i,h⟩|h
   ·exact nwA b (s.nw i b h)
   ·exact nwA b (o.nw b h)
  rcases h' with ⟨k,hk,hm2⟩|z
  ·exact hj (R.dis j k b hm hm2▸hk)
  ·obtain⟨u,q,_⟩:=R.own hm;rw [z] at q;cases q
 have keepN:∀b u,H b=some u->kd u=true->(∀j∈slots as,b∉F j)->H' b=some u:=fun b u h k n=>s.fr.keep b u (s1.keep b u h k) k fun i hi=>by
  obtain⟨j,e,m⟩:=memF i b hi
  exact n j (jH e) m
 have tfk:∀b u,H b=some u->tf u=true->H' b=some u:=fun b u h t=>keepN b u h (nS t) fun j _ hm=>by
  obtain⟨u',h',_,t'⟩:=R.own hm
  rw [h] at h';cases h';rw [t] at t';cases t'
 have posmem:∀j b,b∈uQ as F Fc' j->(∃i,fM as j=some i/\b∈Fc' i)\/(fM as j=none/\b∈F j):=fun j b h=>xd2 h
 refine⟨uQ as F Fc',⟨⟨fun b u h k n=>keepN b u h k fun j _=>n j,fun b h=>s1.grow b (s.fr.grow b h)⟩,fun j b h=> ?_,⟨fun j d h=> ?_,fun j b h=> ?_,fun j k b h1 h2=> ?_,fun j=> ?_,fun j b h=> ?_,fun kk b hB z=>R.bt kk b hB (s1.grow b (s.fr.grow b z)),by rw [wW];exact R.len⟩,fun _ _=>rfl⟩,⟨fun b hb'=> ?_,o.nd,fun j b h hv=> ?_⟩⟩
 ·rcases posmem j b h with ⟨i,e,m⟩|⟨e,m⟩
  ·exact(nwA b (s.nw i b m)).elim (fun⟨k,_,hk⟩=> .inl ⟨k,hk⟩) .inr
  ·exact .inl ⟨j,m⟩
 ·cases q:fM as j with
  | some i=>
   have e:=mQ q
   have hi:i<ds'.length:=by rw [hl];exact(Z5.mp e).1
   have ei:ds'[i]? =some ds'[i]:=Zp hi
   have hj:j<ps.length:=by
    have:=(Z5.mp h).1
    rwa [wW] at this
   rw [zc8 nd e ei hj] at h
   cases h
   obtain⟨v,fp,k1,k2,k3,_⟩:=s.rs.rep i ds'[i] (by rw [Ze,ei];rfl)
   have hbi:(fxE φ.K φ.U as.length (nE as)).bor i=false:=by simp [fxE,pM e]
   have k3:=k3 hbi
   subst k3
   have hvi:i<vs.length:=by rw [a.len.1];exact(Z5.mp e).1
   have hdi:i<ds.length:=by rw [a.len.2];exact(Z5.mp e).1
   obtain⟨v',g1,g2⟩:=a.get (Zp hdi)
   rw [Ze,g1] at k1
   cases k1
   rcases g2 with ⟨j',e1,_,e3,_⟩|⟨e1,_⟩
   ·rw [e] at e1;cases e1
    exact⟨v,Fc' i,e3,k2,(fun _=>(zk2 q).symm),(fun z=>by rw [hb j (jH e)] at z;cases z)⟩
   ·rw [pM e] at e1;cases e1
  |none=>
   have hn:=kH q
   rw [oK hn] at h
   obtain⟨v,fp,k1,k2,k3,k4⟩:=R.rep j d h
   refine⟨v,fp,k1,k2.move tfk fun b hb'=> ?_,(fun z=>by rw [zk3 q];exact k3 z),k4⟩
   obtain⟨u,q1,q2,_⟩:=k2.own b hb'
   rw [q1]
   refine keepN b u q1 q2 fun k hk hm=> ?_
   cases z:φ.bor j with
   |true=>exact R.nb k b hm j (k4 z b hb')
   |false=>rw [k3 z] at hb';exact hn (R.dis j k b hb' hm▸hk)
 ·rcases posmem j b h with ⟨i,e,m⟩|⟨e,m⟩
  ·have e':=mQ e
   refine⟨hb j (jH e'),?_⟩
   have hi:i<ds'.length:=by rw [hl];exact(Z5.mp e').1
   have hdi:i<ds.length:=by rw [a.len.2];exact(Z5.mp e').1
   obtain⟨v',g1,g2⟩:=a.get (Zp hdi)
   rcases g2 with ⟨j',e1,_,_,e4⟩|⟨e1,_⟩
   ·rw [e'] at e1;cases e1
    exact⟨_,zc8 nd e' (Zp hi) (Z5.mp e4).1⟩
   ·rw [pM e'] at e1;cases e1
  ·obtain⟨b1,d,b2⟩:=R.emp j b m
   exact⟨b1,d,by rw [oK (kH e)];exact b2⟩
 ·rcases posmem j b h1 with ⟨i,e,m⟩|⟨e,m⟩
  ·rcases posmem k b h2 with ⟨i',e',m'⟩|⟨e',m'⟩
   ·have:=s.rs.dis i i' b m m'
    subst this
    have q1:=mQ e
    have q2:=mQ e'
    rw [q1] at q2
    cases q2;rfl
   ·exact absurd m' (isDisj b (.inl ⟨i,m⟩) k (kH e'))
  ·rcases posmem k b h2 with ⟨i',e',m'⟩|⟨e',m'⟩
   ·exact absurd m (isDisj b (.inl ⟨i',m'⟩) j (kH e))
   ·exact R.dis j k b m m'
 ·cases q:fM as j with
  |some i=>rw [zk2 q];exact s.rs.nd i
  |none=>rw [zk3 q];exact R.nd j
 ·rcases posmem j b h with ⟨i,e,m⟩|⟨e,m⟩
  ·exact R.notB ((nwA b (s.nw i b m)).elim (fun⟨k,_,hk⟩=> .inl ⟨k,hk⟩) .inr)
  ·exact R.nb j b m
 ·exact(nwA b (o.nw b hb')).elim (fun⟨k,_,hk⟩=> .inl ⟨k,hk⟩) .inr
 ·rcases posmem j b h with ⟨i,e,m⟩|⟨e,m⟩
  ·exact o.dis i b m hv
  ·exact isDisj b (.inr hv) j (kH e) m
def tIO(K:tz0)(U:tz9)(as:List Arg):TA:=fun σ H Q=>∃ps ds,WS K U H σ ps/\cB as ps=some ds/\∀vs H',SameK H H'->ArgsAt K U H' σ ps as vs ds->Q vs H'
def fIO(as:List Arg)(g:tz7):tz8:=fun ps=>(cB as ps).bind fun ds=>(g ds).bind fun r=>if r.2.length=as.length then some (r.1,eC ps as r.2) else none
section
variable{X:Cx}{φ:F0}{U:tz9}{e:Expr}{es:List Expr}{as:List Arg}{f:tz2}{pos p:Pos}
theorem dA:PA X [] (tIO X.K U []):=kT.imp fun σ H Q ⟨ps,ds,w,e,q⟩=>by cases e;exact q [] H (.refl H) .nil
theorem nG(j:Nat){x:Str}(hr:PA X es (tIO X.K U as))(hN:X.N[j]? =some x:=by rfl)(hv:Vis X.env.scope x:=by first|exact Or.inl rfl|exact Or.inr (Or.inl rfl)|exact Or.inr (Or.inr rfl))(hd:NDb x:=by decide)
  (hcd:(x==("__classdict__":Str))=false:=by decide) (hs:starEach (.Name x pos::es) X.env=(false,eval (.Name x pos) X.env)::starEach es X.env:=by rfl):PA X (.Name x pos::es) (tIO X.K U (.io j::as)):=
 (eK (qH hN hv hd hcd) hr hs).imp fun σ H Q hh_=>by
  obtain⟨ps,ds,w,e,q⟩:=hh_
  obtain⟨d,e1,e2⟩:=bind_some e
  obtain⟨ds',e3,e4⟩:=bind_some e2
  cases e4
  have e0:=join_some e1
  obtain⟨v,fp,h1,h2⟩:=w j d e0
  exact⟨v,h1,ps,ds',w,e3,fun vs H1 s1 a1=>q (v::vs) H1 s1 (.io h1 e0 a1)⟩
theorem bL(ha:QV X U e f)(hr:PA X es (tIO X.K U as))(hs:StE e es X:=by rfl):PA X (e::es) (tIO X.K U (.im f::as)):=
 (eK ha.p hr hs).imp fun σ H Q hh_=>by
  obtain⟨ps,ds,w,e,q⟩:=hh_
  obtain⟨d,e1,e2⟩:=bind_some e
  obtain⟨ds',e3,e4⟩:=bind_some e2
  cases e4
  refine⟨ps,d,w,e1,fun v H1 fv s1 n1 nd1 r1=>⟨ps,ds',w.same s1,e3,fun vs H2 s2 a2=>q (v::vs) H2 (s1.trans s2) (.im ?_ a2)⟩⟩
  unfold aX at e1
  obtain⟨d1,k1,k2⟩:=bind_some e1
  obtain⟨k3,k4⟩:=bU k2
  cases k4
  have:=r1.imm k3
  subst this
  exact r1.same s2
theorem pX{x:Str}{st:Stmt}{ps:List Str}{fa:Addr}{fd:FuncData}{k np:Nat}{m:Nat->Bool}{g:tz7}(Dd:Dn X.K X.mg x st ps fa fd)(G:FnOk X.prog X.w X.K X.mg X.base CX0 k fa fd ps (SpE np X.K U m g))(hr:Room k X.A)(hg:Gl X x)(ha:PA X (e::es) (tIO X.K U as))
  (hnp:np=as.length) (hm:m=nE as) (nd:(slots as).Nodup) (hb:∀j∈slots as,φ.bor j=false)
  (hdb:NDb x:=by decide) (he:StE e es X:=by rfl) (hpl:BkE pos es X:=by rfl):
  QE X U φ (.Call (.Name x p) (e::es) [] pos) (fIO as g):=(ys8 Dd G hr hg ha hdb he hpl).imp fun σ H Q hh_=>by
 obtain⟨ps,F,d,ps',R,e,q⟩:=hh_
 obtain⟨ds,e1,e2⟩:=bind_some e
 obtain⟨⟨r,ds'⟩,e3,e4⟩:=bind_some e2
 obtain⟨hl,e5⟩:=bU e4
 cases e5
 subst hnp hm
 refine⟨ps,ds,R.ws,e1,fun vs H1 s1 a1=> ?_⟩
 show SpE _ X.K U _ g (vs++[]) H1 Q E0
 rw [Zj]
 refine⟨a1.len.1,ds,r,ds',_,a1.len.2,xn2 (R.same s1) nd hb a1,e3,fun v H' F' fv s o rv=> ?_⟩
 obtain⟨F2,s2,o2⟩:=xx5 R s1 nd hb a1 hl s o
 exact q v H' F2 fv s2 o2 rv
end
inductive AreD:List Expr->List D->Prop
 |nil:AreD [] []
 |int {i:Int} {j:Nat} {pos:Pos} {es:List Expr} {ds:List D}:AreD es ds->AreD (.Constant (.int i) j pos::es) (.int i::ds)
 |str {x:Str} {j:Nat} {pos:Pos} {es:List Expr} {ds:List D}:AreD es ds->AreD (.Constant (.str x) j pos::es) (.str x::ds)
def fKs(ds:List D):tz3:=fun _=>some ds
theorem rV(h:AreD es ds):QPA X U es (fKs ds):=by
 have key:∃vs,AreC es vs/\∀K U H,Reps K U H vs ds []:=by
  induction h with
  |nil=>exact⟨[],.nil,fun _ _ _=> .nil⟩
  |int _ ih=>obtain⟨vs,h1,h2⟩:=ih;exact⟨_,.int h1,fun K U H=> .cons (f:=[]) (g:=[]) (.int _) (h2 K U H)⟩
  |str _ ih=>obtain⟨vs,h1,h2⟩:=ih;exact⟨_,.str h1,fun K U H=> .cons (f:=[]) (g:=[]) (.str _) (h2 K U H)⟩
 obtain⟨vs,h1,h2⟩:=key
 exact(xc2 h1).imp fun σ H Q ⟨ps,ds',w,e,q⟩=>by cases e;exact q vs H [] (.refl H) (fun _ h=>absurd h (by simp)) Zm (h2 _ _ _)
def bE(l:List Bool):Nat->Bool:=fun i=>(l[i]?).getD false
def xk2(as:List Arg):List Bool:=as.map fun a=>match a with
 | .io _=>true
 | .im _=>false
theorem gK:∀{as:List Arg} {l:List Bool},xk2 as=l->bE l=nE as:=by
 intro as l h
 subst h
 funext i
 induction as generalizing i with
 |nil=>cases i<;>rfl
 | cons a as ih=>
  cases i with
  |zero=>cases a<;>rfl
  |succ i=>
   have e:nE (a::as) (i+1)=nE as i:=by cases a<;>rfl
   rw [e,<-ih i]
   simp [bE,xk2]
theorem fO(h:bE l i=true):i<l.length:=by
 unfold bE at h
 cases q:l[i]? with
 |none=>rw [q] at h;cases h
 |some b=>exact(Z5.mp q).1
section
variable{P:Program}{w:World}{K:tz0}{mg:tzA}{base:Heap}{U:tz9}
theorem FnOk.noneP:FnOk P w K mg base CX0 k f fd ps (SpP ps.length K U fun _=>none):=
 ⟨fun vs H Q E h=>h.1,fun A outer s H args us vs Q E _ _ _ _ ⟨_,ds,fp,d,_,e,_⟩=>by cases e⟩
theorem FnOk.noneE:FnOk P w K mg base CX0 k f fd ps (SpE ps.length K U m fun _=>none):=
 ⟨fun vs H Q E h=>h.1,fun A outer s H args us vs Q E _ _ _ _ ⟨_,ds,r,ds',F,_,_,e,_⟩=>by cases e⟩
end
section
variable{X:Cx}{U:tz9}{a b c:Expr}{fa fb fc:tz2}{g g':D->D->Option D}{pos:Pos}
theorem xn3(h:tP X.K U (f3 g g' fa fb fc) σ H Q):xk1 (POp X.K U g) (POp X.K U g') (tV X.K U fa) (tV X.K U fb) (tV X.K U fc) σ H Q:=by
 obtain⟨ps,d,w,e,q⟩:=h
 obtain⟨x,e1,e2⟩:=bind_some e
 obtain⟨y,e3,e4⟩:=bind_some e2
 obtain⟨k,e5,e6⟩:=bind_some e4
 obtain⟨t,rfl,e7⟩:=zy9 (x:=(fc ps).bind fun z=>g' y z) (y:=some (D.bl false)) e6
 refine⟨ps,x,w,e1,fun v H1 f1 s1 r1=>⟨ps,y,w.same s1,e3,fun u H2 f2 s2 r2=>⟨x,y,_,f1,f2,r1.same s2,r2,e5,fun z H3 fz s3 n3 nd3 r3=>⟨t,r3.is_bl,?_⟩⟩⟩⟩
 have s13:=(s1.trans s2).trans s3
 cases t with
 |true=>
  rw [if_pos rfl] at e7|-
  obtain⟨zz,e8,e9⟩:=bind_some e7
  exact⟨ps,zz,w.same s13,e8,fun u' H4 f4 s4 r4=>⟨y,zz,d,f2,f4,(r2.same s3).same s4,r4,e9,q.after (s13.trans s4)⟩⟩
 |false=>
  rw [if_neg Z7] at e7|-
  cases e7
  exact(q.after s13).now (.bl false)
theorem yc9(ho:OpR X (compareOp op) (POp X.K U g))(ho':OpR X (compareOp op') (POp X.K U g'))(ha:QV X U a fa)(hb:QV X U b fb)(hc:QV X U c fc)(hm:lastMarks [op,op'] [b,c]=false:=by with_unfolding_all rfl):QT X U (.Compare a [op,op'] [b,c] pos) (fB (f3 g g' fa fb fc)):=
 (xl1 ho ho' ha hb hc hm).imp fun σ H Q ⟨ps,k,w,e,q⟩=>xn3 (Q:=fun x H'=>∃k,x= .bl k/\Q k H') ⟨ps,_,w,zq0 e,fun v H' fv s _ _ r=>⟨k,r.is_bl,q H' s⟩⟩
end
theorem xx6(h:xY k u=true):cG (kV k) u:=by
 rcases fN h with ⟨i,t,rfl,rfl⟩|⟨x,t,rfl,rfl⟩
 ·exact⟨t,rfl⟩
 ·exact⟨t,rfl⟩
def yx3:Key->D
 | .inl i=> .int i
 | .inr x=> .str x
theorem xn4{K:tz0}{U:tz9}{H:Hp}(k:Key):Rep K U H (kV k) (yx3 k) []:=by
 cases k with
 |inl i=>exact .int i
 |inr x=>exact .str x
theorem zk4:∀ys:List (Str×Tok),bJ (ys.map fun p=>V.str p.1) (ys.map fun p=>Value.str p.1 p.2)
 |[]=> .nil
 |y::ys=> .cons ⟨y.2,rfl⟩ (zk4 ys)
theorem zu9{K:tz0}{U:tz9}{H:Hp}:∀ys:List (Str×Tok),Reps K U H (ys.map fun p=>V.str p.1) (ys.map fun p=>D.str p.1) []
 |[]=> .nil
 |y::ys=> .cons (f:=[]) (g:=[]) (.str _) (zu9 ys)
theorem xn5{K:tz0}{U:tz9}{a:Addr}{ys:List (Str×Tok)}{od:Option Addr}{n:Nat}{sl:Array (Option Value)}(h:K.lookup a=some ⟨.type "tuple",od,.seq (ys.map fun p=>Value.str p.1 p.2).toArray n,sl⟩)(hl:ys.length<=1000)(H:Hp):
  Rep K U H (.ref a) (.tup (ys.map fun p=>D.str p.1)) []:=
 .tup (.inr ⟨_,_,n,h,rfl,rfl,by rw [Zo,Zb];exact zy8 hl,zk4 ys⟩) (zu9 ys)
section
variable{X:Cx}{pins:tzB}{σ:St}{H:Hp}{s:Shared}{a C dx:Addr}{fs:List (Str×V)}{f:Str}{v:V}{A:Around}{E:Value->Shared->Prop}
theorem xd3(hok:HOk P w H h)(e:Rd H a (.ins C dx fs)):∃mA,ObjM h a dx C mA/\(∀f,kL (fs.lookup f) (mA f)):=by
 obtain⟨d,z,ne,ob,mA,n,r,q⟩:=(show dH P w H h a (.ins C dx fs) from e.ok hok)
 exact⟨mA,⟨ob,n,ne⟩,r⟩
theorem yt6(I:Inv X pins σ H s)(e:Rd H a (.ins C dx fs))(c:Cls X.K C)(n:cD X.K C f)(l:fs.lookup f=some v)
  (h:∀u s',Inv X pins σ H s'->cG v u->Q u s'):wpAny (model X.prog X.w) A (getAttr (.ref a) f b) Q E s:=by
 obtain⟨mA,O,r⟩:=xd3 I.hok e
 obtain⟨u,hu,ru⟩:=kL.some_of (v:=v) (o:=mA f) (by rw [<-l];exact r f)
 exact ym1 I.kIn O (c.get f) c.hd n hu (zt2 ru) (h u _ (I.tok _) ru)
theorem yt7(I:Inv X pins σ H s)(e:Rd H a (.ins C dx fs))(c:Cls X.K C)(k:Meth X.K C m g)(l:fs.lookup m=none)
  (h:Q (.ref g,[.ref a]) s):wpAny (model X.prog X.w) A (getMethod (.ref a) m pl) Q E s:=by
 obtain⟨mA,O,r⟩:=xd3 I.hok e
 have hn:mA m=none:=kL.none_of (by rw [<-l];exact r m)
 exact yb1 I.kIn O (c.get m) k.at_ k.fn hn h
end
def wp7(K:tz0)(ta:TE)(f:Str):TE:=fun σ H Q=>ta σ H fun x H1=>∃a C dx fs v,x= .ref a/\Rd H1 a (.ins C dx fs)/\Cls K C/\cD K C f/\fs.lookup f=some v/\Q v H1
theorem xx7(he:PE X e ta)(hb:attributeBase e f X.env (eval e X.env)=eval e X.env):PE X (.Attribute e f pos) (wp7 X.K ta f):=⟨by
 intro pins s σ H Q I h
 refine ym2 hb (thn (he pins s σ H _ I h) fun u s1 ⟨x,H1,I1,rx,a,C,dx,fs,v,ex,ea,c,n,l,q⟩=> ?_)
 subst ex
 obtain rfl:u=Value.ref a:=rx
 exact yt6 I1 ea c n l fun w' s2 I2 rw'=>⟨v,H1,I2,rw',q⟩⟩
def yi2(C f:Str):D->Option D
 | .obj _ C' ns vs=>if C'=C then(cN ns f).bind fun n=>vs[n]? else none
 |_=>none
def cH(C f:Str)(fo:tz2):tz2:=fun ps=>(fo ps).bind (yi2 C f)
theorem Rep.obj_inv{K:tz0}{U:tz9}{H:Hp}{v:V}{o:Bool}{C:Str}{ns:List Str}{ds:List D}{fp:List Addr}(r:Rep K U H v (.obj o C ns ds) fp):∃a dx fs g,v= .ref a/\Rd H a (.ins (U C) dx fs)/\fs.map (·.1)=ns/\Reps K U H (fs.map (·.2)) ds g/\g.Sublist fp:=by
 cases r with
 |obj h e hs=>exact⟨_,_,_,_,rfl,.inl h,e,hs,X1 _ _⟩
 |objF h e hs=>exact⟨_,_,_,_,rfl,.inr ⟨_,h⟩,e,hs,.refl _⟩
section
variable{X:Cx}{U:tz9}{o e:Expr}{C fn:Str}{fo:tz2}{pos:Pos}
theorem cT(hc:Cls X.K (U C))(hna:cD X.K (U C) fn)(ho:QV X U o fo)(hb:attributeBase o fn X.env (eval o X.env)=eval o X.env:=by rfl):QV X U (.Attribute o fn pos) (cH C fn fo):=
 (xx7 ho hb).imp fun σ H Q hh_=>by
  obtain⟨ps,d,w,e,q⟩:=hh_
  obtain⟨x,e1,e2⟩:=bind_some e
  refine⟨ps,x,w,e1,fun v H1 fp s1 r1=> ?_⟩
  cases x with
  |obj ow C' ns ds=>
   have e2':(if C'=C then(cN ns fn).bind fun n=>ds[n]? else none)=some d:=e2
   by_cases hC:C'=C
   case neg=>rw [if_neg hC] at e2';cases e2'
   rw [if_pos hC] at e2'
   subst hC
   obtain⟨n,e4,e5⟩:=bind_some e2'
   obtain⟨a,dx,fs,g,rfl,h,hk,hs,sub⟩:=r1.obj_inv
   subst hk
   obtain⟨u,f1,k3,k4,_⟩:=hs.get e5
   exact⟨a,U C',dx,fs,u,rfl,h,hc,hna,sY e4 k3,q u H1 f1 s1 k4⟩
  |_=>cases e2
end
theorem yn3:∀{fs:List (Str×V)} {f:Str} {n:Nat} (v:V),cN (fs.map (·.1)) f=some n->(gS f v fs).map (·.1)=fs.map (·.1)/\(gS f v fs).map (·.2)=(fs.map (·.2)).set n v
 |[],_,_,_,h=>by cases h
 | (g,x)::r,f,n,v,h=>by
  rw [Z9,cN] at h
  by_cases z:g=f
  ·have z':(g,x).1=f:=z
   rw [if_pos z'] at h;cases h
   rw [gS,if_pos z];exact⟨rfl,rfl⟩
  ·have z':¬(g,x).1=f:=z
   rw [if_neg z'] at h
   obtain⟨m,h1,h2⟩:=Zr.mp h
   subst h2
   obtain⟨k1,k2⟩:=yn3 v h1
   rw [gS,if_neg z]
   exact⟨by rw [Z9,Z9,k1],by rw [Z9,Z9,List.set_cons_succ,k2]⟩
theorem yd0:∀{fs:List (Str×V)} {f:Str} (v:V),cN (fs.map (·.1)) f=none->(gS f v fs).map (·.1)=fs.map (·.1)++[f]/\(gS f v fs).map (·.2)=fs.map (·.2)++[v]
 |[],_,_,_=>⟨rfl,rfl⟩
 | (g,x)::r,f,v,h=>by
  rw [Z9,cN] at h
  by_cases z:g=f
  ·have z':(g,x).1=f:=z
   rw [if_pos z'] at h;cases h
  ·have z':¬(g,x).1=f:=z
   rw [if_neg z'] at h
   obtain⟨k1,k2⟩:=yd0 v (W7.mp h)
   rw [gS,if_neg z]
   exact⟨by rw [Z9,Z9,k1];rfl,by rw [Z9,Z9,k2];rfl⟩
def wJ(C f:Str)(y:D):D->Option (Unit×D)
 | .obj true C' ns vs=>if (C'=C/\ns.length<900) then(match cN ns f with
   |some n=>some ((),.obj true C' ns (vs.set n y))
   |none=>some ((),.obj true C' (ns++[f]) (vs++[y]))) else none
 |_=>none
theorem yd1(h:wJ C f y d=some (r,d')):∃ns vs,d= .obj true C ns vs/\ns.length<900/\((∃n,cN ns f=some n/\d'= .obj true C ns (vs.set n y))\/(cN ns f=none/\d'= .obj true C (ns++[f]) (vs++[y]))):=by
 unfold wJ at h
 split at h
 ·rename_i C' ns vs
  by_cases hh:C'=C/\ns.length<900
  ·rw [if_pos hh] at h
   obtain⟨hC,hl⟩:=hh
   subst hC
   cases q:cN ns f with
   |some n=>rw [q] at h;cases h;exact⟨ns,vs,rfl,hl,.inl ⟨n,q,rfl⟩⟩
   |none=>rw [q] at h;cases h;exact⟨ns,vs,rfl,hl,.inr ⟨q,rfl⟩⟩
  ·rw [if_neg hh] at h;cases h
 ·cases h
def iC(j:Nat)(pf:PSt->Option (List Ps1))(C f:Str)(fe:tz2):tz1:=fun ps=>(fe ps).bind fun y=>((ps[j]?).join).bind fun d0=>(pf ps).bind fun p=>(fY (wJ C f y) d0 p).bind fun r=>some (.nx,ps.set j (some r.2))
theorem yd2:∀{ns:List Str} {f:Str} {n:Nat},cN ns f=some n->n<ns.length
 |[],_,_,h=>by cases h
 | m::ns,f,n,h=>by
  rw [cN] at h
  by_cases z:m=f
  ·rw [if_pos z] at h;cases h;simp
  ·rw [if_neg z] at h
   obtain⟨k,h1,h2⟩:=Zr.mp h
   subst h2
   have:=yd2 h1
   simp;omega
section
variable{X:Cx}{U:tz9}{φ:F0}{o e:Expr}{C fn:Str}{j:Nat}{pf:PSt->Option (List Ps1)}{fe:tz2}{pos pos':Pos}
theorem gO(hc:Cls X.K (U C))(hna:cD X.K (U C) fn)(hb:φ.bor j=false)(he:PE X e (tP X.K U fe))(ho:PE X o (oS X.K U j pf))(hs:swapsWith e (some (.Attribute o fn pos')) pos.line X.env=pure false:=by rfl):
  QS X U φ (.Assign [.Attribute o fn pos'] e pos) (iC j pf C fn fe):=
 (we0 ho he hs).imp fun E σ H hh_=>by
  obtain⟨ps,F,fl,ps',R,e,q⟩:=hh_
  obtain⟨y,e1,e2⟩:=bind_some e
  obtain⟨d0,e3,e4⟩:=bind_some e2
  have e0:=join_some e3
  obtain⟨p,e5,e6⟩:=bind_some e4
  obtain⟨⟨r,d0'⟩,em,e9⟩:=bind_some e6
  cases e9
  obtain⟨dd,dn,gp,hh⟩:=nU em
  refine⟨ps,y,R.ws,e1,fun v H1 fy s1 n1 nd1 ry=>⟨ps,p,d0,dd,R.ws.same s1,e0,e5,gp,fun lv H2 v0 s2 ev a2=> ?_⟩⟩
  have s12:=s1.trans s2
  obtain⟨d1,d1',fd,m1,m2,m3,m4,m5⟩:=vS R s12 hb e0 ev em a2
  obtain⟨ns,vs,rfl,hlen,hd⟩:=yd1 m2
  obtain⟨l,dx,fs,g1,rfl,hl,hn,hr,rfl⟩:=m1.objT_inv
  subst hn
  have ry2:=ry.same s2
  obtain⟨nl,nd3⟩:=Zs.mp m3
  have own0:∀a∈l::g1,H a≠none:=fun a ha z=>by obtain⟨o,h,_⟩:=R.own (m4 a ha);rw [z] at h;cases h
  have nl2:l∉fy:=fun z=>own0 l Z0 (n1 l z)
  have hl9:fs.length<900:=by rw [Zb] at hlen;exact hlen
  refine⟨l,U C,dx,fs,rfl,hl,hc,hna,by omega,?_⟩
  have go:∀(g2:List Addr),(∀a∈g2,a∈fy\/a∈g1)->g2.Nodup->Rep X.K U (upd H2 l (.ins (U C) dx (gS fn v fs))) (.ref l) d1' (l::g2)->∃F',Stp (φ.fx X.K U) σ H F σ (upd H2 l (.ins (U C) dx (gS fn v fs))) (ps.set j (some d0')) F':=fun g2 mem2 nd2 rp=>by
   have n2:l∉g2:=fun z=>(mem2 l z).elim nl2 nl
   obtain⟨F',st,ow⟩:=m5 (upd H2 l (.ins (U C) dx (gS fn v fs))) (l::g2) [] (fun a o h _ hn=>wV h hn) (fun a h=>pL h) rp
    (by rw [Zj,Zs];exact⟨n2,nd2⟩)
    (fun a ha=>by
     rw [Zj] at ha
     rcases Z4.mp ha with z|z
     ·exact .inl (by rw [z];exact Z0)
     ·exact(mem2 a z).elim (fun z=> .inr (n1 a z)) fun z=> .inl (Z1 _ z))
   exact⟨F',st⟩
  rcases hd with ⟨n,hx,rfl⟩|⟨hx,rfl⟩
  ·obtain⟨k1,k2⟩:=yn3 v hx
   have hn':=yd2 hx
   obtain⟨f1,rest,g2,p1,p2,p3⟩:=hr.setV (n:=n) (by rw [<-hr.length,Zb];rw [Zb] at hn';exact hn') ry2
   have mem2:∀a∈g2,a∈fy\/a∈g1:=fun a ha=>(Zn.mp (p3.mem_iff.mp ha)).elim .inl fun z=> .inr (p1.mem_iff.mpr (Z8 _ z))
   have n2:l∉g2:=fun z=>(mem2 l z).elim nl2 nl
   have nd2:g2.Nodup:=p3.nodup_iff.mpr (ZC.mpr ⟨nd1,(ZC.mp (p1.nodup_iff.mp nd3)).2.1,fun a ha b hb e=>by
    subst e
    exact own0 a (Z1 _ (p1.mem_iff.mpr (Z8 _ hb))) (n1 a ha)⟩)
   obtain⟨F',st⟩:=go g2 mem2 nd2 (.obj cV k1 (by rw [k2];exact p2.updL hl rfl n2))
   exact q _ _ F' st
  ·obtain⟨k1,k2⟩:=yd0 v hx
   have mem2:∀a∈g1++fy,a∈fy\/a∈g1:=fun a ha=>(Zn.mp ha).elim .inr .inl
   have n2:l∉g1++fy:=fun z=>(mem2 l z).elim nl2 nl
   have nd2:(g1++fy).Nodup:=ZC.mpr ⟨nd3,nd1,fun a ha b hb e=>by
    subst e
    exact own0 a (Z1 _ ha) (n1 a hb)⟩
   obtain⟨F',st⟩:=go (g1++fy) mem2 nd2 (.obj cV k1 (by rw [k2];exact(Reps.append hr (Reps.one ry2)).updL hl rfl n2))
   exact q _ _ F' st
end
structure Mn(K:tz0)(U:tz9)(C m qual:Str)(st:Stmt)(ps:List Str)(f:Addr)(fd:FuncData):Prop where
 F:Fun K m qual st f fd
 b:lJ K fd ps []
 c:Cls K (U C)
 h:Meth K (U C) m f
def zn7(C m:Str)(fo:tz2):tz2:=fun ps=>(fo ps).bind fun d=>match d with
 | .obj true C' ns vs=>if (C'=C/\cN ns m=none) then some (.obj true C' ns vs) else none
 |_=>none
theorem yt8(h:zn7 C m fo ps=some d):∃ns vs,d= .obj true C ns vs/\fo ps=some d/\cN ns m=none:=by
 obtain⟨x,e1,e2⟩:=bind_some h
 cases x with
 | obj o C' ns vs=>cases o with
  |true=>
   have e2':(if (C'=C/\cN ns m=none) then some (D.obj true C' ns vs) else none)=some d:=e2
   obtain⟨⟨hC,hn⟩,e3⟩:=bU e2'
   subst hC;cases e3
   exact⟨ns,vs,rfl,e1,hn⟩
  |false=>cases e2
 |_=>cases e2
theorem pY:∀{fs:List (Str×V)} {m:Str},cN (fs.map (·.1)) m=none->fs.lookup m=none
 |[],_,_=>rfl
 | (g,x)::r,m,h=>by
  rw [Z9,cN] at h
  by_cases z:g=m
  ·have z':(g,x).1=m:=z
   rw [if_pos z'] at h;cases h
  ·have z':¬(g,x).1=m:=z
   rw [if_neg z'] at h
   have ih:=pY (W7.mp h)
   rw [ZB]
   have:(m==g)=false:=by
    rw [Yb];exact fun e=>z e.symm
   rw [this];exact ih
section
variable{X:Cx}{U:tz9}{o e:Expr}{es:List Expr}{C m qual:Str}{st:Stmt}{ps:List Str}{f:Addr}{fd:FuncData}{k np:Nat}{h:tz6}{fo:tz2}{g:tz3}{apos pos p:Pos}{pl:Sem Bool}
theorem xn6(M:Mn X.K U C m qual st ps f fd)(G:FnOk X.prog X.w X.K X.mg X.base CX0 k f fd ps (SpP 1 X.K U h))(hr:Room k X.A)(ho:QV X U o fo)
  (ht:eval (.Call (.Attribute o m apos) [] [] pos) X.env=(do
   let ov<-eval o X.env
   standAt apos.atName
   let (f,first)<-holding [ov] (getMethod ov m pl)
   callWith pos f first (backTo pos (starEach [] X.env)) (backToKw pos (keywordEach [] X.env))):=by rfl):
  QP X U (.Call (.Attribute o m apos) [] [] pos) (aH h (aB (zn7 C m fo) aE)):=(xl4 ho M.c M.h G hr M.b .nil zc5 ht).imp fun σ H Q hh_=>by
 obtain⟨ps,d,w,e,q⟩:=hh_
 obtain⟨ds,e1,e2⟩:=bind_some e
 obtain⟨x,k1,k2⟩:=bind_some e1
 obtain⟨ds',k3,k4⟩:=bind_some k2
 cases k4;cases k3
 obtain⟨ns,vs,rfl,k5,k6⟩:=yt8 k1
 refine⟨ps,_,w,k5,fun v H1 fp s1 r1=> ?_⟩
 have r1':=r1
 obtain⟨_,_,_,_,rfl,hl,hn,hs,rfl⟩:=r1.objT_inv
 subst hn
 exact⟨_,_,_,rfl,hl,pY k6,rfl,_,_,d,Reps.one r1',e2,q.after s1⟩
end
def oV:Nat->Bool:=fun i=>decide (i=0)
def uR(fd:List Addr):Nat->List Addr:=fun i=>if i=0 then fd else []
theorem lR(h:a∈uR fd i):i=0/\a∈fd:=by
 unfold uR at h
 by_cases z:i=0
 ·rw [if_pos z] at h;exact⟨z,h⟩
 ·rw [if_neg z] at h;exact absurd h (by simp)
theorem zk5{K:tz0}{U:tz9}{H:Hp}{v:V}{vs:List V}{d:D}{ds:List D}{fd:List Addr}(r:Rep K U H v d fd)(nd:fd.Nodup)(rs:Reps K U H vs ds []):
  RS (fxE K U (ds.length+1) oV) H ((v::vs).map some) ((d::ds).map some) (uR fd):=by
 refine⟨fun i x hx=> ?_,fun i a ha=> ?_,fun i j a h1 h2=> ?_,fun i=> ?_,fun i a _ k z=>z.elim,fun k a z=>z.elim,by simp [rs.length]⟩
 ·cases i with
  |zero=>
   simp at hx;subst hx
   exact⟨v,fd,rfl,r,fun _=>rfl,fun z=>by simp [fxE,oV] at z⟩
  | succ i=>
   rw [Z9,Yw,Ze] at hx
   obtain⟨y,hy,e⟩:=Zr.mp hx
   cases e
   obtain⟨u,f1,k1,k2,k3⟩:=rs.get hy
   have ef:f1=[]:=by
    cases f1 with
    |nil=>rfl
    |cons b l=>exact absurd (k3 b Z0) (by simp)
   subst ef
   exact⟨u,[],by rw [Z9,Yw,Ze,k1];rfl,k2,(fun _=>by simp [uR]),fun _ a ha=>absurd ha (by simp)⟩
 ·obtain⟨e,h⟩:=lR ha
  subst e
  exact⟨by simp [fxE,oV],d,rfl⟩
 ·rw [(lR h1).1,(lR h2).1]
 ·unfold uR;split
  ·exact nd
  ·exact Zm
def zz5:List Arg->Bool
 |[]=>true
 | .im _::as=>zz5 as
 | .io _::_=>false
theorem ArgsAt.reps{K:tz0}{U:tz9}{H:Hp}{σ:St}{ps:PSt}:∀{as:List Arg} {vs:List V} {ds:List D},ArgsAt K U H σ ps as vs ds->zz5 as=true->Reps K U H vs ds []
 |_,_,_,.nil,_=> .nil
 |_,_,_,.io _ _ _,h=>by cases h
 |_,_,_,.im r a,h=> .cons (f:=[]) (g:=[]) r (ArgsAt.reps a h)
def dX(C m:Str)(g:tz7)(ys:List D)(d:D):Option (D×D):=match d with
 | .obj true C' ns vs=>if (C'=C/\cN ns m=none) then(g (.obj true C' ns vs::ys)).bind fun r=>match r.2 with
   |d'::ds=>if ds.length=ys.length then some (r.1,d') else none
   |[]=>none
  else none
 |_=>none
theorem zk6(h:dX C m g ys d=some (r,d')):∃ns vs ds,d= .obj true C ns vs/\cN ns m=none/\g (d::ys)=some (r,d'::ds)/\ds.length=ys.length:=by
 unfold dX at h
 split at h
 ·rename_i C' ns vs
  by_cases hc:C'=C/\cN ns m=none
  ·rw [if_pos hc] at h
   obtain⟨hC,hn⟩:=hc
   subst hC
   obtain⟨⟨r1,ds⟩,e1,e2⟩:=bind_some h
   cases ds with
   |nil=>cases e2
   |cons d1 ds=>
    obtain⟨hl,e3⟩:=bU e2
    cases e3
    exact⟨ns,vs,ds,rfl,hn,e1,hl⟩
  ·rw [if_neg hc] at h;cases h
 ·cases h
section
variable{X:Cx}{U:tz9}{φ:F0}{o e:Expr}{es:List Expr}{C m qual:Str}{st:Stmt}{ps:List Str}{f:Addr}{fd:FuncData}{k np j:Nat}{mk:Nat->Bool}{g:tz7}{pf:PSt->Option (List Ps1)}{as:List Arg}{apos pos p:Pos}{pl:Sem Bool}
theorem xn7{σ:St}{H H1:Hp}{Q:VK}{ps:PSt}{F:Nat->List Addr}{d0 d0' r:D}{pp:List Ps1}{v0 v:V}{ys:List D}{us:List V}(R:RS (φ.fx X.K U) H σ ps F)(s1:SameK H H1)(hb:φ.bor j=false)(e0:ps[j]? =some (some d0))(ev:σ[j]? =some (some v0))
  (em:fY (dX C m g ys) d0 pp=some (r,d0')) (at_:At H1 v0 pp v) (ry:Reps X.K U H1 us ys []) (hnp:np=ys.length+1) (hm:mk=oV)
  (q:∀v H' F' fv,Stp (φ.fx X.K U) σ H F σ H' (ps.set j (some d0')) F'->OwnV F H F' fv->Rep X.K U H' v r fv->Q v H'):SpE np X.K U mk g (v::us) H1 Q E0:=by
 subst hnp hm
 obtain⟨d1,d1',fd,m1,m2,m3,m4,m5⟩:=vS R s1 hb e0 ev em at_
 obtain⟨ns,vs,ds,rfl,hn,eg,hl⟩:=zk6 m2
 refine⟨by rw [Z6,ry.length],_,r,d1'::ds,uR fd,by simp,zk5 m1 m3 ry,eg,fun u H' F' fv s o rv=> ?_⟩
 obtain⟨v2,fp2,k1,k2,k3,_⟩:=s.rs.rep 0 d1' rfl
 have ek:v2=v:=by
  have:(List.map some (v::us))[0]? =some (some v2):=k1
  simp at this;exact this.symm
 subst ek
 have k3':=k3 (by simp [fxE,oV])
 subst k3'
 have old:∀a,((∃i,a∈uR fd i)\/H1 a=none)->a∈fd\/H a=none:=fun a h=>h.elim (fun⟨i,hi⟩=> .inl (lR hi).2) fun z=> .inr (s1.grow a z)
 obtain⟨F2,st2,ow2⟩:=m5 H' (F' 0) fv (fun a o h k hn=>s.fr.keep a o h k fun i hi=>hn (lR hi).2) (fun a h=>s.fr.grow a h) k2
  (ZC.mpr ⟨s.rs.nd 0,o.nd,fun a ha b hb e=>by subst e;exact o.dis 0 a ha hb⟩)
  (fun a ha=>(Zn.mp ha).elim (fun z=>old a (s.nw 0 a z)) fun z=>old a (o.nw a z))
 exact q u H' F2 fv st2 ow2 rv
theorem xn8{σ:St}{H H1:Hp}{ps:PSt}{F:Nat->List Addr}{d0 d0' r:D}{pp:List Ps1}{v0 v:V}{ys:List D}(R:RS (φ.fx X.K U) H σ ps F)(s1:SameK H H1)(e0:ps[j]? =some (some d0))(ev:σ[j]? =some (some v0))
  (em:fY (dX C m g ys) d0 pp=some (r,d0')) (at_:At H1 v0 pp v):∃a dx fs,v= .ref a/\H1 a=some (.ins (U C) dx fs)/\fs.lookup m=none:=by
 obtain⟨dd,dn,gp,hh⟩:=nU em
 obtain⟨ns,vs,ds,rfl,hn,_⟩:=zk6 hh
 obtain⟨fd,rd⟩:=zq4 R.ws s1 e0 ev gp at_
 obtain⟨_,_,_,_,rfl,hl,hk,hs,rfl⟩:=rd.objT_inv
 subst hk;exact⟨_,_,_,rfl,hl,pY hn⟩
theorem kZ(M:Mn X.K U C m qual st ps f fd)(G:FnOk X.prog X.w X.K X.mg X.base CX0 k f fd ps (SpE np X.K U mk g))(hr:Room k X.A)(hb:φ.bor j=false)(ho:PE X o (oS X.K U j pf))(ha:PA X (e::es) (tIO X.K U as))(has:zz5 as=true)(hnp:np=as.length+1)(hm:mk=oV)
  (hst:StE e es X:=by rfl) (hpl:BkE pos es X:=by rfl)
  (ht:eval (.Call (.Attribute o m apos) (e::es) [] pos) X.env=(do
   let ov<-eval o X.env
   standAt apos.atName
   let (f,first)<-holding [ov] (getMethod ov m pl)
   callWith pos f first (backTo pos (starEach (e::es) X.env)) (backToKw pos (keywordEach [] X.env))):=by rfl):
  QE X U φ (.Call (.Attribute o m apos) (e::es) [] pos) (dI j pf (cB as) (dX C m g)):=(xv8 ho M.c M.h G hr M.b .nil zc5 ha hst hpl ht).imp fun σ H Q hh_=>by
 obtain⟨ps,F,d,ps',R,e,q⟩:=hh_
 obtain⟨d0,pp,ys,d0',e0,ep,eg,em,rfl⟩:=zH e
 obtain⟨dd,dn,gp,hh⟩:=nU em
 refine⟨ps,pp,d0,dd,R.ws,e0,ep,gp,fun v H1 v0 s1 ev a1=> ?_⟩
 obtain⟨a,dx,fs,rfl,hl,hn⟩:=xn8 R s1 e0 ev em a1
 refine⟨a,dx,fs,rfl,hl,hn,ps,ys,R.ws.same s1,eg,fun us H2 s2 a2=> ?_⟩
 show SpE np X.K U mk g (_::(us++[])) H2 Q E0
 rw [Zj]
 exact xn7 R (s1.trans s2) hb e0 ev em (a1.same s2) (a2.reps has) (by rw [hnp,a2.len.2]) hm q
end
structure Kn(K:tz0)(mg:tzA)(U:tz9)(C qual:Str)(st:Stmt)(ps:List Str)(f:Addr)(fd:FuncData):Prop where
 F:Fun K "__init__" qual st f fd
 b:lJ K fd ps []
 M:Mk K (U C) f
 m:mg C=some (.ref (U C))
def eZ(C:Str)(ga:tz3)(g:tz7):tz2:=fun ps=>(ga ps).bind fun ys=>(g (.obj true C [] []::ys)).bind fun r=>match r with
 |(.non,d'::_)=>some d'
 |_=>none
theorem yt9(h:eZ C ga g ps=some d):∃ys ds,ga ps=some ys/\g (.obj true C [] []::ys)=some (.non,d::ds):=by
 obtain⟨ys,e1,e2⟩:=bind_some h
 obtain⟨⟨r,ds⟩,e3,e4⟩:=bind_some e2
 cases r with
 |non=>cases ds with
  |nil=>cases e4
  |cons d1 ds=>cases e4;exact⟨ys,ds,e1,e3⟩
 |_=>cases e4
section
variable{X:Cx}{U:tz9}{e:Expr}{es:List Expr}{C qual:Str}{st:Stmt}{ps:List Str}{f:Addr}{fd:FuncData}{k np:Nat}{mk:Nat->Bool}{g:tz7}{as:List Arg}{pos p:Pos}
theorem xx8{H H1:Hp}{Q:VK}{d:D}{ys ds:List D}{us:List V}{x dx:Addr}(s1:SameK H H1)(hx:H1 x=none)(hdx:H1 dx=none)(hne:dx≠x)(ry:Reps X.K U H1 us ys [])(hnp:np=ys.length+1)(hm:mk=oV)(eg:g (.obj true C [] []::ys)=some (.non,d::ds))(q:lF X.K U H d Q):
  SpE np X.K U mk g (.ref x::us) (upd (upd H1 dx (.own x)) x (.ins (U C) dx [])) (fun v H2=>v= .non/\Q (.ref x) H2) E0:=by
 subst hnp hm
 have ne:∀a o,H1 a=some o->a≠x/\a≠dx:=fun a o h=>⟨fun z=>(by rw [z,hx] at h;cases h),fun z=>(by rw [z,hdx] at h;cases h)⟩
 have up:∀a o,H1 a=some o->upd (upd H1 dx (.own x)) x (.ins (U C) dx []) a=some o:=fun a o h=>by rw [bI (ne a o h).1,bI (ne a o h).2];exact h
 have gr:∀a,upd (upd H1 dx (.own x)) x (.ins (U C) dx []) a=none->H1 a=none:=fun a h=>by
  by_cases z:a=x
  ·rw [z];exact hx
  ·rw [bI z] at h
   by_cases z2:a=dx
   ·rw [z2];exact hdx
   ·rwa [bI z2] at h
 have s2:SameK H1 (upd (upd H1 dx (.own x)) x (.ins (U C) dx [])):=⟨fun a o h _=>up a o h,gr⟩
 have r0:Rep X.K U (upd (upd H1 dx (.own x)) x (.ins (U C) dx [])) (.ref x) (.obj true C [] []) [x]:= .obj (fs:=[]) cV rfl .nil
 have ry2:Reps X.K U (upd (upd H1 dx (.own x)) x (.ins (U C) dx [])) us ys []:=ry.move (fun a o h _=>up a o h) fun a ha=>absurd ha (by simp)
 refine⟨by rw [Z6,ry.length],_,.non,d::ds,uR [x],by simp,zk5 r0 (by simp) ry2,eg,fun u H' F' fv s o rv=>⟨by cases rv;rfl,?_⟩⟩
 obtain⟨v2,fp2,k1,k2,k3,_⟩:=s.rs.rep 0 d rfl
 have ek:v2= .ref x:=by
  have:(List.map some (V.ref x::us))[0]? =some (some v2):=k1
  simp at this;exact this.symm
 subst ek
 have k3':=k3 (by simp [fxE,oV])
 subst k3'
 refine q (.ref x) H' (F' 0) ⟨fun a o h hk=> ?_,fun a h=>s1.grow a (gr a (s.fr.grow a h))⟩ (fun a ha=> ?_) (s.rs.nd 0) k2
 ·have h1:=s1.keep a o h hk
  refine s.fr.keep a o (up a o h1) hk fun i hi=> ?_
  have:=(lR hi).2
  simp at this
  exact(ne a o h1).1 this
 ·rcases s.nw 0 a ha with ⟨i,hi⟩|z
  ·have:=(lR hi).2
   simp at this
   subst this
   exact s1.grow a hx
  ·exact s1.grow a (gr a z)
theorem mR(Kd:Kn X.K X.mg U C qual st ps f fd)(G:FnOk X.prog X.w X.K X.mg X.base CX0 k f fd ps (SpE np X.K U mk g))(hr:Room (k+1) X.A)(hg:Gl X C)(ha:PA X (e::es) (tIO X.K U as))(has:zz5 as=true)(hnp:np=as.length+1)(hm:mk=oV)
  (hdb:NDb C:=by decide) (he:StE e es X:=by rfl) (hpl:BkE pos es X:=by rfl):
  QP X U (.Call (.Name C p) (e::es) [] pos) (eZ C (cB as) g):=(xv9 Kd.M G hr hg Kd.m Kd.b .nil zc5 ha hdb he hpl).imp fun σ H Q hh_=>by
 obtain⟨ps,d,w,e,q⟩:=hh_
 obtain⟨ys,ds,e1,e2⟩:=yt9 e
 refine⟨ps,ys,w,e1,fun us H1 s1 a1 x dx hx hdx hne=> ?_⟩
 show SpE np X.K U mk g (_::(us++[])) _ _ E0
 rw [Zj]
 exact xx8 s1 hx hdx hne (a1.reps has) (by rw [hnp,a1.len.2]) hm e2 q
end
section
variable{X:Cx}{U:tz9}
theorem xd4:MtR X "str.startswith" (fun x xs H Q=>∃z y,x= .str z/\xs=[.str y]/\Q (.bl (Txt.startswith z y)) H):=⟨by
 intro pins s σ H x xs v us Q I rx r h
 obtain⟨z,y,rfl,rfl,q⟩:=h
 obtain⟨t,rfl⟩:=rx
 obtain⟨u,rfl,t',rfl⟩:=oF r
 exact SC.startswith ⟨.bl _,H,I.tok _,rfl,q⟩⟩
def qA:D->tz6
 | .str z,[.str y]=>some (.bl (Txt.startswith z y))
 |_,_=>none
theorem yd3:MtR X "str.startswith" (PMt X.K U qA):=⟨by
 rintro pins s σ H x vs v us Q I rx r ⟨dx,ds,fx,fp,d,r1,rs,e,q⟩
 unfold qA at e
 split at e
 ·cases e
  obtain⟨w,rfl,r2⟩:=rs.one_inv
  exact xd4 pins s σ H x _ v us Q I rx r ⟨_,_,r1.is_str,by rw [r2.is_str],q.now (.bl _)⟩
 ·cases e⟩
end
theorem dD(n:Nat):bE (true::List.replicate n false)=oV:=by
 funext i
 unfold bE oV
 cases i with
 |zero=>rfl
 |succ i=>
  rw [Yw,Yv]
  split<;>simp
def kap:List (Str×Addr)->tz9
 |[],_=>mainGlobals
 |(x,a)::r,y=>if x=y then a else kap r y
section
variable{X:Cx}{pins:tzB}{σ:St}{H:Hp}{s:Shared}{a C dx:Addr}{fs:List (Str×V)}
theorem Inv.freeze(I:Inv X pins σ H s)(h:H a=some (.ins C dx fs)):Inv X pins σ (upd H a (.frz (PySem.W.instObj C dx) (.ins C dx fs))) s:=by
 have ne:∀b,H b=none->b≠a:=fun b hb z=>by rw [z,h] at hb;cases hb
 have nt:∀b o,H b=some o->(∀C' dx' fs',o≠ .ins C' dx' fs')->b≠a:=fun b o hb ho z=>by
  rw [z,h] at hb
  cases hb
  exact ho _ _ _ rfl
 refine⟨I.ok,I.os,I.bare,⟨I.base.keep,I.base.slot,fun b o h1 h2 h3=> ?_,I.base.there,fun b xs h1=> ?_,fun b o u h1=> ?_,fun b ps h1=> ?_⟩,I.loc,I.cell,?_,fun x c e=> ?_,fun p hp=> ?_,fun b o e=> ?_,I.len⟩
 ·have:=I.base.free b o h1 h2 h3
  rw [bI (ne b this)];exact this
 ·have:=I.base.tups b xs h1
  rw [bI (nt b _ this fun _ _ _ z=>by cases z)];exact this
 ·have:=I.base.frzs b o u h1
  rw [bI (nt b _ this fun _ _ _ z=>by cases z)];exact this
 ·obtain⟨more,this⟩:=I.base.tbls b ps h1
  exact⟨more,by rw [bI (nt b _ this fun _ _ _ z=>by cases z)];exact this⟩
 ·rw [bI (ne _ I.free)];exact I.free
 ·have:=I.freeC x c e
  rw [bI (ne _ this)];exact this
 ·obtain⟨p1,p2,p3⟩:=I.pin p hp
  exact⟨p1,by rw [bI (ne _ p2)];exact p2,p3⟩
 ·have st:∀{b o},dH X.prog X.w H s.heap b o->dH X.prog X.w (upd H a (.frz (PySem.W.instObj C dx) (.ins C dx fs))) s.heap b o:=fun x=>
   x.stay (fun _ _ _ q=>q) (fun b' hb=>by rw [bI (nt b' _ hb fun _ _ _ z=>by cases z)];exact hb) fun b' xs hb=>by rw [bI (nt b' _ hb fun _ _ _ z=>by cases z)];exact hb
  by_cases z:b=a
  ·subst z
   rw [cV] at e
   cases e
   have x:=I.hok b _ h
   obtain⟨_,_,_,ob,_⟩:=(show dH X.prog X.w H s.heap b (.ins C dx fs) from x)
   exact⟨ob,st x⟩
  ·rw [bI z] at e
   exact st (I.hok b o e)
end
theorem PE.frz(h:PE X e t):PE X e (fun σ H Q=>t σ H fun x H'=>∃a C dx fs,x= .ref a/\H' a=some (.ins C dx fs)/\Q x (upd H' a (.frz (PySem.W.instObj C dx) (.ins C dx fs)))):=⟨by
 intro pins s σ H Q I q
 exact thn (h pins s σ H _ I q) fun v s1 ⟨x,H1,I1,rx,a,C,dx,fs,ex,ea,q1⟩=>⟨x,_,I1.freeze ea,rx,q1⟩⟩
def nF(f:tz2):tz2:=fun ps=>(f ps).bind fun d=>match d with
 | .obj true C ns vs=>if D.imms vs=true then some (.obj false C ns vs) else none
 |_=>none
theorem zk7(h:QP X U e f):QP X U e (nF f):=
 (PE.frz h).imp fun σ H Q hh_=>by
  obtain⟨ps,d,w,e,q⟩:=hh_
  obtain⟨d0,e1,e2⟩:=bind_some e
  refine⟨ps,d0,w,e1,fun v H1 fv s1 n1 nd1 r1=> ?_⟩
  cases d0 with
  | obj o C ns vs=>cases o with
   | true=>
    have e2':(if D.imms vs=true then some (D.obj false C ns vs) else none)=some d:=e2
    obtain⟨hi,e3⟩:=bU e2'
    cases e3
    obtain⟨l,dx,fs,g,rfl,hl,hn,hs,rfl⟩:=r1.objT_inv
    have eg:=hs.imm hi
    subst eg
    have hln:=n1 l Z0
    have up:∀b o,H b=some o->b≠l:=fun b o hb z=>by rw [z,hln] at hb;cases hb
    refine⟨l,U C,dx,fs,rfl,hl,q (.ref l) _ [] ⟨fun b o hb hk=> ?_,fun b hb=> ?_⟩ (fun _ h=>absurd h (by simp)) Zm (.objF cV hn (hs.move (fun b o hb ht=> ?_) fun _ h=>absurd h (by simp)))⟩
    ·rw [bI (up b o hb)];exact s1.keep b o hb hk
    ·by_cases z:b=l
     ·rw [z,cV] at hb;cases hb
     ·rw [bI z] at hb;exact s1.grow b hb
    ·by_cases z:b=l
     ·rw [z,hl] at hb;cases hb;cases ht
     ·rw [bI z];exact hb
   |false=>cases e2
  |_=>cases e2
section
variable{X:Cx}{U:tz9}
theorem xn9:MtR X "str.rfind" (fun x xs H Q=>∃z y,x= .str z/\xs=[.str y]/\Q (.int (Txt.rfind z y)) H):=⟨by
 intro pins s σ H x xs v us Q I rx r h
 obtain⟨z,y,rfl,rfl,q⟩:=h
 obtain⟨t,rfl⟩:=rx
 obtain⟨u,rfl,t',rfl⟩:=oF r
 exact SC.rfind ⟨.int _,H,I.tok _,⟨_,rfl⟩,q⟩⟩
def za9:D->tz6
 | .str z,[.str y]=>some (.int (Txt.rfind z y))
 |_,_=>none
theorem xx9:MtR X "str.rfind" (PMt X.K U za9):=⟨by
 rintro pins s σ H x vs v us Q I rx r ⟨dx,ds,fx,fp,d,r1,rs,e,q⟩
 unfold za9 at e
 split at e
 ·cases e
  obtain⟨w,rfl,r2⟩:=rs.one_inv
  exact xn9 pins s σ H x _ v us Q I rx r ⟨_,_,r1.is_str,by rw [r2.is_str],q.now (.int _)⟩
 ·cases e⟩
end
def ze4(f:PSt->Option (Bool×PSt)):PSt->Option (Bool×PSt):=fun ps=>(f ps).bind fun r=>some (!r.1,r.2)
def fTE(f:tz8):PSt->Option (Bool×PSt):=fun ps=>(f ps).bind fun r=>(zs7 r.1).bind fun b=>some (b,r.2)
section
variable{X:Cx}{U:tz9}{φ:F0}{a b:Expr}{pos:Pos}
theorem yn4(h:QTE X U φ a f):QTE X U φ (.UnaryOp .Not a pos) (ze4 f):=(zj0 h).imp fun σ H Q hh_=>by
 obtain⟨ps,F,c,ps',R,e,q⟩:=hh_
 obtain⟨⟨c1,p1⟩,e1,e2⟩:=bind_some e
 cases e2
 exact⟨ps,F,c1,p1,R,e1,fun H' F' s=>q H' F' s⟩
theorem yn5(h:QE X U φ a f)(he:∀whole,isTrue a X.env whole=(do let v<-whole;standAt a.pos;holding [v] (truthy v)):=by intro _;rfl):QTE X U φ a (fTE f):=(yb0 h he).imp fun σ H Q hh_=>by
 obtain⟨ps,F,c,ps',R,e,q⟩:=hh_
 obtain⟨⟨d,p1⟩,e1,e2⟩:=bind_some e
 obtain⟨c1,e3,e4⟩:=bind_some e2
 cases e4
 exact⟨ps,F,d,p1,R,e1,fun v H' F' fv s o r=>⟨_,ym5 r e3,q H' F' s⟩⟩
end
def xs3:D->Option (List D)
 | .tup ds=>some ds
 |_=>none
theorem xd5(h:xs3 d=some ys):d= .tup ys:=by
 unfold xs3 at h
 split at h
 ·cases h;rfl
 ·cases h
def nI(is:List Nat)(f:tz1):List D->tz1
 |[],ps=>some (.nx,ps)
 | d::ds,ps=>(xs3 d).bind fun ys=>if ys.length=is.length then(f (vJ ps is ys)).bind fun q=>match q with
   |(.nx,p)=>nI is f ds p
   |(.ct,p)=>nI is f ds p
   |(.bk,p)=>some (.nx,p)
   |(.ret d,p)=>some (.ret d,p)
  else none
def zz6(is:List Nat)(fi:tz3)(f:tz1):tz1:=fun ps=>(fi ps).bind fun ds=>nI is f ds ps
def yx4:D->Option (List D)
 | .lst true xs=>if D.imms xs=true then some xs else none
 |_=>none
theorem yu0(h:yx4 d=some xs):d= .lst true xs/\D.imms xs=true:=by
 unfold yx4 at h
 split at h
 ·obtain⟨h1,h2⟩:=bU h
  cases h2
  exact⟨rfl,h1⟩
 ·cases h
def DkT{α:Type}:Sem α->Prop
 | .pure _=>True
 | .raise _=>True
 | .unsupported _=>True
 | .rule _ k=>∀x,DkT (k x)
 | .at _ k=>∀x,DkT (k x)
 | .load _ _ k=>∀x,DkT (k x)
 | .update _ _ f k=>(∀o:Obj,(f o).dict=o.dict)/\∀x,DkT (k x)
 | .alloc _ k=>∀x,DkT (k x)
 | .stack k=>∀x,DkT (k x)
 |_=>False
theorem DkT.bind{α β:Type}{f:α->Sem β}(hf:∀a,DkT (f a)):∀{m:Sem α},DkT m->DkT (m>>=f):=by
 intro m
 show DkT m->DkT (m.bind f)
 induction m with
 |pure a=>exact fun _=>hf a
 |raise=>exact fun _=>trivial
 |unsupported=>exact fun _=>trivial
 |rule _ k ih=>exact fun h x=>ih x (h x)
 |«at» _ k ih=>exact fun h x=>ih x (h x)
 |load _ _ k ih=>exact fun h x=>ih x (h x)
 |update _ _ f k ih=>exact fun h=>⟨h.1,fun x=>ih x (h.2 x)⟩
 |alloc _ k ih=>exact fun h x=>ih x (h x)
 |stack k ih=>exact fun h x=>ih x (h x)
 |_=>exact fun h=>h.elim
def KDs(h h':Heap):Prop:=∀(b:Nat) (o:Obj),h.objs[b]? =some o->∃o':Obj,h'.objs[b]? =some o'/\o'.dict=o.dict
theorem KDs.refl(h:Heap):KDs h h:=fun b o e=>⟨o,e,rfl⟩
theorem KDs.trans(x:KDs a b)(y:KDs b c):KDs a c:=fun i o e=>by
 obtain⟨o1,e1,q1⟩:=x i o e
 obtain⟨o2,e2,q2⟩:=y i o1 e1
 exact⟨o2,e2,q2.trans q1⟩
theorem yu1(d:∀o:Obj,(f o).dict=o.dict)(h:Heap):KDs h (h.update a f):=fun b o e=>by
 obtain⟨os,l⟩:=h
 show ∃o':Obj,(os.modify a f)[b]? =some o'/\o'.dict=o.dict
 have e':os[b]? =some o:=e
 rw [Array.getElem?_modify,e']
 split
 ·exact⟨_,rfl,d o⟩
 ·exact⟨o,rfl,rfl⟩
theorem xo0(h:Heap)(x:Obj):KDs h (h.push x):=fun b o e=>by
 obtain⟨os,l⟩:=h
 have e':os[b]? =some o:=e
 refine⟨o,?_,rfl⟩
 show(os.push x)[b]? =some o
 have hl:=(Array.getElem?_eq_some_iff.mp e').1
 rw [Array.getElem?_push,if_neg (ZE hl)];exact e'
theorem wm6:∀(t:Sem α),DkT t->∀{Q:α->Pos->Shared->Prop} (p:Pos) (s:Shared),Sem.wp M Γ t Q E p s->Sem.wp M Γ t (fun a p s'=>Q a p s'/\KDs s.heap s'.heap) E p s:=by
 intro t
 have up:∀{t:Sem α} {Q:α->Pos->Shared->Prop} {p:Pos} {s:Shared} {h:Heap},KDs h s.heap->Sem.wp M Γ t (fun a p s'=>Q a p s'/\KDs s.heap s'.heap) E p s->Sem.wp M Γ t (fun a p s'=>Q a p s'/\KDs h s'.heap) E p s:=fun k x=>Sem.wp_mono M Γ _ (fun _ _ _ z=>⟨z.1,k.trans z.2⟩) (fun _ _ _ z=>z) _ _ x
 induction t with
 |pure a=>exact fun _ Q p s h=>⟨h,.refl _⟩
 |raise e=>exact fun _ Q p s h=>h
 |unsupported=>exact fun _ Q p s h=>h
 |rule _ k ih=>exact fun d Q p s h=>ih () (d ()) p s h
 |«at» p' k ih=>exact fun d Q p s h=>ih () (d ()) p' s h
 |load a _ k ih=>exact fun d Q p s h=>by obtain⟨o,e,h⟩:=h;exact⟨o,e,ih o (d o) p s h⟩
 |update a _ f k ih=>exact fun d Q p s h=>⟨h.1,up (yu1 d.1 _) (ih () (d.2 ()) p _ h.2)⟩
 |alloc o k ih=>exact fun d Q p s h=>up (t:=k s.heap.objs.size) (s:={s with heap:=s.heap.push o}) (xo0 _ o) (ih _ (d _) p _ h)
 |stack k ih=>exact fun d Q p s h=>ih _ (d _) p s h
 |_=>exact fun d=>d.elim
theorem tD(d:DkT t)(h:wpAny M A t Q E s):wpAny M A t (fun a s'=>Q a s'/\KDs s.heap s'.heap) E s:=
 fun Γ p hΓ=>wm6 t d p s (h Γ p hΓ)
theorem zq8(o:Obj)(f:Array Value->Array Value):(Obj.mapFields f o).dict=o.dict:=by
 unfold Obj.mapFields
 split<;>rfl
theorem zq9:DkT (load a):=fun _=>trivial
theorem wX{v:Value}{i:Nat}:DkT (field v i):=by
 unfold field fieldsOf
 refine DkT.bind (fun _=>by split<;>trivial) ?_
 split
 ·exact DkT.bind (fun _=>by split<;>trivial) zq9
 ·trivial
theorem yd4{v x:Value}{i:Nat}:DkT (setField v i x):=by
 unfold setField updateField
 split
 ·refine DkT.bind (fun _=> ?_) zq9
  split
  ·split
   ·exact⟨fun o=>zq8 o _,fun _=>trivial⟩
   ·trivial
  ·trivial
 ·trivial
theorem zK{e:Value}{f:Option Addr}:DkT (setFlight e f):=by
 unfold setFlight
 refine DkT.bind (fun _=> ?_) wX
 split
 ·exact yd4
 ·trivial
theorem yd5:∀l:List Env,DkT (readyFrames l)
 |[]=>trivial
 | env::outer=>by
  unfold readyFrames
  split
  ·refine DkT.bind (fun _=> ?_) zq9
   split
   ·trivial
   ·refine DkT.bind (fun _=>DkT.bind (fun _=>DkT.bind (fun _=>yd5 outer) (by exact⟨fun _=>rfl,fun _=>True.intro⟩)) ?_) ?_
    ·unfold keptBack
     split
     ·split
      ·trivial
      ·exact DkT.bind (fun _=>by exact True.intro) (DkT.bind (fun _=>by exact True.intro) (by exact fun _=>True.intro))
     ·trivial
    ·unfold behindIsImport
     split
     ·trivial
     ·split
      ·trivial
      ·exact DkT.bind (fun _=>by exact True.intro) wX
  ·trivial
theorem yn6{e:Value}{env:Env}:DkT (noteFrame e env):=by
 unfold noteFrame
 split
 ·refine DkT.bind (fun hd=> ?_) wX
  have nw:∀{f:Addr} {b:Bool},DkT (do setField e 1 (<-EntryCells.newEntry hd (<-PySem.frameOf env) .none (rawInt f) .none (<-entryPlaceOf f b))):=fun {f b}=>by
   refine DkT.bind (fun _=>DkT.bind (fun _=>DkT.bind (fun _=>yd4) ?_) ?_) ?_
   ·unfold EntryCells.newEntry newFields newObj newObjAsIs
    dsimp only
    split<;>split<;>first|exact True.intro|exact fun _=>True.intro
   ·unfold entryPlaceOf
    refine DkT.bind (fun _=> ?_) (by exact fun _=>True.intro)
    split<;>trivial
   ·unfold PySem.frameOf
    refine DkT.bind (fun _=>DkT.bind (fun _=>by split<;>trivial) ?_) (DkT.bind (fun _=>by exact True.intro) (by exact fun _=>True.intro))
    unfold frameObject
    split
    ·trivial
    ·exact DkT.bind (fun _=>by exact True.intro) (yd5 _)
  split
  ·refine DkT.bind (fun _=> ?_) wX
   split
   ·exact True.intro
   ·exact DkT.bind (fun _=>nw) yd4
  ·exact nw
 ·trivial
theorem yd6{e:Value}{env:Env}:DkT (leaving env e):=DkT.bind (fun _=>zK) yn6
def KD(e:Addr)(dd:Option Addr)(h:Heap):Prop:=∃o,h.get? e=some o/\o.dict=dd
theorem yd7{h:Heap}{e:Addr}{o:Obj}(q:h.get? e=some o):h.objs[e]? =some o:=by
 unfold Heap.get? at q
 split at q
 ·cases q
 ·exact q
theorem KD.step{e:Addr}{dd:Option Addr}{h h':Heap}(k:KD e dd h)(s:KDs h h')(t:∃o,h'.get? e=some o):KD e dd h':=by
 obtain⟨o,q1,q2⟩:=k
 obtain⟨o',q3⟩:=t
 obtain⟨o2,q4,q5⟩:=s e o (yd7 q1)
 rw [yd7 q3] at q4
 cases q4
 exact⟨o',q3,q5.trans q2⟩
section
variable{M:Model}{A:Around}{E:Value->Shared->Prop}{s:Shared}{base:Heap}{env:Env}{outer:List Env}{L e:Addr}{oe:Obj}{vs:Array Value}{dd:Option Addr}{cls a0:Value}
theorem yu2(fr:A.frames=some (env::outer))(hf:env.frame=some L)(fl:Heap.FlyingW base (env::outer) e cls a0 s.heap)(kd:KD e dd s.heap)(q:∀h',Heap.FlyingW base outer e cls a0 h'->s.heap.UpToSlots h'->KD e dd h'->Q () {s with heap:=h'}):wpAny M A (leaving env (.ref e)) Q E s:=
 ZH (tD yd6 (wpAny_leaves_onW (Q:=fun _ s'=>∃h',s'={s with heap:=h'}/\Heap.FlyingW base outer e cls a0 h'/\s.heap.UpToSlots h') fr hf fl fun h' x y=>⟨h',rfl,x,y⟩)) (fun _ _ h=>by
  obtain⟨⟨h',rfl,x,y⟩,z⟩:=h
  exact q h' x y (kd.step z (x.there.imp fun _ w=>w.1))) fun _ _ h=>h
theorem xd6(fr:A.frames=some (env::outer))(ff:s.heap.FunFrames base (env::outer))(hf:env.frame=some L)(he:s.heap.get? e=some oe)(kb:base.StaysIn s.heap)(en:base.get? e=none)(hd:oe.data= .fields vs)(h1:vs[1]? =some .none)(h0:vs[0]? =some a0)(kd:oe.dict=dd)
  (q:∀h',Heap.LeftW base (env::outer) e oe.cls a0 s.heap h'->KD e dd h'->Q () {s with heap:=h'}):wpAny M A (leaving env (.ref e)) Q E s:=
 ZH (tD yd6 (wpAny_leaving_firstW (Q:=fun _ s'=>∃h',s'={s with heap:=h'}/\Heap.LeftW base (env::outer) e oe.cls a0 s.heap h') fr ff hf he kb en hd h1 h0 fun h' x=>⟨h',rfl,x⟩)) (fun _ _ h=>by
  obtain⟨⟨h',rfl,x⟩,z⟩:=h
  exact q h' x (KD.step ⟨oe,he,kd⟩ z (x.2.2.1.at.there.imp fun _ w=>w.1))) fun _ _ h=>h
theorem xd7(fr:A.frames=some (env::outer))(hf:env.frame=some L)(fl:Heap.FlyingW base (env::outer) e cls a0 s.heap)(kd:KD e dd s.heap)(q:∀h',Heap.HeldW base (env::outer) e cls a0 L h'->s.heap.UpToSlots h'->KD e dd h'->Q () {s with heap:=h'}):wpAny M A (noteFrame (.ref e) env) Q E s:=
 ZH (tD yn6 (wpAny_looks_onW (Q:=fun _ s'=>∃h',s'={s with heap:=h'}/\Heap.HeldW base (env::outer) e cls a0 L h'/\s.heap.UpToSlots h') fr hf fl fun h' x y=>⟨h',rfl,x,y⟩)) (fun _ _ h=>by
  obtain⟨⟨h',rfl,x,y⟩,z⟩:=h
  exact q h' x y (kd.step z (x.there.imp fun _ w=>w.1))) fun _ _ h=>h
theorem wg2(hh:Heap.HeldW base l e cls a0 L s.heap)(kd:KD e dd s.heap)(q:∀h',Heap.FlyingW base l e cls a0 h'->s.heap.UpToSlots h'->KD e dd h'->Q () {s with heap:=h'}):wpAny M A (setFlight (.ref e) none) Q E s:=
 ZH (tD zK (wpAny_landsW (Q:=fun _ s'=>∃h',s'={s with heap:=h'}/\Heap.FlyingW base l e cls a0 h'/\s.heap.UpToSlots h') hh fun h' x y=>⟨h',rfl,x,y⟩)) (fun _ _ h=>by
  obtain⟨⟨h',rfl,x,y⟩,z⟩:=h
  exact q h' x y (kd.step z (x.there.imp fun _ w=>w.1))) fun _ _ h=>h
theorem xy0(hh:Heap.FlyingW base l e cls a0 s.heap)(kd:KD e dd s.heap)(q:∀h',Heap.FlyingW base l e cls a0 h'->s.heap.UpToSlots h'->KD e dd h'->Q () {s with heap:=h'}):wpAny M A (setFlight (.ref e) none) Q E s:=
 ZH (tD zK (PyProof.Rows.lands_againW (Q:=fun _ s'=>∃h',s'={s with heap:=h'}/\Heap.FlyingW base l e cls a0 h'/\s.heap.UpToSlots h') hh fun h' x y=>⟨h',rfl,x,y⟩)) (fun _ _ h=>by
  obtain⟨⟨h',rfl,x,y⟩,z⟩:=h
  exact q h' x y (kd.step z (x.there.imp fun _ w=>w.1))) fun _ _ h=>h
end
theorem dH.get(x:dH P w H h a o):∃u,h.get? a=some u:=by
 cases o with
 |lst xs=>obtain⟨_,_,_,_,e⟩:=x;exact⟨_,e⟩
 |tup xs=>obtain⟨_,_,_,_,e,_⟩:=x;exact⟨_,e⟩
 |dK kvs=>obtain⟨_,_,_,_,o,_,_,e,_⟩:=x;exact⟨_,e⟩
 |dT kvs=>obtain⟨_,_,_,_,o,_,_,e,_⟩:=x;exact⟨_,e⟩
 |set S n=>obtain⟨o,_,_,_,e,_⟩:=x;exact⟨_,e⟩
 |ins C dx fs=>obtain⟨_,_,_,e,_⟩:=x;exact⟨_,e⟩
 |own y=>exact x
 |xd fs=>obtain⟨_,⟨_,_,_,e,_⟩,_⟩:=x;exact⟨_,e⟩
 |rng lo hi=>obtain⟨_,_,_,e⟩:=x;exact⟨_,e⟩
 |frz ob u=>obtain⟨e,_⟩:=x;exact⟨_,e⟩
 |tbl ps=>exact⟨_,(show h.get? a=some _ from x)⟩
 |met f y=>exact⟨_,(show h.get? a=some _ from x)⟩
 |ext φ=>obtain⟨_,e,_⟩:=x;exact e
theorem HOk.none_of(x:HOk P w H h){a:Addr}(e:h.get? a=none):H a=none:=by
 cases q:H a with
 |none=>rfl
 |some o=>obtain⟨u,z⟩:=(x a o q).get;rw [e] at z;cases z
theorem HOk.but(x:HOk P w H h)(k:∀b o u,H b=some o->h.get? b=some u->h'.get? b=some u):HOk P w H h':=fun a o e=>
 (x a o e).stay (fun b u hb q=>by
  rcases hb with rfl|hb
  ·exact k _ _ _ e q
  ·exact k _ _ _ hb q) (fun _ q=>q) fun _ _ q=>q
theorem zv0(e:(PySem.W.hideAll h as).get? b=none):b∈as\/h.get? b=none:=by
 cases q:h.get? b with
 |none=>exact .inr rfl
 |some o=>
  by_cases m:b∈as
  ·exact .inl m
  ·rw [Yc as q m] at e;cases e
theorem yn7(h:env∈l)(e:env.frame=some a):a∈frs l:=YN.mpr ⟨env,h,e⟩
structure Fly(base:Heap)(C:Addr)(l:List Env)(H:Hp)(h0:Heap)(e T:Addr)(a0:Value)(h:Heap):Prop where
 ne:h0.get? e=none
 nT:h0.get? T=none
 He:H e=none
 HT:H T=none
 st:base.StaysIn h
 be:base.get? e=none
 bT:base.get? T=none
 fr:h.FunFrames base l
 tr:∃oe vs oT ts,h.get? e=some oe/\(oe.cls= .ref C/\vs[0]? =some a0)/\oe.data= .fields vs/\vs[1]? =some (.ref T)/\T≠e/\h.get? T=some oT/\oT.data= .fields ts/\ts[3]? =some .none
abbrev xs4(h:Heap)(l:List Env)(e T:Addr):Heap:=PySem.W.hideAll h (e::T::frs l)
section
variable{base h0 h:Heap}{C e T:Addr}{l:List Env}{H:Hp}{a0:Value}
theorem Fly.flying(x:Fly base C l H h0 e T a0 h):Heap.FlyingW (xs4 h l e T) l e (.ref C) a0 h:=by
 obtain⟨oe,vs,oT,ts,h1,h2,h3,h4,h5,h6,h7,h8⟩:=x.tr
 refine⟨fun b o q=>Xl _ q,YI _ Z0,W8 x.fr fun env m a q=>Z1 _ (Z1 _ (yn7 m q)),?_⟩
 exact⟨oe,vs,T,oT,ts,h1,h2,h3,h4,YI _ (Z1 _ Z0),h5,h6,h7,h8⟩
theorem Fly.base_in(x:Fly base C l H h0 e T a0 h):base.StaysIn (xs4 h l e T):=fun b o q=>by
 refine Yc _ (x.st b o q) fun m=> ?_
 rcases Z4.mp m with z|m
 ·rw [z,x.be] at q;cases q
 ·rcases Z4.mp m with z|m
  ·rw [z,x.bT] at q;cases q
  ·rw [(x.fr.mem m).1] at q;cases q
theorem Fly.next(x:Fly base C l H h0 e T a0 h)(ok:HOk P w H h)(th:∀b o,h0.get? b=some o->∃o',h.get? b=some o'){h':Heap}{l':List Env}(ups:h.UpToSlots h')(f:Heap.FlyingW (xs4 h l e T) l' e (.ref C) a0 h'):∃T',Fly base C l' H h0 e T' a0 h':=by
 obtain⟨k1,k2,k3,oe,vs,T',oT,ts,h1,h2,h3,h4,h5,h6,h7,h8,h9⟩:=f
 have hT:T'=T\/h.get? T'=none:=by
  rcases zv0 h5 with m|m
  ·rcases Z4.mp m with z|m
   ·exact absurd z h6
   ·rcases Z4.mp m with z|m
    ·exact .inl z
    ·obtain⟨_,o,q1,q2⟩:=x.fr.mem m
     obtain⟨sl,q3⟩:=ups T' o q1 q2
     rw [h7] at q3;cases q3
     exact absurd h8 (q2 _)
  ·exact .inr m
 refine⟨T',x.ne,?_,x.He,?_,fun b o q=>k1 b o (x.base_in b o q),x.be,?_,W9 x.base_in k3,oe,vs,oT,ts,h1,h2,h3,h4,h6,h7,h8,h9⟩
 ·rcases hT with z|z
  ·rw [z];exact x.nT
  ·cases q:h0.get? T' with
   |none=>rfl
   |some o=>obtain⟨o',q'⟩:=th _ _ q;rw [z] at q';cases q'
 ·rcases hT with z|z
  ·rw [z];exact x.HT
  ·exact ok.none_of z
 ·cases q:base.get? T' with
  |none=>rfl
  |some o=>have:=x.base_in T' o q;rw [h5] at this;cases this
end
theorem zc9(fr:h.FunFrames base l)(ups:h.UpToSlots h')(st:(PySem.W.hideAll h (S++frs l)).StaysIn h'):Un (frs l) S H H h h':=by
 have kp:∀b o,h.get? b=some o->b∉frs l->b∉S->h'.get? b=some o:=fun b o q n1 n2=>st b o (Yc _ q fun m=>(Zn.mp m).elim n2 n1)
 have sl:∀b o,h.get? b=some o->b∈frs l->∃s,h'.get? b=some {o with slots:=s}:=fun b o q m=>by
  obtain⟨_,o',q1,q2⟩:=fr.mem m
  rw [q] at q1;cases q1
  exact ups b o q q2
 refine⟨fun b o q _ hb hx=>kp b o q hb hx,fun b o q _ hb _=>sl b o q hb,fun _ _ _ n _=>n,fun b o q hx=> ?_,fun _ _ q=>q,fun _ _ _ q=>q,fun _ ps q=>⟨#[],by rw [q];simp⟩⟩
 by_cases hb:b∈frs l
 ·obtain⟨s,e⟩:=sl b o q hb;exact⟨_,e⟩
 ·exact⟨o,kp b o q hb hx⟩
theorem zd0(u:Un fs' ex' H H' h h')(hx:∀b o,h.get? b=some o->b∉ex')(hf:∀b o,h.get? b=some o->b∈fs'->b∈fs):Un fs [] H H' h h':=
 ⟨fun b o q n hb _=>u.keep b o q n (fun z=>hb (hf b o q z)) (hx b o q),fun b o q n _ _=>u.any q n (hx b o q),fun b o q n _=>u.free b o q n (hx b o q),fun b o q _=>u.there b o q (hx b o q),u.tups,u.frzs,u.tbls⟩
theorem wY(ok:HOk P w H h)(hS:∀b∈S,H b=none)(hF:∀b∈frs l,H b=none)(st:(PySem.W.hideAll h (S++frs l)).StaysIn h'):HOk P w H h':=
 ok.but fun b o u e q=>st b u (Yc _ q fun m=>by
  rcases Zn.mp m with m|m
  ·rw [hS b m] at e;cases e
  ·rw [hF b m] at e;cases e)
def CXn(P:Program)(w:World)(base:Heap)(C:Addr):CXT:=fun outer H s E e s'=>∃ea T a0 dd H',e= .ref ea/\s'.os=s.os/\AllBare s'.gens/\Un (frs outer) [] H H' s.heap s'.heap/\HOk P w H' s'.heap/\Fly base C outer H' s.heap ea T a0 s'.heap/\KD ea dd s'.heap/\E (.ref C) dd H'
theorem Fly.down(x:Fly base C l H h1 e T a0 h)(th:∀b o,h0.get? b=some o->∃o',h1.get? b=some o'):Fly base C l H h0 e T a0 h:=by
 have none:∀{b:Addr},h1.get? b=none->h0.get? b=none:=fun {b} z=>by
  cases q:h0.get? b with
  |none=>rfl
  |some o=>obtain⟨o',q'⟩:=th _ _ q;rw [z] at q';cases q'
 exact⟨none x.ne,none x.nT,x.He,x.HT,x.st,x.be,x.bT,x.fr,x.tr⟩
section
variable{P:Program}{w:World}{K:tz0}{mg:tzA}{base:Heap}{N:List Str}{qual:Str}{scope:Scope}{f C:Addr}{cd:Value}{A:Around}{outer:List Env}{s:Shared}{H:Hp}{E:XK}
theorem zd1:frs (envOfC qual scope s.heap.objs.size f cd::outer)=s.heap.objs.size::frs outer:=rfl
theorem wm7:nH (CXn P w base C) (iT (CXn P w base C) P w K mg base N qual scope f cd A outer s H E) E:=by
 intro pins σ H1 s1 e s2 I h
 obtain⟨ea,T,a0,dd,H2,rfl,os,bare,un,hok,fly,kd,q⟩:=h
 have stk:∀b∈frs (envOfC qual scope s.heap.objs.size f cd::outer),H2 b=none:=fun b m=>by
  obtain⟨_,o,q1,_⟩:=(show s1.heap.FunFrames base (envOfC qual scope s.heap.objs.size f cd::outer) from I.stack).mem m
  exact un.free b o q1 (I.stkFree b m) (by simp)
 have th1:∀b o,s1.heap.get? b=some o->∃o',s2.heap.get? b=some o':=fun b o q=>un.there b o q (by simp)
 have th0:∀b o,s.heap.get? b=some o->∃o',s1.heap.get? b=some o':=fun b o q=>I.base.there b o q (by show b∉([]:List Addr);simp)
 show wpAny (model P w) (A.deeper (envOfC qual scope s.heap.objs.size f cd)) (leaving (envOfC qual scope s.heap.objs.size f cd) (.ref ea)) (fun _ s''=>CXn P w base C outer H s E (.ref ea) s'') (fun e' s''=>CXn P w base C outer H s E e' s'') s2
 refine yu2 (L:=s.heap.objs.size) I.ok.frames rfl fly.flying kd fun h' fl ups kd'=> ?_
 obtain⟨T',fly'⟩:=fly.next hok th1 ups fl
 have st:(PySem.W.hideAll s2.heap ([ea,T]++frs (envOfC qual scope s.heap.objs.size f cd::outer))).StaysIn h':=fl.1
 have u1:Un (frs (envOfC qual scope s.heap.objs.size f cd::outer)) [ea,T] H H1 s.heap s1.heap:=(show Un (frs outer) [] H H1 s.heap s1.heap from I.base).mono (fun b m=>by rw [zd1];exact Z1 _ m) (fun b m=>absurd m (by simp))
 have u2:=un.mono (fs':=frs (envOfC qual scope s.heap.objs.size f cd::outer)) (ex':=[ea,T]) (fun b m=>m) (fun b m=>absurd m (by simp))
 have u3:Un (frs (envOfC qual scope s.heap.objs.size f cd::outer)) [ea,T] H2 H2 s2.heap h':=zc9 fly.fr ups st
 refine⟨ea,T',a0,dd,H2,rfl,os.trans (show s1.os=s.os from I.os),bare,zd0 ((u1.trans u2).trans u3) (fun b o q m=> ?_) (fun b o q m=> ?_),wY hok (fun b m=> ?_) stk st,fly'.down th0,kd',q⟩
 ·obtain⟨o',q'⟩:=th0 b o q
  rcases Z4.mp m with z|m
  ·rw [z,fly.ne] at q';cases q'
  ·rw [Za.mp m,fly.nT] at q';cases q'
 ·rw [zd1] at m
  rcases Z4.mp m with z|m
  ·exact absurd (Zk q) (by rw [z];exact Y5 _)
  ·exact m
 ·rcases Z4.mp m with z|m
  ·rw [z];exact fly.He
  ·rw [Za.mp m];exact fly.HT
end
abbrev wl0(C:Addr)(dx:Option Addr)(t:Addr):Obj:={cls:= .ref C,dict:=dx,data:= .fields #[.ref t,.none,.none,.none,.bool false,.none]}
section
variable{P:Program}{w:World}{K:tz0}{mg:tzA}{base:Heap}{N:List Str}{qual:Str}{scope:Scope}{f C:Addr}{cd:Value}{A:Around}{outer:List Env}{s:Shared}{H:Hp}{E:XK}
theorem xd8(I:Inv (iT (CXn P w base C) P w K mg base N qual scope f cd A outer s H E) pins σ H2 s2)(ne:s.heap.get? e=none)(He:H2 e=none)(he:s2.heap.get? e=some (wl0 C dd t))(q:E (.ref C) dd H2):
  (iT (CXn P w base C) P w K mg base N qual scope f cd A outer s H E).xe (.ref e) s2:=by
 have fr1:s2.heap.FunFrames base (envOfC qual scope s.heap.objs.size f cd::outer):=I.stack
 have nf:∀b∈frs (envOfC qual scope s.heap.objs.size f cd::outer),base.get? b=none:=fun b m=>(fr1.mem m).1
 have be:base.get? e=none:=by
  cases z:base.get? e with
  |none=>rfl
  |some o=>have:=(I.ok.bs e o z).1;rw [show(iT (CXn P w base C) P w K mg base N qual scope f cd A outer s H E).s₀.heap.get? e=none from ne] at this;cases this
 have th0:∀b o,s.heap.get? b=some o->∃o',s2.heap.get? b=some o':=fun b o q=>I.base.there b o q (by show b∉([]:List Addr);simp)
 have bin:base.StaysIn (PySem.W.hideAll s2.heap ([e]++frs (envOfC qual scope s.heap.objs.size f cd::outer))):=fun b o q=>by
  refine Yc _ (I.bk b o q) fun m=> ?_
  rcases Zn.mp m with m|m
  ·rw [Za.mp m,be] at q;cases q
  ·rw [nf b m] at q;cases q
 show wpAny (model P w) (A.deeper (envOfC qual scope s.heap.objs.size f cd)) (leaving (envOfC qual scope s.heap.objs.size f cd) (.ref e)) (fun _ s''=>CXn P w base C outer H s E (.ref e) s'') (fun e' s''=>CXn P w base C outer H s E e' s'') s2
 refine xd6 (base:=PySem.W.hideAll s2.heap ([e]++frs (envOfC qual scope s.heap.objs.size f cd::outer))) (L:=s.heap.objs.size) (a0:= .ref t) I.ok.frames (W8 fr1 fun env m a q=>Z8 _ (yn7 m q)) rfl he (fun b o q=>Xl _ q) (YI _ (Zi _ (List.mem_singleton_self e))) rfl rfl rfl rfl fun h'' hL kd=> ?_
 obtain⟨st,fr2,⟨oe,vs2,T,oT,ts,h1,h2,h3,h4,h5,h6,h7,h8,h9⟩,ups⟩:=hL
 have hT:s2.heap.get? T=none:=by
  rcases zv0 h5 with m|m
  ·rcases Zn.mp m with m|m
   ·exact absurd (Za.mp m) h6
   ·obtain⟨_,o,q1,q2⟩:=fr1.mem m
    obtain⟨sl,q3⟩:=ups T o q1 q2
    rw [h7] at q3;cases q3
    exact absurd h8 (q2 _)
  ·exact m
 have hT0:s.heap.get? T=none:=by
  cases z:s.heap.get? T with
  |none=>rfl
  |some o=>obtain⟨o',z'⟩:=th0 T o z;rw [hT] at z';cases z'
 have bT:base.get? T=none:=by
  cases z:base.get? T with
  |none=>rfl
  |some o=>have:=I.bk T o z;rw [hT] at this;cases this
 have u1:Un (frs (envOfC qual scope s.heap.objs.size f cd::outer)) [e] H H2 s.heap s2.heap:=(show Un (frs outer) [] H H2 s.heap s2.heap from I.base).mono (fun b m=>by rw [zd1];exact Z1 _ m) (fun b m=>absurd m (by simp))
 have u3:Un (frs (envOfC qual scope s.heap.objs.size f cd::outer)) [e] H2 H2 s2.heap h'':=zc9 fr1 ups st
 refine⟨e,T,.ref t,dd,H2,rfl,(show s2.os=s.os from I.os),I.bare,zd0 (u1.trans u3) (fun b o q m=> ?_) (fun b o q m=> ?_),wY I.hok (fun b m=> ?_) I.stkFree st,⟨ne,hT0,He,I.hok.none_of hT,fun b o q=>st b o (bin b o q),be,bT,W9 bin fr2.2.2,oe,vs2,oT,ts,h1,h2,h3,h4,h6,h7,h8,h9⟩,kd,q⟩
 ·rw [Za.mp m,ne] at q;cases q
 ·rw [zd1] at m
  rcases Z4.mp m with z|m
  ·exact absurd (Zk q) (by rw [z];exact Y5 _)
  ·exact m
 ·rw [Za.mp m];exact He
theorem xd9(I:Inv (iT (CXn P w base C) P w K mg base N qual scope f cd A outer s H E) pins σ H1 s1)(mk:Heap.MadeExcOf s1.heap h' e (.ref C) vs)(q:E (.ref C) none H1):
  (iT (CXn P w base C) P w K mg base N qual scope f cd A outer s H E).xe (.ref e) {s1 with heap:=h'}:=by
 obtain⟨t,he,ht,_⟩:=mk.there
 refine xd8 (I.kept (t':=s1.toks) mk.keeps) ?_ (I.hok.none_of mk.new) he q
 cases z:s.heap.get? e with
 |none=>rfl
 |some o=>obtain⟨o',z'⟩:=I.base.there e o z (by show e∉([]:List Addr);simp);rw [mk.new] at z';cases z'
theorem xe0(O:OwnCls x C bmB newId mg base)(FB:ExcBaseFacts B newId initId bmB)(hg:Gl (iT (CXn P w base C) P w K mg base N qual scope f cd A outer s H E) x)
  (hd:NDb x:=by decide) (hs:starEach [.Constant (.str z) j p1] (envOfC qual scope s.heap.objs.size f cd)=[(false,eval (.Constant (.str z) j p1) (envOfC qual scope s.heap.objs.size f cd))]:=by rfl):
  PS (iT (CXn P w base C) P w K mg base N qual scope f cd A outer s H E) (.Raise (some (.Call (.Name x np) [.Constant (.str z) j p1] [] cpos)) none pos) (fun _ _ H'=>E (.ref C) none H'):=⟨by
 intro pins s1 σ H1 D I h
 obtain⟨tl,N',nm,q,bs,hdct,sn,sub,ab,col,dd,k0,k1,k2,k3,k5,mN,hC,hN,hni,T⟩:=O.obj
 refine wpAny_Raise_call_subT (C:=C) (nm:=nm) (q:=q) (N:=N') (bs:=bs) (bm:=tl) (hdct:=hdct) (sn:=sn) (sub:=sub) (ab:=ab) (col:=col) (dd:=dd) (k0:=k0) (k1:=k1) (k2:=k2) (k3:=k3) (k5:=k5)
  FB (mN:=mN) (T.hasType FB.hasBase) (I.ok.hd rfl) (by show(backTo cpos (starEach [.Constant (.str z) j p1] (envOfC qual scope s.heap.objs.size f cd))).any (·.1)=false;rw [hs];rfl) hni (pH I hg O.bound ⟨rfl,?_⟩ hd)
 show wpAny (model P w) (A.deeper (envOfC qual scope s.heap.objs.size f cd)) (evalArgs (.ref C) true (backTo cpos (starEach [.Constant (.str z) j p1] (envOfC qual scope s.heap.objs.size f cd))) []) _ _ s1
 rw [hs]
 refine Calls.evalArgs_plain (YW (Calls.Constant_str (k:=j) (pos:=p1) (X3 ?_)))
 have kp:∀b o,base.get? b=some o->s1.heap.get? b=some o:=I.bk
 refine⟨rfl,(show 1<=sizeLine from Zt (by decide) (nW (n:=1) (by decide))),kp _ _ hC,hN.keeps kp,T.keeps kp,fun h' e mk=> ?_⟩
 exact xd9 (I.tok (s1.toks+1)) mk h⟩
end
def tX(φ:Fx)(fx:tz5)(Ex:Hp->Prop):TS:=fun _ σ H=>∃ps F,RS φ H σ ps F/\fx ps=true/\∀H',Frm F H H'->Ex H'
def tW(np:Nat)(K:tz0)(U:tz9)(C:Addr)(g:List D->Bool):Sp:=fun vs H _ E=>vs.length=np/\∃ds fp,Reps K U H vs ds fp/\g ds=true/\∀H',SameK H H'->E (.ref C) none H'
def gX(np n:Nat)(fx:tz5):List D->Bool:=fun ds=>decide (ds.length=np)&&fx (ds.map some++List.replicate n none)
def yD(f:tz1)(fx:tz5):tz5:=fun ps=>match f ps with
 |some (.nx,p)=>fx p
 |_=>false
def xs5(ft:tz4)(fx:tz5):tz5:=fun ps=>match ft ps with
 |some true=>fx ps
 |_=>false
def zn8:tz5:=fun _=>true
abbrev QX(X:Cx)(U:tz9)(φ:F0)(Ex:Hp->Prop)(st:Stmt)(fx:tz5):Prop:=PS X st (tX (φ.fx X.K U) fx Ex)
abbrev QXs(X:Cx)(U:tz9)(φ:F0)(Ex:Hp->Prop)(st:List Stmt)(fx:tz5):Prop:=PSs X st (tX (φ.fx X.K U) fx Ex)
theorem PS.nox{X:Cx}{st:Stmt}{t:TS}(h:PS X.nox st t):PS X st t:=⟨fun pins s σ H D I hw=>
 ZH (h pins s σ H D (I.wish _) hw) (fun _ _ q=>q.unwish) fun _ _ z=>False.elim z⟩
theorem xe1(k:Frm (fun _=>[]) H H'):SameK H H':=⟨fun a o h kk=>k.keep a o h kk (fun _=>by simp),k.grow⟩
section
variable{P:Program}{w:World}{K:tz0}{mg:tzA}{base:Heap}{U:tz9}{C:Addr}
theorem zL{x qual:Str}{st:Stmt}{f:Addr}{fd:FuncData}{N ps:List Str}{k:Nat}{fx:tz5}(F:Fun K x qual st f fd)(S:FnScope N ps (aS st))
  (hbody:∀(cdv:Value) (A:Around) (outer:List Env) (s:Shared) (H:Hp) (E:XK) (B:Nat->Addr->Prop),Room k (A.deeper (envOfC qual (aS st) s.heap.objs.size f cdv))->
   QXs (iT (CXn P w base C) P w K mg base N qual (aS st) f cdv A outer s H E) U (f0P ps.length B) (E (.ref C) none) (mU st) fx):
  FnOk P w K mg base (CXn P w base C) (k+1) f fd ps (tW ps.length K U C (gX ps.length (N.length-ps.length) fx)):=by
 obtain⟨oc,od,kV,doc,pm,an,cdv,ct,osl,rfl,lk,hcd⟩:=F.ex
 refine xt3 lk hcd S (fun vs H Q E h=>h.1) fun A outer s H vs Q E hr hsp=> ?_
 obtain⟨hl,ds,fp,r,e,q⟩:=hsp
 have hn:ps.length<=N.length:=by have:=ZN List.length S.pre;rw [YG] at this;omega
 refine⟨_,hbody cdv A outer s H E (fun _ a=>a∈fp) hr,_,fun _=>[],RS.start r hl hn,?_,fun H' fr=>q H' (xe1 fr)⟩
 unfold gX at e
 exact(Bool.and_eq_true_iff.mp e).2
end
section
variable{X:Cx}{U:tz9}{φ:F0}{Ex:Hp->Prop}{fx:tz5}{st:Stmt}{rest:List Stmt}{pos:Pos}
theorem zM:PSs X rest (fun _ _ _=>False):=⟨fun _ _ _ _ _ _ h=>h.elim⟩
theorem xy1{f:tz1}(h1:QS X.nox U φ st f)(h2:QXs X U φ Ex rest fx):QXs X U φ Ex (st::rest) (yD f fx):=
 (jM (PS.nox h1) h2).imp fun D σ H hh_=>by
  obtain⟨ps,F,R,e,q⟩:=hh_
  unfold yD at e
  split at e
  ·rename_i p he
   refine⟨ps,F,.nx,p,R,he,fun σ' H' F' s=>⟨p,F',s.rs,e,fun H'' fr=>q H'' ⟨fun a o h k n=>fr.keep a o (s.fr.keep a o h k n) k fun i m=> ?_,fun a z=>s.fr.grow a (fr.grow a z)⟩⟩⟩
   rcases s.nw i a m with ⟨j,z⟩|z
   ·exact n j z
   ·rw [z] at h;cases h
  ·cases e
theorem zd2(h1:QX X U φ Ex st fx):QXs X U φ Ex (st::rest) fx:=(jM h1 zM).imp fun D σ H h=>h
theorem wm8(hc:QT X.nox U c ft)(ha:QXs X U φ Ex a fx):QX X U φ Ex (.If c a b pos) (xs5 ft fx):=
 (zy4 (PT.nox hc) ha zM).imp fun D σ H hh_=>by
  obtain⟨ps,F,R,e,q⟩:=hh_
  unfold xs5 at e
  split at e
  ·rename_i he
   refine⟨ps,true,R.ws,he,fun H' s=> ?_⟩
   show(if true=true then tX (φ.fx X.K U) fx Ex D σ H' else _)
   rw [if_pos rfl]
   exact⟨ps,F,R.same s,e,fun H'' fr=>q H'' ⟨fun a o h k n=>fr.keep a o (s.keep a o h k) k n,fun a z=>s.grow a (fr.grow a z)⟩⟩
  ·cases e
end
section
variable{P:Program}{w:World}{K:tz0}{mg:tzA}{base:Heap}{N:List Str}{qual:Str}{scope:Scope}{f C:Addr}{cd:Value}{A:Around}{outer:List Env}{s:Shared}{H:Hp}{E:XK}{U:tz9}{φ:F0}
theorem yd8(O:OwnCls x C bmB newId mg base)(FB:ExcBaseFacts B newId initId bmB)(hg:Gl (iT (CXn P w base C) P w K mg base N qual scope f cd A outer s H E) x)
  (hd:NDb x:=by decide) (hs:starEach [.Constant (.str z) j p1] (envOfC qual scope s.heap.objs.size f cd)=[(false,eval (.Constant (.str z) j p1) (envOfC qual scope s.heap.objs.size f cd))]:=by rfl):
  QX (iT (CXn P w base C) P w K mg base N qual scope f cd A outer s H E) U φ (E (.ref C) none) (.Raise (some (.Call (.Name x np) [.Constant (.str z) j p1] [] cpos)) none pos) zn8:=
 (xe0 O FB hg hd hs).imp fun D σ H' hh_=>by
  obtain⟨ps,F,R,e,q⟩:=hh_
  exact q H' ⟨fun a o h _ _=>h,fun a h=>h⟩
end
theorem PA.nox(h:PA X.nox es t):PA X es t:=⟨fun pos pins s σ H Q I hw=>
 ZH (h pos pins s σ H Q (I.wish _) hw) (fun _ _ q=>by obtain⟨vs,H',I',r,q⟩:=q;exact⟨vs,H',I'.unwish,r,q⟩) fun _ _ z=>False.elim z⟩
abbrev bmV:List Value:=[.type "ValueError",.type "Exception",.type "BaseException",.type "object"]
theorem yn8{K:tz0}{h:Heap}{C:Addr}{bm:List Value}{nid:String}(X:K.In h)(q:PySem.W.excIn K C bm nid=true):
  ∃bm' N nm qn bs hd sn sub ab col dd k0 k1 k2 k3 k5 mN,h.get? C=some (excClassObj nm qn C N bs bm' hd sn sub ab col dd k0 k1 k2 k3 k5 nid)/\h.Ns N mN/\mN "__init__"=none/\OwnTail h bm bm':=by
 unfold PySem.W.excIn at q
 split at q
 case h_2=>cases q
 rename_i dd c sl look
 split at q
 case h_2=>cases q
 rename_i C1 bm1 a0 a1 a2 a3 n1 a5 em es
 rw [Zx,Zx,Zx,Zx,Zx] at q
 obtain⟨⟨⟨⟨⟨q1,q2⟩,q3⟩,q4⟩,q5⟩,q6⟩:=q
 have z1:=eq_of_beq q1
 have z2:=eq_of_beq q2
 have z6:=eq_of_beq q6
 subst z1 z2
 cases c with
 | mk nm bs mro ns qn hd sn sub ab col del=>
  dsimp only at em q3 q5 z6
  have z3:del=false:=by cases del<;>first|rfl|cases q3
  subst em z3
  have zs:sl= #[a0,a1,a2,a3,some (.builtin n1),a5]:=by
   cases sl
   dsimp only at es
   rw [es]
  subst zs
  exact⟨bm1,ns,nm,qn,bs,hd,sn,sub,ab,col,dd,a0,a1,a2,a3,a5,_,X _ _ look,.of_isNs (PySem.W.isNs_of_in X q5),PySem.W.nsMap_none_of_in X q5 z6,PySem.W.tail_of_in X q4⟩
def tXe(φ:Fx)(fx:tz5)(Ex:Hp->Prop):TE:=fun σ H _=>∃ps F,RS φ H σ ps F/\fx ps=true/\∀H',Frm F H H'->Ex H'
abbrev QXe(X:Cx)(U:tz9)(φ:F0)(Ex:Hp->Prop)(e:Expr)(fx:tz5):Prop:=PE X e (tXe (φ.fx X.K U) fx Ex)
section
variable{X:Cx}{U:tz9}{φ:F0}{Ex:Hp->Prop}{fx fy:tz5}{st:Stmt}{rest l:List Stmt}{pos:Pos}
theorem wg3(i:Nat){x:Str}{e:Expr}{pos':Pos}(hN:X.N.Nodup)(hi:X.N[i]? =some x)(hx:Loc X.env.scope x)(he:QXe X U φ Ex e fx)(hs:swapsWith e (some (.Name x pos')) pos.line X.env=pure false:=by rfl)(hf:X.fn x=true\/X.env.scope.names.lookup x=some .local:=by first|exact .inl rfl|exact .inr rfl|assumption):
  QX X U φ Ex (.Assign [.Name x pos'] e pos) fx:=(sS hN hi hx he hs hf).imp fun _ _ _ h=>h
end
end L2
namespace L2
section
open PySem PySem.W PySem.Calls PyProof.Rows Builtin Builtin.ObjectAttr Builtin.Getset_descriptor
def zz7(x D:Addr)(h:Heap):Prop:=∃o,h.get? x=some o/\o.cls= .ref D
variable{prog:Program}{w:World}{A:Around}{E:Value->Shared->Prop}{s:Shared}{K:tz0}{x D:Addr}{name:Str}
theorem wZ(I:zz7 x D h):Looks M h (typeOf (.ref x)) (.ref D):=by
 obtain⟨o,h1,h2⟩:=I
 exact h2▸(Looks.ld h1).andThen .now
theorem yk6(X:K.In h){a g:Value}(ha:findIn K (.ref D) name=some (some a))(hg:specialIn K a "__get__"=some (some g))(ht:takesIn K a=some true):
  Looks M h (find (.ref x) (.ref D) name) (.bind g a):=
 (looks_findIn (M:=M) X ha).andThen ((looks_specialIn X hg).andThen ((show Looks M h (dataDescriptor? (some a) (some g)) (some (g,a)) from(looks_takesIn (M:=M) X ht).andThen .now).andThen (Looks.tag .now)))
theorem yu3(X:K.In s.heap)(I:zz7 x D s.heap)(hm:mroIn K D (.type "object")=some true)(h:R (.ok (.ret (.ref D))) s):
  codeAny (model prog w) A (.call (.builtin "getset_descriptor.__get__") ⟨[.builtin "object.__class__",.ref x,tp],[]⟩) R s:=by
 obtain⟨h1,g1,d1,t1,o1⟩:=s;have L0:=wZ (M:=model prog w) I;have L1:=looks_mroIn (M:=model prog w) X hm
 refine codeAny_call_builtin KF.slot_gs.plain KF.entry_gs (KF.slot_gs.check _ _ _ _ _ _ _ _ KF.type_class (KF.args_gs _ _ _) ?_);unfold Builtin.«getset_descriptor.__get__» descrGet;rw [dga_obj]
 refine Zf (ZD ?_);unfold descrGetter descrCheckInstance descrNameAndClass isInstance;simp only [KF.owner_class];repeat lk
 refine⟨Code.quiet_builtin _ (by decide+kernel),Xj KF.entry_class ?_⟩;unfold Builtin.«object.__class__» shownTypeOf;repeat lk
 exact h
theorem yu4(hga:findIn K (.ref D) "__getattribute__"=some (some (.builtin "BaseException.__getattribute__")))(hgt:findIn K (.ref D) "__getattr__"=some none)(ha:findIn K (.ref D) "__class__"=some (some (.builtin "object.__class__")))
 (hn:specialIn K (.builtin "object.__class__") "__get__"=some (some (.builtin "getset_descriptor.__get__"))) (htk:takesIn K (.builtin "object.__class__")=some true) (hm:mroIn K D (.type "object")=some true) (hb:mroIn K D (.type "BaseException")=some true)
 (X:K.In s.heap) (I:zz7 x D s.heap) (h:Q (some (.ref D)) {s with toks:=s.toks+1}):wpAny (model prog w) A (getAttr? (.ref x) "__class__") Q E s:=by
 obtain⟨h1,g1,d1,t1,o1⟩:=s;have L0:=wZ (M:=model prog w) I;have L1:=looks_findIn (M:=model prog w) X hga
 have L3:=yk6 (M:=model prog w) (x:=x) X ha hn htk;have L4:=looks_findIn (M:=model prog w) X hgt
 have FB:=PySem.F.excAttr_ValueError
 have f3:=FB.ga.bind (.ref x)
 have hx2:(Value.builtin "BaseException.__getattribute__"==Value.builtin "object.__getattribute__")=false:=by decide+kernel
 have hx1:(onTheHeap (Value.ref D)&&Value.builtin "BaseException.__getattribute__"==Value.builtin "object.__getattribute__")=false:=by rw [hx2];rfl
 unfold getAttr? getAttrBy? getAttrBy
 repeat (any_goals (first|assumption|with_reducible refine Looks.at L0 ?_|with_reducible refine Looks.at L1 ?_|with_reducible refine Looks.at L4 ?_|wp_step))
 refine codeAny_call_builtin FB.ga.plain F.entry_bexc_ga ?_
 have hk:builtinKind "BaseException.__getattribute__"=some .slot:=by decide+kernel
 have hsplit:splitId "BaseException.__getattribute__"=some ("BaseException","__getattribute__"):=by decide+kernel
 have LB:=looks_mroIn (M:=model prog w) X hb
 have ha2:=F.args_bexc_ga (.ref x) (.str "__class__" t1)
 simp only [checkBuiltinCall,hk,hsplit]
 refine Zf ?_
 unfold isInstance
 have L5:=looks_findIn (M:=model prog w) X ha
 have L6:Looks (model prog w) h1 (getOf (some (.builtin "object.__class__"))) (some (.builtin "getset_descriptor.__get__")):=looks_specialIn X hn
 have L7:Looks (model prog w) h1 (dataDescriptor? (some (.builtin "object.__class__")) (some (.builtin "getset_descriptor.__get__"))) (some (.builtin "getset_descriptor.__get__",.builtin "object.__class__")):=(looks_takesIn (M:=model prog w) X htk).andThen .now
 repeat (first|with_reducible refine Looks.at L0 ?_|with_reducible refine Looks.at LB ?_|with_reducible refine Looks.at L3 ?_|with_reducible refine Looks.at L5 ?_|with_reducible refine Looks.at L6 ?_|with_reducible refine Looks.at L7 ?_|wp_step)
 refine yu3 X I hm ?_
 repeat (any_goals (first|assumption|wp_step))
theorem yd9(hga:findIn K (.ref D) "__getattribute__"=some (some (.builtin "BaseException.__getattribute__")))(hgt:findIn K (.ref D) "__getattr__"=some none)(ha:findIn K (.ref D) "__class__"=some (some (.builtin "object.__class__")))
  (hn:specialIn K (.builtin "object.__class__") "__get__"=some (some (.builtin "getset_descriptor.__get__"))) (htk:takesIn K (.builtin "object.__class__")=some true) (hm:mroIn K D (.type "object")=some true) (hb:mroIn K D (.type "BaseException")=some true) (hC:(clsIn K D).isSome=true):KitX K (.ref x) (.ref D) (zz7 x D):=by
 obtain⟨cd,hcD⟩:=XS.mp hC
 have ho:∃c' d' sl',K.lookup D=some ⟨c',d',.cls cd,sl'⟩:=by
  unfold clsIn at hcD
  split at hcD
  ·rename_i c' d' cd' sl' ho;cases hcD;exact⟨_,_,_,ho⟩
  ·cases hcD
 obtain⟨c',d',sl',ho⟩:=ho
 refine⟨fun _ _ _ I=>wZ I,fun _ _ X _=> ?_,fun h tp dd its n sl X htp=> ?_,fun X I k=>yu4 hga hgt ha hn htk hm hb X I k⟩
 ·intro A' Q' E' s' k q
  unfold isType loadHead;exact Zf (wpAny_loadPart (k _ _ (X _ _ ho)) (ZD q))
 ·refine Bool.eq_false_iff.mpr fun q=> ?_
  have e:D=tp:=Value.ref.inj (YF.mp q)
  subst e
  have z:=(X _ _ ho).symm.trans htp;cases z
end
open PySem PySem.Spec PyProof.Rows
section
variable{X:Cx}{pins:tzB}{σ:St}{H:Hp}{s:Shared}
theorem Inv.swap{h':Heap}{t':Nat}{σ':St}{m':tzA}(I:Inv X pins σ H s)(hs:Heap.SameBut X.env.locals s.heap h')(hn:h'.Ns X.env.locals m')(hl:σ'.length=X.N.length)
  (hv:∀(i:Nat) (x:Str) (v:V),X.N[i]? =some x->σ'[i]? =some (some v)->Vis X.env.scope x->∃u,cG v u/\wi8 X.env h' m' x u):Inv X pins σ' H {s with heap:=h',toks:=t'}:=by
 have ne:∀b o,X.s₀.heap.get? b=some o->b≠X.env.locals:=fun b o e=>ZE (Zw (Zk e) I.ok.above)
 have cell:∀{c:Addr} {v:Option Value},c≠X.env.locals->s.heap.IsCell c v->h'.IsCell c v:=fun {c v} n ⟨o,q1,q2⟩=>⟨o,(hs.2 c n).trans q1,q2⟩
 refine⟨I.ok,I.os,I.bare,⟨fun b o e n hb hx=>(hs.2 b (ne b o e)).trans (I.base.keep b o e n hb hx),fun b o e n hb hx=> ?_,I.base.free,fun b o e hx=> ?_,I.base.tups,I.base.frzs,I.base.tbls⟩,⟨m',hn,hv⟩,fun y c e=> ?_,I.free,I.freeC,fun p hp=> ?_,I.hok.but fun b o u e q=> ?_,hl⟩
 ·exact(I.base.slot b o e n hb hx).imp fun sl z=>(hs.2 b (ne b o e)).trans z
 ·exact(I.base.there b o e hx).imp fun o' z=>(hs.2 b (ne b o e)).trans z
 ·exact(I.cell y c e).imp fun v z=>cell (I.cne y c e) z
 ·obtain⟨q1,q2,q3,q4⟩:=I.pin p hp
  exact⟨(hs.2 p.1 q3).trans q1,q2,q3,q4⟩
 ·refine(hs.2 b fun z=> ?_).trans q
  rw [z,I.free] at e;cases e
theorem xy2{M:Model}{A:Around}{E:Value->Shared->Prop}{i:Nat}{x:Str}{pos:Pos}{Q:Unit->Shared->Prop}(I:Inv X pins σ H s)(hN:X.N.Nodup)(hi:X.N[i]? =some x)(hk:X.env.kindOf x=some .local)
  (h:∀s',Inv X pins (σ.set i none) H s'->Q () s'):wpAny M A (do bindName X.env x .none;unbindBehindTheSuite X.env x pos) Q E s:=by
 obtain⟨m,hn,hl⟩:=id I.loc
 refine wpAny_nameGoes_keeps hk hn (by rw [I.ok.kind];rfl) fun h' v hn' hs=>h _ (I.swap hs hn' (by rw [XD];exact I.len) fun j y u e1 e2 e3=> ?_)
 have hji:j≠i:=fun z=>by
  subst z
  have:(σ.set j none)[j]? =some (some u):=e2
  rw [List.getElem?_set] at this
  simp at this
 rw [Zu (Y8 hji)] at e2
 obtain⟨u',r,l⟩:=hl j y u e1 e2 e3
 have hyx:y≠x:=fun z=>by
  subst z
  exact hji ((List.getElem?_inj (Z5.mp e1).1 hN).mp (e1.trans hi.symm))
 refine⟨u',r,?_⟩
 rcases l with ⟨hk',hm⟩|⟨hk',c,hc,o,q1,q2⟩
 ·exact .inl ⟨hk',by show(if y=x then v else m y)=_;rw [if_neg hyx];exact hm⟩
 ·exact .inr ⟨hk',c,hc,o,(hs.2 c (I.cne y c hc)).trans q1,q2⟩
end
theorem xy3{K:tz0}{h:Heap}{nm qn:Str}{C N:Addr}{bs bm:List Value}{hdct:Bool}{sn:List Str}{sub:List Value}{ab:Bool}{col:Option Bool}{dd:Option Addr}{k0 k1 k2 k3 k5:Option Value}{newId:String}{v:Value}(X:K.In h)
  (hC:h.get? C=some (excClassObj nm qn C N bs bm hdct sn sub ab col dd k0 k1 k2 k3 k5 newId)) (e:PySem.W.mroIn K C v=some true):(Value.ref C::bm).contains v=true:=by
 unfold PySem.W.mroIn at e
 obtain⟨cd,hc,e⟩:=Option.bind_eq_some_iff.mp e
 unfold PySem.W.clsIn at hc
 split at hc
 ·rename_i ho
  cases hc
  have z:=X _ _ ho
  rw [hC] at z
  cases z
  split at e
  ·cases e
  ·exact Zz e
 ·cases hc
section
variable{M:Model}{A:Around}{E:Value->Shared->Prop}
theorem zx7{h:Heap}{g:Array GenState}{d:Drawn}{t:Nat}{os:OsState}{e:Addr}{oe:Obj}{Q:Bool->Shared->Prop}
  {nm qn:Str} {C N:Addr} {bs bm:List Value} {hdct:Bool} {sn:List Str} {sub:List Value} {ab:Bool} {col:Option Bool} {dd:Option Addr} {k0 k1 k2 k3 k5:Option Value} {newId:String}
  {nm2 qn2:Str} {C2 N2:Addr} {bs2 bm2:List Value} {hdct2:Bool} {sn2:List Str} {sub2:List Value} {ab2:Bool} {col2:Option Bool} {dd2:Option Addr} {j0 j1 j2 j3 j5:Option Value} {newId2:String}
  (hC:h.get? C=some (excClassObj nm qn C N bs bm hdct sn sub ab col dd k0 k1 k2 k3 k5 newId)) (hC2:h.get? C2=some (excClassObj nm2 qn2 C2 N2 bs2 bm2 hdct2 sn2 sub2 ab2 col2 dd2 j0 j1 j2 j3 j5 newId2))
  (he:h.get? e=some oe) (hcls:oe.cls= .ref C) (hbase:bm2.contains (.type "BaseException")=true) (hup:(Value.ref C::bm).contains (.ref C2)=true)
  (hq:Q true ⟨h,g,d,t,os⟩):wpAny M A (excMatches (.ref e) (.ref C2)) Q E ⟨h,g,d,t,os⟩:=by
 have hcB:(Value.ref C2::bm2).contains (.type "BaseException")=true:=by rw [List.contains_cons,hbase,Bool.or_true]
 have f:=tc_notTuple
 unfold excMatches
 repeat (first|(with_reducible refine wpAny_loadPart_at he ?_;rw [hcls])|with_reducible refine wpAny_loadPart_at hC2 ?_|(with_reducible refine wpAny_isSubtype_exc hC2 ?_;rw [hcB])|(with_reducible refine wpAny_isSubtype_exc hC ?_;rw [hup])|wp_step)
 exact hq
end
def ze5(C:Addr)(h:Heap):Prop:=∃bm N nm qn bs hdct sn sub ab col dd k0 k1 k2 k3 k5 nid,h.get? C=some (excClassObj nm qn C N bs bm hdct sn sub ab col dd k0 k1 k2 k3 k5 nid)/\bm.contains (.type "BaseException")=true
theorem ze5.keeps{C:Addr}{h h':Heap}(x:ze5 C h)(k:∀b o,h.get? b=some o->h'.get? b=some o):ze5 C h':=by
 obtain⟨bm,N,nm,qn,bs,hdct,sn,sub,ab,col,dd,k0,k1,k2,k3,k5,nid,e,hb⟩:=x
 exact⟨bm,N,nm,qn,bs,hdct,sn,sub,ab,col,dd,k0,k1,k2,k3,k5,nid,k _ _ e,hb⟩
theorem zv1{x:Str}{C:Addr}{bmB:List Value}{newId:String}{mg:tzA}{h:Heap}(O:OwnCls x C bmB newId mg h)(hb:bmB.contains (.type "BaseException")=true):ze5 C h:=by
 obtain⟨bm,N,nm,qn,bs,hdct,sn,sub,ab,col,dd,k0,k1,k2,k3,k5,mN,hC,hN',hni,TL⟩:=O.obj
 exact⟨bm,N,nm,qn,bs,hdct,sn,sub,ab,col,dd,k0,k1,k2,k3,k5,_,hC,TL.hasType hb⟩
structure KExc(K:tz0)(C:Addr):Prop where
 ga:PySem.W.findIn K (.ref C) "__getattribute__"=some (some (.builtin "BaseException.__getattribute__"))
 gt:PySem.W.findIn K (.ref C) "__getattr__"=some none
 a:PySem.W.findIn K (.ref C) "__class__"=some (some (.builtin "object.__class__"))
 n:PySem.W.specialIn K (.builtin "object.__class__") "__get__"=some (some (.builtin "getset_descriptor.__get__"))
 t:PySem.W.takesIn K (.builtin "object.__class__")=some true
 m:PySem.W.mroIn K C (.type "object")=some true
 b:PySem.W.mroIn K C (.type "BaseException")=some true
 c:(PySem.W.clsIn K C).isSome=true
section
variable{X:Cx}{C ea:Addr}{oe:Obj}
theorem xe2(hp:(ea,oe)∈X.pn)(hc:oe.cls= .ref C)(k:KExc X.K C):CallR X (.builtin "isinstance") (fun xs H Q=>∃c b,xs=[.ref ea,c]/\(∀u,cG c u->PySem.W.kitOne X.K (.ref C) u=some b)/\Q (.bl b) H):=⟨by
 intro pins s σ H xs us Q I r h
 obtain⟨c,b,rfl,e,q⟩:=h
 cases r with
 | cons r1 r2=>cases r2 with
  | cons r3 r4=>cases r4 with
   |nil=>
    cases r1
    exact ZL (yd9 k.ga k.gt k.a k.n k.t k.m k.b k.c) I.kIn ⟨oe,(I.pin (ea,oe) (Zi _ hp)).1,hc⟩ (e _ r3) (by intro z;cases z) fun tk=>⟨.bl b,H,I.tok tk,rfl,q⟩⟩
theorem xe3(hp:(ea,oe)∈X.pn)(hc:oe.cls= .ref C)(k:KExc X.K C):CallR X (.builtin "isinstance") (fun xs H Q=>∃tp its b,xs=[.ref ea,.ref tp]/\H tp=some (.tup its)/\(∀us,bJ its us->PySem.W.kitAny X.K (.ref C) us=some b)/\Q (.bl b) H):=⟨by
 intro pins s σ H xs us Q I r h
 obtain⟨tp,its,b,rfl,ht,e,q⟩:=h
 cases r with
 | cons r1 r2=>cases r2 with
  | cons r3 r4=>cases r4 with
   |nil=>
    cases r1;cases r3
    obtain⟨_,vs,rv,o,h1,h2,n,h3⟩:=(show dH X.prog X.w H s.heap tp (.tup its) from I.hok tp _ ht)
    obtain⟨c1,d1,e1,s1⟩:=o
    cases h2;cases h3
    exact PySem.W.kia_tup (yd9 k.ga k.gt k.a k.n k.t k.m k.b k.c) I.kIn ⟨oe,(I.pin (ea,oe) (Zi _ hp)).1,hc⟩ h1 (e _ rv) (by intro z;cases z) fun tk=>⟨.bl b,H,I.tok tk,rfl,q⟩⟩
end
def Cx.pinned(X:Cx)(ea:Addr)(oe:Obj):Cx:={X with pn:=X.pn++[(ea,oe)]}
section
variable{X:Cx}{pins:tzB}{σ:St}{H:Hp}{s:Shared}{ea:Addr}{oe:Obj}
theorem Inv.toPin(I:Inv X (pins++[(ea,oe)]) σ H s):Inv (X.pinned ea oe) pins σ H s:=
 ⟨⟨I.ok.mod,I.ok.kind,I.ok.glob,I.ok.blt,I.ok.above,I.ok.inj,I.ok.has,I.ok.cab,I.ok.hd,I.ok.frames,I.ok.stk,I.ok.exf,I.ok.bs,I.ok.bsz,I.ok.noex,I.ok.exfs,I.ok.funs,I.ok.frf⟩,I.os,I.bare,I.base,I.loc,I.cell,I.free,I.freeC,fun p hp=>I.pin p (by
  rcases Zn.mp hp with h|h
  ·rcases Zn.mp h with h|h
   ·exact Zi _ h
   ·exact Z8 _ (Z8 _ h)
  ·exact Z8 _ (Zi _ h)),I.hok,I.len⟩
theorem Inv.ofPin(I:Inv (X.pinned ea oe) pins σ H s):Inv X pins σ H s:=
 ⟨⟨I.ok.mod,I.ok.kind,I.ok.glob,I.ok.blt,I.ok.above,I.ok.inj,I.ok.has,I.ok.cab,I.ok.hd,I.ok.frames,I.ok.stk,I.ok.exf,I.ok.bs,I.ok.bsz,I.ok.noex,I.ok.exfs,I.ok.funs,I.ok.frf⟩,I.os,I.bare,I.base,I.loc,I.cell,I.free,I.freeC,fun p hp=>I.pin p (by
  rcases Zn.mp hp with h|h
  ·exact Zi _ (Zi _ h)
  ·exact Z8 _ h),I.hok,I.len⟩
end
def yi3(j:Nat)(ea:Addr)(b:Bool):TE:=fun σ H Q=>σ[j]? =some (some (.ref ea))/\∀H',SameK H H'->Q (.bl b) H'
section
variable{Y:Cx}{C ea:Addr}{oe:Obj}{j:Nat}{bad:Str}{p bp pos:Pos}{b:Bool}
theorem yn9{c:Expr}{cv:V}(hp:(ea,oe)∈Y.pn)(hc:oe.cls= .ref C)(k:KExc Y.K C)(hgi:Gl Y "isinstance")(hmi:Y.mg "isinstance"=none)(hN:Y.N[j]? =some bad)(hv:Vis Y.env.scope bad)(hcl:PE Y c (tC cv))(ho:∀u,cG cv u->PySem.W.kitOne Y.K (.ref C) u=some b)
  (hd:NDb bad:=by decide) (hcd:(bad==("__classdict__":Str))=false:=by decide)
  (he:starEach [.Name bad bp,c] Y.env=(false,eval (.Name bad bp) Y.env)::starEach [c] Y.env:=by rfl) (he2:starEach [c] Y.env=(false,eval c Y.env)::starEach [] Y.env:=by rfl) (hpl:(backTo pos (starEach [c] Y.env)).any (·.1)=false:=by rfl):
  PE Y (.Call (.Name "isinstance" p) [.Name bad bp,c] [] pos) (yi3 j ea b):=
 (nR (xe2 hp hc k) hgi hmi rfl (eK (qH hN hv hd hcd) (eK hcl kT he2) he) (by decide) (by decide) he hpl).imp fun σ H Q h=>⟨.ref ea,h.1,cv,b,rfl,ho,h.2 H (.refl H)⟩
theorem xo1{c1 c2:Expr}{v1 v2:V}{tp:Pos}{ctx:Nat}(hp:(ea,oe)∈Y.pn)(hc:oe.cls= .ref C)(k:KExc Y.K C)(hgi:Gl Y "isinstance")(hmi:Y.mg "isinstance"=none)(hN:Y.N[j]? =some bad)(hv:Vis Y.env.scope bad)(h1:PE Y c1 (tC v1))(h2:PE Y c2 (tC v2))(ho:∀us,bJ [v1,v2] us->PySem.W.kitAny Y.K (.ref C) us=some b)
  (hd:NDb bad:=by decide) (hcd:(bad==("__classdict__":Str))=false:=by decide)
  (he:starEach [.Name bad bp,.Tuple [c1,c2] ctx tp] Y.env=(false,eval (.Name bad bp) Y.env)::starEach [.Tuple [c1,c2] ctx tp] Y.env:=by rfl) (he2:starEach [.Tuple [c1,c2] ctx tp] Y.env=(false,eval (.Tuple [c1,c2] ctx tp) Y.env)::starEach [] Y.env:=by rfl)
  (he3:starEach [c1,c2] Y.env=(false,eval c1 Y.env)::starEach [c2] Y.env:=by rfl) (he4:starEach [c2] Y.env=(false,eval c2 Y.env)::starEach [] Y.env:=by rfl) (hpl:(backTo pos (starEach [.Tuple [c1,c2] ctx tp] Y.env)).any (·.1)=false:=by rfl):
  PE Y (.Call (.Name "isinstance" p) [.Name bad bp,.Tuple [c1,c2] ctx tp] [] pos) (yi3 j ea b):=
 (nR (xe3 hp hc k) hgi hmi rfl (eK (qH hN hv hd hcd) (eK (xa3 (eK h1 (eK h2 kT he4) he3)) kT he2) he) (by decide) (by decide) he hpl).imp fun σ H Q h=>
  ⟨.ref ea,h.1,⟨show 2<=sizeLine from Zt (by decide) (nW (n:=2) (by decide)),fun a ha=>⟨a,[v1,v2],b,rfl,by unfold upd;rw [if_pos rfl],ho,h.2 _ (.new ha _)⟩⟩⟩
end
theorem yu5{K:tz0}{C:Addr}{bm:List Value}{nid:String}(q:PySem.W.excIn K C bm nid=true):(PySem.W.clsIn K C).isSome=true:=by
 unfold PySem.W.excIn at q
 unfold PySem.W.clsIn
 split at q
 ·rename_i ho
  rw [ho];rfl
 ·cases q
section
variable{P:Program}{w:World}{A:Around}{E:Value->Shared->Prop}{h:Heap}{g:Array GenState}{d:Drawn}{t:Nat}{os:OsState}{nm q:Str}{C N:Addr}{bs bm bmB:List Value}{hdct ab:Bool}{sn:List Str}{sub:List Value}
 {col:Option Bool} {dd:Option Addr} {k0 k1 k2 k3 k5:Option Value} {B newId initId:String}
end
section
variable{P:Program}{w:World}{A:Around}{E:Value->Shared->Prop}{s:Shared}{env:Env}{nm q:Str}{C N:Addr}{bs bm bmB:List Value}{hdct ab:Bool}{sn:List Str}{sub:List Value}
 {col:Option Bool} {dd:Option Addr} {k0 k1 k2 k3 k5:Option Value} {B newId initId:String}
end
end L2
namespace L2
section
open PySem PySem.W PySem.Calls PyProof.Rows Builtin Builtin.ObjectAttr Builtin.Getset_descriptor
variable{prog:Program}{w:World}{A:Around}{E:Value->Shared->Prop}{K:tz0}{x C:Addr}{name:Str}
end
open PySem PySem.Spec PyProof.Rows
def sB:tz2:=fun _=>some (.dic true [] [])
theorem xo2{X:Cx}{U:tz9}{pos:Pos}:QP X U (.Dict [] [] pos) sB:=xm2.imp fun σ H Q hh_=>by
 obtain⟨ps,d,w,e,q⟩:=hh_
 cases e
 exact fun p hp=>q.at hp (fv:=[p]) (fun a ha=>by rw [Za.mp ha];exact hp) (by simp) (.dic (kvs:=[]) cV rfl .nil)
section
variable{K:tz0}{U:tz9}{H:Hp}
theorem vB:∀{kvs:List (Key×V)} {ks:List Key} {ds:List D} {g:List Addr} {k:Key},kvs.map (·.1)=ks->Reps K U H (kvs.map (·.2)) ds g->(pP kvs k).isSome=(oU ks ds k).isSome
 |[],_,_,_,_,e,r=>by subst e;cases r;rfl
 |(k0,v0)::kvs,_,_,_,k,e,.cons h hs=>by
  subst e
  rw [Z9,oU]
  by_cases z:k0=k
  ·rw [if_pos z,sV z];rfl
  ·rw [if_neg z,sW z];exact vB rfl hs
theorem Rep.dicT_inv(r:Rep K U H v (.dic true ks ds) fp):∃a kvs g,v= .ref a/\H a=some (.dK kvs)/\kvs.map (·.1)=ks/\Reps K U H (kvs.map (·.2)) ds g/\fp=a::g:=by
 cases r with
 |dic h e hs=>exact⟨_,_,_,rfl,h,e,hs,rfl⟩
theorem Rep.dicF_inv(r:Rep K U H v (.dic false ks ds) fp):∃a o kvs,v= .ref a/\H a=some (.frz o (.dK kvs))/\kvs.map (·.1)=ks/\Reps K U H (kvs.map (·.2)) ds []:=by
 cases r with
 |dicF h e hs=>exact⟨_,_,_,rfl,h,e,hs⟩
end
def lD:D->D->Option D
 |y,.dic _ ks ds=>y.key.bind fun k=>some (.bl (!(oU ks ds k).isSome))
 |_,_=>none
def yE:List Key->List D->Key->D->List D
 |k::ks,d::ds,j,y=>(if k=j then y else d)::yE ks ds j y
 |_,_,_,_=>[]
def qB:D->D->D->Option (Unit×D)
 |i,y,.dic true ks ds=>i.key.bind fun k=>if D.imms ds=true/\y.imm=true/\ks.length<sizeLine then some ((),if (oU ks ds k).isSome=true then .dic true ks (yE ks ds k y) else .dic true (ks++[k]) (ds++[y])) else none
 |_,_,_=>none
theorem yu6(h:qB i y d=some (r,d')):∃k ks ds,d= .dic true ks ds/\i.key=some k/\D.imms ds=true/\y.imm=true/\ks.length<sizeLine/\d'=if (oU ks ds k).isSome=true then .dic true ks (yE ks ds k y) else .dic true (ks++[k]) (ds++[y]):=by
 unfold qB at h
 split at h
 ·obtain⟨k,e1,e2⟩:=bind_some h
  obtain⟨hc,e3⟩:=bU e2
  cases e3
  exact⟨k,_,_,rfl,e1,hc.1,hc.2.1,hc.2.2,rfl⟩
 ·cases h
theorem zN{K:tz0}{U:tz9}{H:Hp}{v:V}{y:D}{k:Key}(r:Rep K U H v y []):∀{kvs:List (Key×V)} {ds:List D},Paired (fun v d=>Rep K U H v d []) (kvs.map (·.2)) ds->Paired (fun v d=>Rep K U H v d []) ((kvs.map fun kv=>if kv.1=k then(kv.1,v) else kv).map (·.2)) (yE (kvs.map (·.1)) ds k y)
 |[],_,.nil=> .nil
 |(k0,v0)::kvs,_,.cons h t=>by
  rw [Z9,Z9,Z9,yE]
  by_cases z:k0=k
  ·rw [if_pos z,if_pos z];exact .cons r (zN r t)
  ·rw [if_neg z,if_neg z];exact .cons h (zN r t)
theorem yQ{k:Key}{v:V}:∀kvs:List (Key×V),(kvs.map fun kv=>if kv.1=k then(kv.1,v) else kv).map (·.1)=kvs.map (·.1)
 |[]=>rfl
 |(k0,v0)::kvs=>by
  rw [Z9,Z9,Z9,yQ kvs]
  by_cases z:k0=k
  ·rw [if_pos z]
  ·rw [if_neg z]
theorem xy4{K:tz0}{U:tz9}{H:Hp}{l:Addr}{v:V}{y:D}{kvs:List (Key×V)}{ds:List D}{k:Key}(hl:H l=some (.dK kvs))(hs:Reps K U H (kvs.map (·.2)) ds [])(ry:Rep K U H v y []):
  Rep K U (upd H l (.dK (jX kvs k v))) (.ref l) (if (oU (kvs.map (·.1)) ds k).isSome=true then .dic true (kvs.map (·.1)) (yE (kvs.map (·.1)) ds k y) else .dic true (kvs.map (·.1)++[k]) (ds++[y])) [l]:=by
 have ha:=zg7 k kvs
 rw [vB (k:=k) rfl hs] at ha
 have hs':Reps K U (upd H l (.dK (jX kvs k v))) (kvs.map (·.2)) ds []:=hs.updL hl rfl (by simp)
 have ry':Rep K U (upd H l (.dK (jX kvs k v))) v y []:=ry.updL hl rfl (by simp)
 by_cases hc:(oU (kvs.map (·.1)) ds k).isSome=true
 ·rw [if_pos hc]
  rw [hc] at ha
  have e:jX kvs k v=kvs.map fun kv=>if kv.1=k then(kv.1,v) else kv:=by unfold jX;rw [if_pos ha]
  exact .dic (fp:=[]) (kvs:=jX kvs k v) cV (by rw [e];exact yQ kvs) (.ofp (by rw [e];rw [e] at hs' ry';exact zN ry' hs'.nilp))
 ·rw [if_neg hc]
  rw [Xx] at hc
  rw [hc] at ha
  have e:jX kvs k v=kvs++[(k,v)]:=by unfold jX;rw [if_neg (by rw [ha];exact Z7)]
  have hh:=Reps.append hs' (Reps.one ry')
  exact .dic (fp:=[]) (kvs:=jX kvs k v) cV (by rw [e,Y9];rfl) (by rw [e,Y9];rw [e] at hh;exact hh)
section
variable{X:Cx}{U:tz9}{φ:F0}{a b o e i:Expr}{f fa fb fi fe:tz2}{pf:PSt->Option (List Ps1)}{j:Nat}{pos apos:Pos}{tg:Expr}
theorem xe4(hu:X.A.units+1<cLine)(ha:QV X U a fa)(hb:QV X U b fb)(hm:behindInMarks .NotIn b=false:=by rfl):QT X U (.Compare a [.NotIn] [b] pos) (fB (f2 lD fa fb)):=
 (wd0 (xb5 hu ha hb) hm).imp fun σ H Q hh_=>by
  obtain⟨ps,c,w,e,q⟩:=hh_
  obtain⟨x,y,e1,e2,e3⟩:=vQ (zq0 e)
  refine⟨ps,x,w,e1,fun v H1 fp s1 r1=>⟨ps,y,w.same s1,e2,fun u H2 fq s2 r2=> ?_⟩⟩
  unfold lD at e3
  split at e3
  ·obtain⟨k,e4,e5⟩:=bind_some e3
   cases e5
   obtain⟨l,kvs,g,rfl,h,hk,hs,_⟩:=r2.dic_inv
   exact⟨l,pP kvs k,rfl,.inl ⟨kvs,k,h,zq5 r1 e4,rfl⟩,_,by rw [vB hk hs],q H2 (s1.trans s2)⟩
  ·cases e3
def sC(j:Nat)(pf:PSt->Option (List Ps1))(fi fe:tz2):tz1:=fun ps=>(fe ps).bind fun y=>((ps[j]?).join).bind fun d0=>(pf ps).bind fun p=>(fi ps).bind fun i=>(fY (qB i y) d0 p).bind fun r=>some (.nx,ps.set j (some r.2))
theorem xy5(hu:X.A.units+1<cLine)(hb:φ.bor j=false)(he:PE X e (tP X.K U fe))(ho:PE X o (oS X.K U j pf))(hi:PE X i (tV X.K U fi))(hs:swapsWith e (some (.Subscript o i apos)) pos.line X.env=pure false:=by rfl):QS X U φ (.Assign [.Subscript o i apos] e pos) (sC j pf fi fe):=
 (xw9 hu ho hi he hs).imp fun E σ H hh_=>by
  obtain⟨ps,F,fl,ps',R,e,q⟩:=hh_
  obtain⟨y,e1,e2⟩:=bind_some e
  obtain⟨d0,e3,e4⟩:=bind_some e2
  have e0:=join_some e3
  obtain⟨p,e5,e6⟩:=bind_some e4
  obtain⟨iv,e7,e8⟩:=bind_some e6
  obtain⟨⟨r,d0'⟩,em,e9⟩:=bind_some e8
  cases e9
  obtain⟨dd,dn,gp,hh⟩:=nU em
  refine⟨ps,y,R.ws,e1,fun v H1 fy s1 n1 nd1 ry=>⟨ps,p,d0,dd,R.ws.same s1,e0,e5,gp,fun lv H2 v0 s2 ev a2=>⟨ps,iv,(R.ws.same s1).same s2,e7,fun u H3 fu s3 r3=> ?_⟩⟩⟩
  have s13:=(s1.trans s2).trans s3
  obtain⟨d1,d1',fd,m1,m2,m3,m4,m5⟩:=vS R s13 hb e0 ev em (a2.same s3)
  obtain⟨k,ks,ds,rfl,ek,hi,hy,hl,rfl⟩:=yu6 m2
  obtain⟨l,kvs,g,rfl,hd,hk,hs,rfl⟩:=m1.dicT_inv
  subst hk
  have eg:=hs.imm hi
  subst eg
  have ey:=ry.imm hy
  subst ey
  refine⟨l,_,rfl,.inl ⟨kvs,k,hd,zq5 r3 ek,by simpa using hl,rfl⟩,?_⟩
  obtain⟨F',st,ow⟩:=m5 (upd H3 l (.dK (jX kvs k v))) [l] [] (fun a o h _ hn=>wV h hn) (fun a h=>pL h)
   (xy4 hd hs ((ry.same s2).same s3)) (by simp) (fun a ha=> .inl (by simpa using ha))
  exact q _ _ F' st
end
def Itf(a:Addr)(o:Obj)(kvs:List (Key×V)):It:=⟨fun i H=>H a=some (.frz o (.dK kvs))/\i<kvs.length,fun i H x H'=>H'=H/\(kvs.map fun kv=>kV kv.1)[i]? =some x,fun i H=>H a=some (.frz o (.dK kvs))/\kvs.length<=i⟩
theorem zh2{X:Cx}{pins:tzB}{σ:St}{H:Hp}{s:Shared}{a:Addr}{o:Obj}{kvs:List (Key×V)}(I:Inv X pins σ H s)(h:H a=some (.frz o (.dK kvs))):
  (a==sysModules)=false/\kvs.length<=sizeLine/\∃vs es ep,KV kvs vs/\o.data= .dict es ep/\s.heap.DictAt (eQ X.prog X.w) a vs ep:=by
 obtain⟨g,z,sm,vs,hv,hd⟩:=(show dH X.prog X.w H s.heap a (.frz o (.dK kvs)) from I.hok a _ h)
 obtain⟨ep,hat⟩:=hd.dictAt
 obtain⟨o',es,g',h1,h2,h3⟩:=id hat
 rw [g] at g'
 cases g'
 exact⟨sm,z,vs,es,ep,hv,h2,hat⟩
theorem xy6{P:Program}{w:World}{K:tz0}{tg:Expr}{a it:Addr}{o:Obj}{es:Array DictEntry}{ep:Nat}{kvs:List (Key×V)}(hd:o.data= .dict es ep):Turn P w K tg (Itf a o kvs) [it] it (fun i h=>h.IsKeyIter it a i kvs.length ep) where
 mem:=by simp
 obj:=fun i h st b hb=>by
  have e:b=it:=by simpa using hb
  subst e
  obtain⟨o,e,c,d⟩:=st
  exact⟨o,e,fun v z=>by rw [d] at z;cases z⟩
 keep:=fun i h h' st k=>st.at fun o e=>k it (by simp) o e
 item:=by
  intro X hP hw hK hc i pins s σ H E I hf st hg
  subst hP hw hK
  obtain⟨sm,z,vs,es',ep',hv,hd',dd⟩:=zh2 I hg.1
  rw [hd] at hd'
  cases hd'
  have hi:i<vs.length:=by rw [<-ZI hv];exact hg.2
  obtain⟨⟨k,x⟩,hx'⟩:∃p,vs[i]? =some p:=⟨vs[i],by simp [hi]⟩
  obtain⟨⟨k',v'⟩,hx2,he,_⟩:=lP hv hx'
  have he':k'=k:=he
  subst he'
  obtain⟨f0,f1,f2,f3,f4,f5⟩:=hf it (by simp)
  rw [ZI hv] at st
  refine wpAny_pyNext_dict_item st dd hx' fun key h' hkey st' sb=> ?_
  have I1:Inv X pins σ H {s with heap:=h'}:=I.turned (t':=s.toks) (fun b o hb e=>(sb.2 b hb).trans e) f0 f1 f3 f4 f5
  obtain⟨o2,e,c,d⟩:=id st'
  rw [<-ZI hv] at st'
  exact⟨key,rfl,zy5 (s:={s with heap:=h'}) e c d (by decide) ⟨kV k',H,I1,xx6 hkey,⟨rfl,by rw [Ze,hx2];rfl⟩,st',fun b hb=>(hf b hb).1⟩⟩
 done:=by
  intro X hP hw hK hc i pins s σ H E I hf st hg
  subst hP hw hK
  obtain⟨sm,z,vs,es',ep',hv,hd',dd⟩:=zh2 I hg.1
  rw [hd] at hd'
  cases hd'
  have hi:vs.length<=i:=by rw [<-ZI hv];exact hg.2
  obtain⟨f0,f1,f2,f3,f4,f5⟩:=hf it (by simp)
  rw [ZI hv] at st
  exact wpAny_pyNext_dict_end (I.ok.hd hc) st dd (YD hi) fun h' eb=>⟨rfl,I.turned (t':=s.toks) (fun b o hb e=>eb b o hb e) f0 f1 f3 f4 f5⟩
 self:=fun _ _ _ _ _ st h=>wpAny_pyIter_keyiter st h
def dC:D->Option (List D)
 | .dic false ks _=>some (ks.map yx3)
 |_=>none
def wK(f:tz2):tz3:=fun ps=>(f ps).bind dC
theorem xy7{K:tz0}{U:tz9}{H:Hp}{a:Addr}{o:Obj}{kvs:List (Key×V)}(h:H a=some (.frz o (.dK kvs))):Walk K U (Itf a o kvs) [] H ((kvs.map (·.1)).map yx3) where
 go:=fun H' k i d e=>by
  rw [YA,Ze] at e
  obtain⟨kv,hkv,e⟩:=Zr.mp e
  refine⟨⟨k a _ h (.inl rfl),(Z5.mp hkv).1⟩,fun y H2 ⟨hy1,hy2⟩=>⟨hy1,?_⟩⟩
  rw [Ze,hkv] at hy2
  cases hy2
  rw [<-e]
  exact xn4 kv.1
 stop:=fun H' k=>⟨k a _ h (.inl rfl),by rw [Zb,Zb];exact Zc _⟩
theorem zr0{X:Cx}{U:tz9}{tg e:Expr}{f:tz2}(h:QP X U e f):QIP X U tg e (wK f):=⟨by
 rintro pins s σ H R I ⟨ps,l,w,e,q⟩
 obtain⟨d,e1,e2⟩:=bind_some e
 unfold dC at e2
 split at e2
 ·cases e2
  refine thn (h pins s σ H (fun x H1=>SameK H H1/\∃fp,Rep X.K U H1 x _ fp) I ⟨ps,_,w,e1,fun v H' fv s1 _ _ r=>⟨s1,fv,r⟩⟩) fun v s1 ⟨x,H1,I1,r1,sm,fp,rp⟩=> ?_
  obtain⟨a,o,kvs,rfl,ha,hk,_⟩:=rp.dicF_inv
  subst hk
  cases r1
  obtain⟨hsm,z,vs,es,ep,hv,hd,dd⟩:=zh2 I1 ha
  refine wpAny_pyIter_dict hsm dd ?_
  refine⟨s1.heap.objs.size,[s1.heap.objs.size],_,_,H1,rfl,I1.kept (t':=s1.toks) fun b o e=>Zh _ e,xy6 (kvs:=kvs) (a:=a) hd,⟨_,Zv _ rfl,rfl,by rw [ZI hv];rfl⟩,fun b hb=> ?_,q _ H1 [] sm (fun _ h=>absurd h (by simp)) (xy7 ha)⟩
  have e:b=s1.heap.objs.size:=by simpa using hb
  subst e
  exact I1.fpOk (Zc _) (I1.hok.fresh (Zc _))
 ·cases e2⟩
theorem xo3(I:Inv X pins σ H s)(h:H a=some (.dK kvs)):∃ob,Inv X pins σ (upd H a (.frz ob (.dK kvs))) s:=by
 have ne:∀b,H b=none->b≠a:=fun b hb z=>by rw [z,h] at hb;cases hb
 have nt:∀b o,H b=some o->(∀ys,o≠ .dK ys)->b≠a:=fun b o hb ho z=>by
  rw [z,h] at hb
  cases hb
  exact ho _ rfl
 obtain⟨z0,sm,vs,hv,hd⟩:=(show dH X.prog X.w H s.heap a (.dK kvs) from I.hok a _ h)
 obtain⟨ep,ob,es,e0,_⟩:=hd.dictAt
 refine⟨ob,I.ok,I.os,I.bare,⟨I.base.keep,I.base.slot,fun b o h1 h2 h3=> ?_,I.base.there,fun b xs h1=> ?_,fun b o u h1=> ?_,fun b ps h1=> ?_⟩,I.loc,I.cell,?_,fun x c e=> ?_,fun p hp=> ?_,fun b o e=> ?_,I.len⟩
 ·have:=I.base.free b o h1 h2 h3
  rw [bI (ne b this)];exact this
 ·have:=I.base.tups b xs h1
  rw [bI (nt b _ this fun _ z=>by cases z)];exact this
 ·have:=I.base.frzs b o u h1
  rw [bI (nt b _ this fun _ z=>by cases z)];exact this
 ·obtain⟨more,this⟩:=I.base.tbls b ps h1
  exact⟨more,by rw [bI (nt b _ this fun _ z=>by cases z)];exact this⟩
 ·rw [bI (ne _ I.free)];exact I.free
 ·have:=I.freeC x c e
  rw [bI (ne _ this)];exact this
 ·obtain⟨p1,p2,p3⟩:=I.pin p hp
  exact⟨p1,by rw [bI (ne _ p2)];exact p2,p3⟩
 ·have st:∀{b o},dH X.prog X.w H s.heap b o->dH X.prog X.w (upd H a (.frz ob (.dK kvs))) s.heap b o:=fun x=>
   x.stay (fun _ _ _ q=>q) (fun b' hb=>by rw [bI (nt b' _ hb fun _ z=>by cases z)];exact hb) fun b' xs hb=>by rw [bI (nt b' _ hb fun _ z=>by cases z)];exact hb
  by_cases z:b=a
  ·subst z
   rw [cV] at e
   cases e
   exact⟨e0,st (I.hok b _ h)⟩
  ·rw [bI z] at e
   exact st (I.hok b o e)
def yx5:D->Option D
 | .obj true C ns [x,.dic true ks ds]=>if x.imm=true/\D.imms ds=true then some (.obj false C ns [x,.dic false ks ds]) else none
 |_=>none
def jI(f:tz2):tz2:=fun ps=>(f ps).bind yx5
theorem sN{X:Cx}{U:tz9}{e:Expr}{f:tz2}(h:QP X U e f):QP X U e (jI f):=⟨by
 intro pins s σ H Q I hh_
 obtain⟨ps,d,w,e,q⟩:=hh_
 obtain⟨d0,e1,e2⟩:=bind_some e
 unfold yx5 at e2
 split at e2
 ·rename_i C ns x ks ds
  obtain⟨⟨hx,hi⟩,e3⟩:=bU e2
  cases e3
  refine thn (h pins s σ H (fun y H1=>SameK H H1/\∃fv,(∀a∈fv,H a=none)/\fv.Nodup/\Rep X.K U H1 y _ fv) I ⟨ps,_,w,e1,fun v H' fv s1 n1 nd1 r=>⟨s1,fv,n1,nd1,r⟩⟩) fun v s1 ⟨y,H1,I1,r1,sm,fv,n1,nd1,rp⟩=> ?_
  obtain⟨l,dx,fs,g,rfl,hl,hn,hs,rfl⟩:=rp.objT_inv
  obtain⟨v1,us,f1,g1,ev,k1,k2,rfl⟩:=hs.split
  obtain⟨v2,rfl,k3⟩:=k2.one_inv
  obtain⟨b,kvs,g2,rfl,hb,hk,k4,rfl⟩:=k3.dicT_inv
  have z1:=k1.imm hx
  subst z1
  have z2:=k4.imm hi
  subst z2
  rw [Yq] at nd1 n1
  have hln:=n1 l Z0
  have hbn:=n1 b (Z1 _ Z0)
  have nbl:b≠l:=fun z=>(Zs.mp nd1).1 (z▸Z0)
  obtain⟨ob,I2⟩:=xo3 I1 hb
  have hl2:upd H1 b (.frz ob (.dK kvs)) l=some (.ins (U C) dx fs):=by rw [bI (Y8 nbl)];exact hl
  refine⟨.ref l,_,I2.freeze hl2,r1,q (.ref l) _ [] ⟨fun c o hc hk'=> ?_,fun c hc=> ?_⟩ (fun _ h=>absurd h (by simp)) Zm (.objF cV hn ?_)⟩
  ·rw [bI (fun z=>by rw [z,hln] at hc;cases hc),bI (fun z=>by rw [z,hbn] at hc;cases hc)]
   exact sm.keep c o hc hk'
  ·exact sm.grow c (pL (pL hc))
  ·have mv:∀c o,H1 c=some o->tf o=true->upd (upd H1 b (.frz ob (.dK kvs))) l (.frz (PySem.W.instObj (U C) dx) (.ins (U C) dx fs)) c=some o:=fun c o hc ht=>by
    rw [bI (fun z=>by rw [z,hl] at hc;cases hc;cases ht),bI (fun z=>by rw [z,hb] at hc;cases hc;cases ht)];exact hc
   rw [ev]
   exact .cons (f:=[]) (g:=[]) (k1.move mv fun _ h=>absurd h (by simp)) (.one (.dicF (o:=ob) (by rw [bI nbl];exact cV) hk (k4.move mv fun _ h=>absurd h (by simp))))
 ·cases e2⟩
theorem yo0:∀{vs:List Value} {ns:List Int},vs.length=ns.length->(∀(i:Nat) v n,vs[i]? =some v->ns[i]? =some n->∃t,v= .int n t)->IntsAre vs ns
 |[],[],_,_=> .nil
 |v::vs,n::ns,hl,h=>by
  obtain⟨t,rfl⟩:=h 0 v n rfl rfl
  exact .cons _ _ (yo0 (by simpa using hl) fun i v m h1 h2=>h (i+1) v m (by simpa using h1) (by simpa using h2))
 |[],_::_,hl,_=>by simp at hl
 |_::_,[],hl,_=>by simp at hl
theorem zv2:∀{vs:List Value} {ns:List Int},IntsAre vs ns->bJ (ns.map V.int) vs
 |_,_,.nil=> .nil
 |_,_,.cons _ t h=> .cons ⟨t,rfl⟩ (zv2 h)
section
variable{prog:Program}{w:World}{A:Around}{E:Value->Shared->Prop}{s:Shared}
theorem zh3{a:Addr}{vs:List (Key×Value)}{ep:Nat}{ns:List Int}{Q:Value->Shared->Prop}(hh:A.handled=none)(sm:(a==sysModules)=false)(dd:s.heap.DictAt (eQ prog w) a vs ep)(hk:vs.map (·.1)=ns.map Sum.inl)(h64:vs.length<64)
  (hQ:∀(h1 h':Heap) (tk:Nat) (its:Array Value) (c:Nat),(∀b o,s.heap.get? b=some o->h1.get? b=some o)->(∀b o,h1.get? b=some o->h'.get? b=some o)->h'.get? h1.objs.size=some {cls:= .type "list",data:= .seq its c}->IntsAre its.toList (PySem.W.sortI ns)->Q (.ref h1.objs.size) {s with heap:=h',toks:=tk}):
  wpAny (model prog w) A (call (.builtin "sorted") [.ref a]) Q E s:=by
 have ln:ns.length=vs.length:=by have:=ZN List.length hk;simpa using this.symm
 refine PySem.Calls.call_function_entry kind_sorted plain_sorted entry_sorted (args_sorted1 _) ?_
 unfold Builtin.«sorted»
 refine Zf (m:=checkCount "sorted" 1 1 _) (ZD ?_)
 refine Zf (PySem.W.kdu_collect (A:=A.in1) (PySem.W.kdl_dict (knd:=eQ prog w) (kvs:=vs) (ep:=ep) sm) hh dd (by rw [Y6];omega) fun h' tk acc hkk hacc=> ?_)
 have hl:acc.toList.length=vs.length:=by rw [ZQ];exact hacc.1
 have hI:IntsAre acc.toList ns:=yo0 (by omega) fun i v n h1 h2=>by
  obtain⟨k,x,e1,e2⟩:=hacc.2 i v (by rw [<-Wg];exact h1)
  have e3:(vs.map (·.1))[i]? =(ns.map (Sum.inl (β:=Str)))[i]? :=by rw [hk]
  rw [Ze,Ze,e1,h2] at e3
  have e4:k=Sum.inl n:=by simpa using e3
  subst e4
  exact Value.isInt_shape (k:=n) (v:=v) e2
 refine Zf (wpAny_newList ?_ (by rw [hl,Y6];omega))
 have hoL:(h'.push (seqObj "list" acc.toList.toArray 0)).get? h'.objs.size=some (seqObj "list" acc.toList.toArray 0):=Zv _ rfl
 refine Zf (Yx (wpAny_call_entry slot_list_sort ⟨_,hoL,rfl⟩ entry_list_sort (list_sort_tree hoL hI (by omega) fun out ns' a1 a2 a3=>⟨_,rfl,?_⟩) (args_list_sort _)))
 obtain⟨e,he⟩:=sortedHeap_at (vs:=acc.toList) (out:=out) hoL
 refine ZD ⟨_,rfl,hQ h' _ tk out e hkk (fun b o hb=> ?_) he (by rw [<-PySem.W.eq_sortI a2 a3];exact a1)⟩
 rw [sortedHeap_old (ZE (Zk hb)) (by rw [size_push'];exact Nat.lt_succ_of_lt (Zk hb))]
 exact Zh _ hb
end
theorem zv3{K:tz0}{U:tz9}{H:Hp}:∀ns:List Int,Paired (fun v d=>Rep K U H v d []) (ns.map V.int) (ns.map D.int)
 |[]=> .nil
 |n::ns=> .cons (.int n) (zv3 ns)
def ze6:List Key->Option (List Int)
 |[]=>some []
 | .inl i::ks=>(ze6 ks).map (i::·)
 | .inr _::_=>none
theorem zk8:∀{ks:List Key} {ns:List Int},ze6 ks=some ns->ks=ns.map Sum.inl
 |[],_,e=>by cases e;rfl
 | .inl i::ks,_,e=>by
  obtain⟨ns,e1,rfl⟩:=Zr.mp e
  rw [Z9,zk8 e1]
 | .inr _::_,_,e=>by cases e
def zb0:tz6
 |[.dic _ ks _]=>(ze6 ks).bind fun ns=>if ns.length<64 then some (.lst true ((PySem.W.sortI ns).map .int)) else none
 |_=>none
theorem xo4{X:Cx}{U:tz9}(hc:X.calm=true):CallR X (.builtin "sorted") (PCl X.K U zb0):=⟨by
 rintro pins s σ H vs us Q I r ⟨ds,fp,d,rs,e,q⟩
 unfold zb0 at e
 split at e
 ·obtain⟨ns,e1,e2⟩:=bind_some e
  obtain⟨h64,e3⟩:=bU e2
  cases e3
  obtain⟨v,rfl,r1⟩:=rs.one_inv
  obtain⟨a,kvs,g,rfl,ha,hk,_⟩:=r1.dic_inv
  obtain⟨u,rfl,ru⟩:=oF r
  cases ru
  subst hk
  have hns:=zk8 e1
  obtain⟨z,sm,vs,hv,hd⟩:=uE I.hok ha
  obtain⟨ep,dd⟩:=hd.dictAt
  have ln:ns.length=kvs.length:=by have:=ZN List.length hns;simpa using this.symm
  have lv:=ZI hv
  refine zh3 (I.ok.hd hc) sm dd (hv.keys.symm.trans hns) (by omega) fun h1 h' tk its c k1 k2 ho hI=> ?_
  have I1:Inv X pins σ H {s with heap:=h1}:=I.kept (t':=s.toks) k1
  have hl:((PySem.W.sortI ns).map V.int).length<=sizeLine:=by
   rw [Zb,(Yu ns).length_eq];exact YK (nW (by omega))
  have hp:H h1.objs.size=none:=I1.hok.fresh (Zc _)
  refine⟨.ref _,_,I1.laid (t':=tk) (o:= .lst ((PySem.W.sortI ns).map V.int)) k2 (Zc _) ⟨hl,its.toList,c,zv2 hI,by simpa using ho⟩,rfl,zc6 hp (zv3 _) q⟩
 ·cases e⟩
def Ite(K:tz0)(a:Addr):It:=
 ⟨fun i H=>∃xs x,SqL K H a xs/\xs[i]? =some x,fun i H x H'=>∃p v,H p=none/\x= .ref p/\H'=upd H p (.tup [.int i,v])/\∀xs,SqL K H a xs->xs[i]? =some v,fun i H=>∃xs,SqL K H a xs/\xs.length<=i⟩
theorem yk7{X:Cx}{pins:tzB}{σ:St}{H:Hp}{s:Shared}{h':Heap}{t':Nat}{e it:Addr}(I:Inv X pins σ H s)(k:∀b o,b≠e->b≠it->s.heap.get? b=some o->h'.get? b=some o)(he:oR X pins H e)(hi:oR X pins H it):Inv X pins σ H {s with heap:=h',toks:=t'}:=by
 have nn:∀b,(b∉[e,it])->b≠e/\b≠it:=fun b h=>⟨fun z=>h (by simp [z]),fun z=>h (by simp [z])⟩
 have nit:∀b u,H b=some u->b≠e/\b≠it:=fun b u q=>⟨fun z=>by(rw [z,he.1] at q;cases q),fun z=>by(rw [z,hi.1] at q;cases q)⟩
 refine I.step (g':=s.gens) (d':=s.drawn) (ch:=[e,it]) (fun b hb=> ?_) (fun b o _ _ hc q _=>k b o (nn b hc).1 (nn b hc).2 q) (fun b o _ _ hc q _=>⟨o.slots,k b o (nn b hc).1 (nn b hc).2 q⟩) (fun _ _ _ _ n=>n)
  (fun b o hc q=>⟨o,k b o (nn b hc).1 (nn b hc).2 q⟩) (fun _ _ e=>e) (fun _ _ _ e=>e) (fun b ps e=>⟨#[],by rw [e];simp⟩) (fun m hm=> ?_) (fun b u q=> ?_) I.bare
 ·rcases Z4.mp hb with z|z
  ·rw [z];exact⟨he.2.2.2.1,he.2.1,he.2.2.2.2.1,he.2.2.2.2.2⟩
  ·rw [Za.mp z];exact⟨hi.2.2.2.1,hi.2.1,hi.2.2.2.2.1,hi.2.2.2.2.2⟩
 ·obtain⟨o,es,ep,ho,r⟩:=hm
  exact⟨o,es,ep,k _ o (Y8 he.2.1) (Y8 hi.2.1) ho,r⟩
 ·refine(I.hok b u q).stay (fun c v hc q'=> ?_) (fun _ q=>q) fun _ _ q=>q
  rcases hc with z|z
  ·rw [z] at q'|-;exact k b v (nit b u q).1 (nit b u q).2 q'
  ·exact k c v (nit c _ z).1 (nit c _ z).2 q'
theorem xy8{P:Program}{w:World}{K:tz0}{elts:List Expr}{x1:Nat}{pos:Pos}(a e it:Addr)(hne:e≠it):Turn P w K (.Tuple elts x1 pos) (Ite K a) [e,it] e (fun i h=>(∃old,IsEnum h e it (i:Nat) old)/\h.IsListIter it a i) where
 mem:=by simp
 obj:=fun i h st b hb=>by
  obtain⟨⟨old,st1⟩,st2⟩:=st
  rcases Z4.mp hb with rfl|hb
  ·exact⟨_,st1,fun v z=>by
    have z':Data.fields _=Data.cell v:=z
    cases z'⟩
  ·have z:b=it:=by simpa using hb
   subst z
   obtain⟨o,q,c,d⟩:=st2
   exact⟨o,q,fun v z=>by rw [d] at z;cases z⟩
 keep:=fun i h h' st k=>⟨by obtain⟨⟨old,st1⟩,_⟩:=st;exact⟨old,k e (by simp) _ st1⟩,st.2.at fun o q=>k it (by simp) o q⟩
 item:=by
  intro X hP hw hK hc i pins s σ H E I hf st hg
  subst hP hw hK
  obtain⟨xs,x,hq,hx⟩:=hg
  obtain⟨its,rv,p,hz⟩:=I.list hq
  obtain⟨u,hu,ru⟩:=rv.get hx
  obtain⟨⟨old,st1⟩,st2⟩:=st
  refine wpAny_pyNext_enum_item st1 st2 p.isList (x:=u) (by simpa using hu) hne fun h' heo hit ht hsz hk=> ?_
  refine⟨_,rfl,wpAny_letOwnedTupleGo_enum heo fun h2 he2 hs2=> ?_⟩
  have hs2':Heap.SameBut e h' h2:=hs2
  have hes:e<s.heap.objs.size:=Zk st1
  have ni:Heap.get? h2 s.heap.objs.size=some {cls:= .type "tuple",data:= .seq #[.int i s.toks,u]}:=(hs2'.2 _ (W3 hes)).trans ht
  have hp:H s.heap.objs.size=none:=I.hok.fresh (Zc _)
  have kk:∀b o,b≠e->b≠it->s.heap.get? b=some o->h2.get? b=some o:=fun b o h3 h4 h5=>(hs2'.2 b h3).trans (hk b o h3 h4 h5)
  have hes2:it<s.heap.objs.size:=by obtain⟨o,q,_⟩:=st2;exact Zk q
  have I0:Inv X pins σ (upd H s.heap.objs.size (.tup [.int i,x])) {s with heap:=s.heap.push {cls:= .type "tuple",data:= .seq #[.int i s.toks,u]}}:=
   I.laid (t':=s.toks) (fun b o q=>Zh _ q) (Zc _) ⟨YK (nW (by simp)),[.int i s.toks,u],.cons ⟨_,rfl⟩ (.cons ru .nil),⟨_,Zv _ rfl,rfl,0,rfl⟩⟩
  have fo:∀b∈[e,it],oR X pins (upd H s.heap.objs.size (.tup [.int i,x])) b:=fun b hb=>by
   refine⟨?_,(hf b hb).2⟩
   rw [bI]
   ·exact(hf b hb).1
   ·rcases Z4.mp hb with z|z
    ·rw [z];exact ZE hes
    ·rw [Za.mp z];exact ZE hes2
  have I1:Inv X pins σ (upd H s.heap.objs.size (.tup [.int i,x])) {s with heap:=h2,toks:=s.toks+1}:=yk7 (s:={s with heap:=s.heap.push {cls:= .type "tuple",data:= .seq #[.int i s.toks,u]}}) (t':=s.toks+1) I0 (fun b o h3 h4 h5=>by
   rcases Heap.get?_push_cases h5 with ⟨rfl,rfl⟩|h5
   ·exact ni
   ·exact kk b o h3 h4 h5) (fo e (by simp)) (fo it (by simp))
  refine⟨.ref s.heap.objs.size,_,I1,rfl,⟨_,x,hp,rfl,rfl,fun ys hy=>by rw [I.list_inj hy hq];exact hx⟩,⟨⟨u,?_⟩,?_⟩,fun b hb=> ?_⟩
  ·have:((i+1:Nat):Int)=(i:Int)+1:=by push_cast;rfl
   rw [this];exact he2
  ·exact hit.at fun o q=>(hs2'.2 it (Y8 hne)).trans q
  ·exact(fo b hb).1
 done:=by
  intro X hP hw hK hc i pins s σ H E I hf st hg
  subst hP hw hK
  obtain⟨xs,hq,hx⟩:=hg
  obtain⟨its,rv,p,hz⟩:=I.list hq
  obtain⟨⟨old,st1⟩,st2⟩:=st
  obtain⟨f0,f1,f2,f3,f4,f5⟩:=hf it (by simp)
  have hl:=rv.length
  exact wpAny_pyNext_enum_end (I.ok.hd hc) st1 st2 p.isList (by simp;omega) fun h' eb=>⟨rfl,I.turned (t':=s.toks) (fun b o hb e=>eb b o hb e) f0 f1 f3 f4 f5⟩
 self:=fun _ _ _ _ _ st h=>by
  obtain⟨⟨old,st1⟩,_⟩:=st
  exact wpAny_pyIter_enum st1 h
structure WalkE(K:tz0)(U:tz9)(J:It)(Z:List Addr)(H1:Hp)(ds:List D):Prop where
 go:∀H',rM Z H1 H'->∀(i:Nat) d,ds[i]? =some d->J.go i H'/\∀x H2,J.yld i H' x H2->SameK H' H2/\Rep K U H2 x d []
 stop:∀H',rM Z H1 H'->J.stop ds.length H'
def mV:Nat->List D->List D
 |_,[]=>[]
 |n,d::ds=> .tup [.int n,d]::mV (n+1) ds
theorem zv4:∀{ds:List D} {n i:Nat} {d:D},(mV n ds)[i]? =some d->∃y,ds[i]? =some y/\d= .tup [.int ((n+i:Nat):Int),y]
 |[],_,_,_,h=>by simp [mV] at h
 |y::ds,n,0,d,h=>by
  rw [mV] at h
  exact⟨y,rfl,by simpa using h.symm⟩
 |y::ds,n,i+1,d,h=>by
  rw [mV,Yw] at h
  obtain⟨z,h1,h2⟩:=zv4 h
  exact⟨z,by simpa using h1,by rw [h2,show n+1+i=n+(i+1) by omega]⟩
theorem zv5:∀(ds:List D) (n:Nat),(mV n ds).length=ds.length
 |[],_=>rfl
 |d::ds,n=>by rw [mV,Z6,Z6,zv5 ds]
theorem xy9{K:tz0}{U:tz9}{H1:Hp}{a:Addr}{vs:List V}{ds:List D}{Z:List Addr}(h:Rd H1 a (.lst vs))(hz:H1 a=some (.lst vs)->a∈Z)(r:Paired (fun v d=>Rep K U H1 v d []) vs ds):WalkE K U (Ite K a) Z H1 (mV 0 ds) where
 go:=fun H' k i d e=>by
  obtain⟨y,e0,rfl⟩:=zv4 e
  obtain⟨x,e1,r1⟩:=lP r e0
  have sq:SqL K H' a vs:=k.sq h hz
  refine⟨⟨vs,x,sq,e1⟩,fun z H2 hy=> ?_⟩
  obtain⟨p,v,hp,rfl,rfl,hv⟩:=hy
  have e2:=hv vs sq
  rw [e1] at e2;cases e2
  have sm:SameK H' (upd H' p (.tup [.int i,x])):= .new hp _
  refine⟨sm,.tup (.inl (.inl cV)) (.cons (f:=[]) (g:=[]) ?_ (.one ((k.rep r1).same sm)))⟩
  rw [YM];exact .int _
 stop:=fun H' k=>⟨vs,k.sq h hz,by rw [zv5,ZI r];exact Zc _⟩
def zz8(f:tz2):tz3:=fun ps=>(f ps).bind fun d=>(yx4 d).map (mV 0)
section
variable{X:Cx}{U:tz9}{φ:F0}{pos:Pos}{body:List Stmt}{f:tz1}
theorem xe5{φ:Fx}(R:RS φ H σ ps F)(hz:∀a∈Z,H a≠none/\∀i,a∉F i)(W:WalkE φ.K φ.U J Z H ds)(hb:∀i∈is,φ.bor i=false/\φ.M i=false)
  (e:nI is f ds ps=some (fl,ps')) (q:yB φ E σ H F fl ps'):wk9 (fun v σ H Q=>xs1 φ.K is.length (wI is) v σ H Q\/xr6 φ.K is.length (wI is) v σ H Q) (tS φ f) E σ J H:=by
 refine⟨fun k m σ1 H1=>k<=ds.length/\m=ds.length-k/\∃ps1 F1,Stp φ σ H F σ1 H1 ps1 F1/\nI is f (ds.drop k) ps1=some (fl,ps'),⟨_,ZJ _,rfl,ps,F,.refl R,by rw [XO];exact e⟩,?_⟩
 rintro k m σ1 H1 ⟨hk,rfl,ps1,F1,s1,e1⟩
 have kp:rM Z H H1:=s1.fr.kept R fun a ha=>(hz a ha).2
 by_cases hlt:k<ds.length
 ·right
  have ed:ds[k]? =some ds[k]:=Zp hlt
  obtain⟨hgo,hy⟩:=W.go H1 kp k _ ed
  rw [ZP hlt,nI] at e1
  obtain⟨ys,e0,e1⟩:=bind_some e1
  obtain⟨hl,e1⟩:=bU e1
  obtain⟨⟨fl2,ps2⟩,e2,e3⟩:=bind_some e1
  refine⟨hgo,fun σ' H'=>∃F',Stp φ σ H F σ' H' ps2 F'/\nI is f (ds.drop (k+1)) ps2=some (fl,ps'),fun σ' H' ⟨F',s,e⟩=>⟨ds.length-(k+1),by omega,hlt,rfl,ps2,F',s,e⟩,fun x H' y=> ?_⟩
  obtain⟨sm,rx⟩:=hy x H' y
  rw [xd5 e0] at rx
  obtain⟨a,vs,rfl,h,hs⟩:=rx.tup_inv
  have ln:=hs.length
  have s0:=Stp.same s1.rs sm
  obtain⟨F2,s2⟩:=Stp.setN s1.rs s0 ⟨fun a ha=>absurd ha (by simp),Zm,fun k a ha hg=>absurd hg (by simp)⟩ hs hb
  have s12:=s1.trans s2
  refine .inr ⟨a,vs,rfl,h,by omega,uH (by omega) ⟨_,F2,fl2,ps2,s2.rs,e2,?_⟩⟩
  cases fl2 with
  |nx=>exact fun σ' H' F' s=>⟨F',s12.trans s,e3⟩
  |ct=>exact fun σ' H' F' s=>⟨F',s12.trans s,e3⟩
  |bk=>cases e3;exact fun σ' H' F' s=>q σ' H' F' (s12.trans s)
  |ret d=>cases e3;exact fun v σ' H' F' fv s o r=>q v σ' H' F' fv (s12.trans s) (o.after s12) r
 ·left
  have ek:k=ds.length:=by omega
  subst ek
  rw [Xw,nI] at e1
  cases e1
  exact⟨W.stop H1 kp,q _ _ F1 s1⟩
theorem xz0(is:List Nat){es:List Expr}{k:Nat}{l:Expr}{fl:tz2}{px p p2:Pos}(hp:PassesOwn (model X.prog X.w) X.A X.env X.xe)(hc:X.calm=true)(hg:Gl X "enumerate")(hm:X.mg "enumerate"=none)(hl:QP X U l fl)(hgs:PGs X es (wI is))(hb:∀i∈is,φ.bor i=false/\φ.M i=false)
  (hbd:QSs X U φ body f) (hn:(assignEach es X.env).length=is.length:=by rfl) (hst:(assignEach es X.env).findIdx? (·.1)=none:=by rfl) (hs1:starEach [l] X.env=(false,eval l X.env)::starEach [] X.env:=by rfl) (hs:∀x,foldedSetIterable (.Call (.Name "enumerate" p) [l] [] p2) X.env x=pure x:=by intro _;rfl):
  QS X U φ (.For (.Tuple es k px) (.Call (.Name "enumerate" p) [l] [] p2) body [] pos) (zz6 is (zz8 fl) f):=by
 have hi:PI X (.Tuple es k px) (.Call (.Name "enumerate" p) [l] [] p2) (fun σ H R=>∃ps xs,WS X.K U H σ ps/\fl ps=some (.lst true xs)/\D.imms xs=true/\∀J H1 Z,SameK H H1->(∀a∈Z,H a=none/\H1 a≠none)->WalkE X.K U J Z H1 (mV 0 xs)->R J H1):=by
  constructor
  intro pins s σ H R I hh_
  obtain⟨ps,xs,w,e1,him,q⟩:=hh_
  refine ZW (sR I hg hm (u:= .type "enumerate") rfl ?_)
  refine Yk ?_ hs1 rfl
  rw [hs1]
  refine YW (thn (hl pins s σ H (fun v H1=>SameK H H1/\∃fv,(∀a∈fv,H a=none)/\Rep X.K U H1 v (.lst true xs) fv) I ⟨ps,_,w,e1,fun v H1 fv s1 n1 _ r1=>⟨s1,fv,n1,r1⟩⟩) fun u s1 hu=>X3 ?_)
  obtain⟨v,H1,I1,r1,sm,fv,n1,rp⟩:=hu
  obtain⟨a,ws,g,rfl,ha,hws,rfl⟩:=rp.lstT_inv
  have eg:=hws.imm him
  subst eg
  cases r1
  obtain⟨its,rv,pl,hz⟩:=I1.list (.inl (.inl ha))
  refine call_enumerate_list pl.isList fun h' hE hI hsz hk=>wpAny_pyIter_enum hE ?_
  have I2:Inv X pins σ H1 {s1 with heap:=h'}:=I1.kept (t':=s1.toks) hk
  refine⟨s1.heap.objs.size+1,[s1.heap.objs.size+1,s1.heap.objs.size],_,_,H1,rfl,I2,xy8 a (s1.heap.objs.size+1) s1.heap.objs.size (Nat.succ_ne_self _),⟨⟨_,hE⟩,hI⟩,fun b hb=> ?_,q _ H1 [a] sm (fun b hb=> ?_) (xy9 (.inl ha) (fun _=>by simp) hws.nilp)⟩
  ·have hb2:s1.heap.objs.size<=b:=by
    rcases Z4.mp hb with z|z
    ·rw [z];exact Nat.le_succ _
    ·rw [Za.mp z];exact Zc _
   exact I1.fpOk hb2 (I1.hok.fresh hb2)
  ·rw [Za.mp hb]
   exact⟨n1 a Z0,by rw [ha];simp⟩
 exact(ya9 hp hc hi (xd0 (n:=is.length) hc hgs hn hst) hbd hs).imp fun E σ H hh_=>by
  obtain⟨ps,F,fl',ps',R,e,q⟩:=hh_
  obtain⟨ds,e1,e2⟩:=bind_some e
  obtain⟨d,e4,e3⟩:=bind_some e1
  obtain⟨xs,e5,rfl⟩:=Zr.mp e3
  obtain⟨rfl,him⟩:=yu0 e5
  refine⟨ps,_,R.ws,e4,him,fun J H1 Z s1 hz W=> ?_⟩
  have s:=Stp.same R s1
  exact xe5 s.rs (fun a ha=>⟨(hz a ha).2,fun j hj=>by obtain⟨o,h,_⟩:=R.own hj;rw [(hz a ha).1] at h;cases h⟩) W hb e2 (q.back s)
end
inductive LtS(A:Around)(s:Shared):List Value->List Value->Bool->Prop
 |nn:LtS A s [] [] false
 |nc {y:Value} {ys:List Value}:LtS A s [] (y::ys) true
 |cn {x:Value} {xs:List Value}:LtS A s (x::xs) [] false
 |eq {x y:Value} {xs ys:List Value} {c:Bool}:SeqAt.EqAt A s x y true->LtS A s xs ys c->LtS A s (x::xs) (y::ys) c
 |ne {x y:Value} {xs ys:List Value} {c:Bool}:SeqAt.EqAt A s x y false->(∀(prog:Program) (w:World) (E Q:Value->Shared->Prop),Q (.bool c) s->wpAny (model prog w) A (richCompare .Lt x y) Q E s)->LtS A s (x::xs) (y::ys) c
section
open PySem.SeqAt
open PySem.AutoSeq1 (wpAny_loadPart')
open PySem.MeetsSeq PySem.MeetsSeq2 PySem.MeetsSeq3
theorem yu7(l b:Addr)(items items2:Array Value)(n n2:Nat)(dd dd2:Option Addr)(sl sl2:Array (Option Value))(c:Bool):
  Meets (Builtin.«tuple.__lt__» ⟨[.ref l,.ref b],[]⟩)
   (fun A R s=>s.heap.get? l=some {cls:= .type "tuple",dict:=dd,data:= .seq items n,slots:=sl}/\s.heap.get? b=some {cls:= .type "tuple",dict:=dd2,data:= .seq items2 n2,slots:=sl2}/\
    LtS A.in1 s items.toList items2.toList c/\R (.ok (.ret (.bool c))) s):=
 .of_wp fun prog w A R s h=>by
  obtain⟨hp,g,d,tk,os⟩:=s;obtain⟨hl,hb,hL,h⟩:=h
  have f2:=Ws
  wp_walk using Yn hl,Yn hb,wpAny_forIn_list _ (fun rest b s'=>b.1=none/\s'=⟨hp,g,d,tk,os⟩/\∃(vs ws:List Value),rest=vs.zip ws/\
   LtS A.in1 ⟨hp,g,d,tk,os⟩ vs ws c/\vs.length+items2.size=ws.length+items.size/\R (.ok (.ret (.bool c))) ⟨hp,g,d,tk,os⟩) _
  case turn=>
   rintro⟨y,x⟩ rest b s' ⟨hb',rfl,vs,ws,hz,hS,hlen,hR⟩
   cases hS with
   |nn=>rw [Xn] at hz;cases hz
   |nc=>rw [Xn] at hz;cases hz
   |cn=>rw [Wt] at hz;cases hz
   |eq he hS'=>
    rw [Yi] at hz
    injection hz with hyx hrest
    injection hyx with hy hx
    subst hy hx
    simp only [Z6] at hlen
    refine Zf (he prog w _ _ ?_)
    wp_walk
    exact⟨rfl,rfl,_,_,hrest,hS',by omega,hR⟩
   |ne he hlt=>
    rw [Yi] at hz
    injection hz with hyx hrest
    injection hyx with hy hx
    subst hy hx
    refine Zf (he prog w _ _ ?_)
    have hri:=hlt prog w
    wp_walk using hri
    exact⟨_,rfl,by simpa using hR⟩
  case fin=>
   rintro⟨b1,b2⟩ s' ⟨hb',rfl,vs,ws,hz,hS,hlen,hR⟩
   simp only at hb'
   subst hb'
   have hv:c=decide (items.size<items2.size):=by
    cases hS with
    |nn=>simp only [ZZ] at hlen;exact(Zd (by omega)).symm
    |nc=>simp only [ZZ,Z6] at hlen;exact(Zq (by omega)).symm
    |cn=>simp only [ZZ,Z6] at hlen;exact(Zd (by omega)).symm
    |eq _ _=>rw [Yi] at hz;cases hz
    |ne _ _=>rw [Yi] at hz;cases hz
   rw [hv] at hR
   wp_walk
   exact⟨_,rfl,by simpa [Builtin.Tuple.tupleCompareSizes] using hR⟩
  case h=>
   exact⟨rfl,rfl,items.toList,items2.toList,rfl,hL,by simp;omega,h⟩
end
section
variable{prog:Program}{w:World}{A:Around}{E:Value->Shared->Prop}{s:Shared}
theorem yo1{l b:Addr}{items items2:Array Value}{c:Bool}{Q:Value->Shared->Prop}(hl:IsTup s.heap l items)(hb:IsTup s.heap b items2)(hS:LtS A.in1 s items.toList items2.toList c)
  (hu:A.units<cLine) (h:Q (.bool c) s):wpAny (model prog w) A (compareOp .Lt (.ref l) (.ref b)) Q E s:=by
 obtain⟨⟨cls,dd,data,sl⟩,ho,hc,n,hd⟩:=id hl
 obtain⟨⟨cls2,dd2,data2,sl2⟩,ho2,hc2,n2,hd2⟩:=id hb
 simp only at hc hd hc2 hd2
 subst hc hd hc2 hd2
 exact richCompare_meets_room (op:= .Lt) ⟨_,ho,rfl⟩ ⟨_,ho2,rfl⟩ We W5 (W0 _ _) (yu7 l b items items2 n n2 dd dd2 sl sl2 c)
  ⟨ho,ho2,hS,show Value.bool c≠Value.notImplemented/\Q (.bool c) s from⟨(fun x=>nomatch x),h⟩⟩ hu
end
def zb1:List (List Int)->List (List Int)->Bool
 |[],[]=>false
 |[],_::_=>true
 |_::_,[]=>false
 |x::xs,y::ys=>if x=y then zb1 xs ys else HT.lexLt x y
inductive TI2(s:Shared):List Value->List (List Int)->Prop
 |nil:TI2 s [] []
 |cons {a:Addr} {its:Array Value} {ns:List Int} {vs:List Value} {nss:List (List Int)}:IsTup s.heap a its->IntsAre its.toList ns->TI2 s vs nss->TI2 s (.ref a::vs) (ns::nss)
theorem zk9{h:Heap}:∀{vs:List Value} {ns:List Int},IntsAre vs ns->∃as,ReadsAll h vs (ns.map .int) as
 |_,_,.nil=>⟨_,.nil⟩
 |_,_,.cons i t hs=>by
  obtain⟨as,r⟩:=zk9 (h:=h) hs
  exact⟨_,.cons (.int i t) r⟩
theorem zv6{s:Shared}{a:Addr}{its:Array Value}{ns:List Int}(h:IsTup s.heap a its)(hi:IntsAre its.toList ns):∃as,Reads s.heap (.ref a) (.tuple (ns.map .int)) as:=by
 obtain⟨o,e,c,n,d⟩:=h
 obtain⟨as,r⟩:=zk9 (h:=s.heap) hi
 exact⟨_,.tuple e c d r⟩
theorem zg2:∀ns ms:List Int,PyData.eqvAll (ns.map .int) (ms.map .int)=decide (ns=ms)
 |[],[]=>by simp [PyData.eqvAll]
 |[],_::_=>by simp [PyData.eqvAll]
 |_::_,[]=>by simp [PyData.eqvAll]
 |n::ns,m::ms=>by
  rw [Z9,Z9,PyData.eqvAll,zg2 ns ms,PyData.eqv]
  by_cases h:n=m<;>by_cases h2:ns=ms<;>simp [h,h2]
theorem xo5{A:Around}{s:Shared}(hu:A.units+8<cLine):∀{vs ws:List Value} {nss mss:List (List Int)},TI2 s vs nss->TI2 s ws mss->LtS A s vs ws (zb1 nss mss)
 |_,_,_,_,.nil,.nil=> .nn
 |_,_,_,_,.nil,.cons _ _ _=> .nc
 |_,_,_,_,.cons _ _ _,.nil=> .cn
 | _,_,_,_,.cons (ns:=ns) h1 i1 t1,.cons (ns:=ms) h2 i2 t2=>by
  obtain⟨as,r1⟩:=zv6 h1 i1
  obtain⟨bs,r2⟩:=zv6 h2 i2
  have e:=SeqAt.eqAt_reads _ _ A s _ _ as bs r1 r2 (by simp only [PyData.canLay0,canLayAll_ints]) (by simp only [PyData.canLay0,canLayAll_ints]) (by simp only [PyData.depth,depthAll_ints];omega)
  rw [PyData.eqv,zg2] at e
  rw [zb1]
  by_cases z:ns=ms
  ·rw [Zq z] at e
   rw [if_pos z]
   exact .eq e (xo5 hu t1 t2)
  ·rw [Zd z] at e
   rw [if_neg z]
   exact .ne e fun prog w E Q q=>HT.lt_tupInts h1 h2 i1 i2 (by omega) q
def D.intss:List D->Option (List (List Int))
 |[]=>some []
 | .tup xs::ds=>(D.ints xs).bind fun ns=>(D.intss ds).map (ns::·)
 |_=>none
theorem zl0{X:Cx}{U:tz9}{pins:tzB}{σ:St}{H:Hp}{s:Shared}(I:Inv X pins σ H s):∀{ds:List D} {vs:List V} {us:List Value} {nss:List (List Int)},Reps X.K U H vs ds []->bJ vs us->D.intss ds=some nss->TI2 s us nss
 |[],_,_,_,r,v,e=>by
  cases r;cases v;cases e
  exact .nil
 | d::ds,_,_,nss,r,v,e=>by
  obtain⟨v1,vs1,f,g,rfl,r1,r2,ef⟩:=r.split
  obtain⟨rfl,rfl⟩:=W6.mp ef.symm
  cases v with
  | cons ru rus=>
   cases d with
   |tup xs=>
    obtain⟨ns,e1,e2⟩:=bind_some (show(D.ints xs).bind _=some nss from e)
    obtain⟨mss,e3,rfl⟩:=Zr.mp e2
    obtain⟨a,ws,rfl,h1,s1⟩:=r1.tup_inv
    rw [sI s1 e1] at h1
    cases ru
    obtain⟨its,rv,p,_⟩:=I.tuple h1
    exact .cons p (by simpa using wQ rv) (zl0 I r2 rus e3)
   |_=>cases e
def yi4:D->D->Option D
 | .tup xs,.tup ys=>(D.intss xs).bind fun ns=>(D.intss ys).map fun ms=> .bl (zb1 ns ms)
 |_,_=>none
theorem wm9{X:Cx}{U:tz9}(hu:X.A.units+64<cLine):OpR X (compareOp .Lt) (POp X.K U yi4):=⟨by
 rintro pins s σ H x y v u Q I rx ry ⟨dx,dy,d,fx,fy,r1,r2,e,q⟩
 unfold yi4 at e
 split at e
 ·obtain⟨ns,e1,e⟩:=bind_some e
  obtain⟨ms,e2,e⟩:=Zr.mp e
  subst e
  obtain⟨a,vs,rfl,h1,s1⟩:=r1.tup_inv
  obtain⟨b,us,rfl,h2,s2⟩:=r2.tup_inv
  cases rx
  cases ry
  obtain⟨its,rv,p1,_⟩:=I.tuple h1
  obtain⟨its2,rv2,p2,_⟩:=I.tuple h2
  refine yo1 p1 p2 (xo5 (by show X.A.units+1+8<cLine;omega) (zl0 I s1 rv e1) (zl0 I s2 rv2 e2)) (by omega) ⟨.bl _,H,I,rfl,q.now (.bl _)⟩
 ·cases e⟩
def vK:List Int->Option Int
 |[]=>none
 |n::ns=>match vK ns with
  |none=>some n
  |some m=>some (if m<=n then n else m)
theorem zr1:∀{ns:List Int} {k:Int},vK ns=some k->k∈ns/\∀n∈ns,n<=k
 |[],k,h=>by cases h
 | n::ns,k,h=>by
  rw [vK] at h
  cases e:vK ns with
  | none=>
   rw [e] at h
   cases h
   cases ns with
   |nil=>simp
   |cons m ms=>
    rw [vK] at e
    cases e2:vK ms<;>rw [e2] at e<;>cases e
  | some m=>
   rw [e] at h
   obtain⟨h1,h2⟩:=zr1 e
   have h3:(if m<=n then n else m)=k:=by simpa using h
   by_cases c:m<=n
   ·rw [if_pos c] at h3
    subst h3
    exact⟨by simp,fun x hx=>(Z4.mp hx).elim (fun z=>by omega) fun z=>by have:=h2 x z;omega⟩
   ·rw [if_neg c] at h3
    subst h3
    exact⟨by simp [h1],fun x hx=>(Z4.mp hx).elim (fun z=>by omega) fun z=>h2 x z⟩
def yx6:tz6
 |[.lst _ xs]=>(D.ints xs).bind fun ns=>(vK ns).map .int
 |_=>none
theorem wg4{X:Cx}{U:tz9}(hc:X.calm=true):CallR X (.builtin "max") (PCl X.K U yx6):=⟨by
 rintro pins s σ H vs us Q I r ⟨ds,fp,d,rs,e,q⟩
 unfold yx6 at e
 split at e
 ·obtain⟨ns,e1,e2⟩:=bind_some e
  obtain⟨k,e3,rfl⟩:=Zr.mp e2
  obtain⟨v,rfl,r1⟩:=rs.one_inv
  obtain⟨a,ws,g,rfl,h,hs,_⟩:=r1.lst_inv
  rw [sI hs e1] at h
  obtain⟨h1,h2⟩:=zr1 e3
  refine xb9 hc pins s σ H _ us Q I r ⟨a,ns,rfl,.inl h,List.length_pos_of_mem h1,fun m hm hx=> ?_⟩
  have em:m=k:=by have:=h2 m hm;have:=hx k h1;omega
  rw [em]
  exact q.now (.int _)
 ·cases e⟩
def wl1(C:Addr)(m:Str)(sp:Sp)(dvs:List V)(E:XK)(ta:TE)(t:TA):TE:=fun σ H Q=>ta σ H fun x H1=>∃a dx fs,x= .ref a/\Rd H1 a (.ins C dx fs)/\fs.lookup m=none/\
 t σ H1 fun vs H2=>sp (x::(vs++dvs)) H2 Q E
section
variable{X:Cx}{U:tz9}{o e:Expr}{es:List Expr}{m qual:Str}{st:Stmt}{ps:List Str}{f:Addr}{fd:FuncData}{k np:Nat}{apos pos p:Pos}{pl:Sem Bool}
theorem xo6{C:Addr}{CX:CXT}{sp:Sp}{E:XK}{ds:List Value}{dvs:List V}{ta:TE}{t:TA}(he:PE X o ta)(c:Cls X.K C)(hm:Meth X.K C m f)(F:FnOk X.prog X.w X.K X.mg X.base CX k f fd ps sp)(hr:Room k X.A)(hb:lJ X.K fd ps ds)(hd:bJ dvs ds)(hx:nH CX X E)(ha:PA X (e::es) t)
  (hst:StE e es X:=by rfl) (hpl:BkE pos es X:=by rfl)
  (ht:eval (.Call (.Attribute o m apos) (e::es) [] pos) X.env=(do
   let ov<-eval o X.env
   standAt apos.atName
   let (f,first)<-holding [ov] (getMethod ov m pl)
   callWith pos f first (backTo pos (starEach (e::es) X.env)) (backToKw pos (keywordEach [] X.env))):=by rfl):
  PE X (.Call (.Attribute o m apos) (e::es) [] pos) (wl1 C m sp dvs E ta t):=⟨by
 intro pins s σ H Q I h
 refine X4 (pl:=pl) (thn (he pins s σ H _ I h) fun u s1 ⟨x,H1,I1,rx,a,dx,fs,ex,ea,l,q⟩=> ?_) ht
 subst ex
 obtain rfl:u=Value.ref a:=rx
 refine yt7 I1 ea c hm l ?_
 refine Yh (first:=[.ref a]) (h₀:=X.base) I.ok.mod.kin hm.kp (thn (ha pos pins s1 σ H1 _ I1 q) fun us s2 ⟨vs,H2,I2,r,q2⟩=>⟨I2.kIn,?_⟩) hst hpl
 exact zC (us:= .ref a::us) (vs:= .ref a::vs) F hr hb hd hx I2 (.cons rfl r) q2⟩
def ze7(C m:Str):D->Option D
 | .obj false C' ns vs=>if (C'=C/\cN ns m=none) then some (.obj false C' ns vs) else none
 |_=>none
def qT(C m:Str)(fo:tz2):tz2:=fun ps=>(fo ps).bind (ze7 C m)
theorem yu8(h:ze7 C m x=some d):∃ns vs,x=d/\d= .obj false C ns vs/\cN ns m=none:=by
 unfold ze7 at h
 split at h
 ·obtain⟨⟨hC,hn⟩,e3⟩:=bU h
  subst hC;cases e3
  exact⟨_,_,rfl,rfl,hn⟩
 ·cases h
theorem ye0{C:Str}{h:tz6}{fo:tz2}{g:tz3}(M:Mn X.K U C m qual st ps f fd)(G:FnOk X.prog X.w X.K X.mg X.base CX0 k f fd ps (SpP np X.K U h))(hr:Room k X.A)(ho:QV X U o fo)(hnp:(e::es).length+1=np)(ha:QVA X U (e::es) g)(hlen:∀ps ds,g ps=some ds->ds.length=(e::es).length)
  (hst:StE e es X:=by rfl) (hpl:BkE pos es X:=by rfl)
  (ht:eval (.Call (.Attribute o m apos) (e::es) [] pos) X.env=(do
   let ov<-eval o X.env
   standAt apos.atName
   let (f,first)<-holding [ov] (getMethod ov m pl)
   callWith pos f first (backTo pos (starEach (e::es) X.env)) (backToKw pos (keywordEach [] X.env))):=by rfl):
  QP X U (.Call (.Attribute o m apos) (e::es) [] pos) (aH h (aB (qT C m fo) g)):=(xo6 ho M.c M.h G hr M.b .nil zc5 ha hst hpl ht).imp fun σ H Q hh_=>by
 obtain⟨ps,d,w,e,q⟩:=hh_
 obtain⟨ds,e1,e2⟩:=bind_some e
 obtain⟨x,k1,k2⟩:=bind_some e1
 obtain⟨ds',k3,k4⟩:=bind_some k2
 cases k4
 obtain⟨y,k0,k1⟩:=bind_some k1
 obtain⟨ns,vs,rfl,rfl,k6⟩:=yu8 k1
 refine⟨ps,_,w,k0,fun v H1 fp s1 r1=> ?_⟩
 have r1':=r1
 obtain⟨_,_,_,_,rfl,hl,hn,hs,_⟩:=r1.obj_inv
 subst hn
 refine⟨_,_,_,rfl,hl,pY k6,ps,ds',w.same s1,k3,fun us H2 fq s2 r2=> ?_⟩
 show SpP np X.K U h (_::(us++[])) H2 Q E0
 rw [Zj]
 exact⟨by rw [Z6,r2.length,hlen ps ds' k3,hnp],_,_,d,.cons (r1'.same s2) r2,e2,q.after (s1.trans s2)⟩
end
def xu7:D->Option Bool
 | .dic _ ks _=>some (!ks.isEmpty)
 |_=>none
def fTK(f:tz2):tz4:=fun ps=>(f ps).bind xu7
theorem yo2{X:Cx}{U:tz9}{a:Expr}{fa:tz2}(ha:QV X U a fa)(he:∀whole,isTrue a X.env whole=(do let v<-whole;standAt a.pos;holding [v] (truthy v)):=by intro _;rfl):QT X U a (fTK fa):=⟨by
 intro pins s σ H Q I hh_
 obtain⟨ps,c,w,e,q⟩:=hh_
 obtain⟨d,e1,e2⟩:=bind_some e
 unfold xu7 at e2
 split at e2
 ·rename_i o ks ds
  cases e2
  refine isTrue_plain (thn (ha pins s σ H (fun v H1=>SameK H H1/\∃fp,Rep X.K U H1 v (.dic o ks ds) fp) I ⟨ps,_,w,e1,fun v H1 fp s1 r1=>⟨s1,fp,r1⟩⟩) fun v s1 hv=> ?_) (he _)
  obtain⟨x,H1,I1,r1,sm,fp,rp⟩:=hv
  obtain⟨l,kvs,g,rfl,hl,hk,_⟩:=rp.dic_inv
  cases r1
  refine xw6 I1 hl fun s2 I2=>⟨H1,I2,?_⟩
  rw [show kvs.isEmpty=ks.isEmpty by rw [<-hk];cases kvs<;>rfl]
  exact q H1 sm
 ·cases e2⟩
section
variable{prog:Program}{w:World}{A:Around}{E:Value->Shared->Prop}
def qC(h0 h:Heap):Prop:=∀b o,h0.get? b=some o->h.get? b=some o
theorem TI2.keep{s s':Shared}(k:qC s.heap s'.heap):∀{vs:List Value} {n:List (List Int)},TI2 s vs n->TI2 s' vs n
 |_,_,.nil=> .nil
 |_,_,.cons (a:=a) h1 h2 h3=> .cons (let ⟨o,e,r⟩:=h1;⟨o,k a o e,r⟩) h2 (TI2.keep k h3)
def zb2(s:Shared)(v:Value)(n:List (List Int)):Prop:=∃a its,v= .ref a/\IsTup s.heap a its/\TI2 s its.toList n
theorem zb2.keep{s s':Shared}{v:Value}{n:List (List Int)}(k:qC s.heap s'.heap)(h:zb2 s v n):zb2 s' v n:=by
 obtain⟨a,its,rfl,h1,h2⟩:=h
 exact⟨a,its,rfl,let ⟨o,e,r⟩:=h1;⟨o,k a o e,r⟩,h2.keep k⟩
theorem wn0{s:Shared}{v u:Value}{n m:List (List Int)}{Q:Value->Shared->Prop}(hu:A.units+9<cLine)(h1:zb2 s v n)(h2:zb2 s u m)(q:Q (.bool (zb1 n m)) s):wpAny (model prog w) A (richCompare .Lt v u) Q E s:=by
 obtain⟨a,its,rfl,a1,a2⟩:=h1
 obtain⟨b,jts,rfl,b1,b2⟩:=h2
 exact yo1 a1 b1 (xo5 (by show A.units+1+8<cLine;omega) a2 b2) (by omega) q
def ltN(N:List (List (List Int)))(i j:Nat):Bool:=zb1 (N.getD i []) (N.getD j [])
theorem wn1{R:Result->Shared->Prop}{s0:Shared}{vs:List (Key×Value)}{N:List (List (List Int))}{d it S:Addr}{ep:Nat}(hh:A.in1.handled=none)(hu:A.units+10<cLine)(hN:∀(i:Nat) (k:Key) v,vs[i]? =some (k,v)->zb2 s0 v (N.getD i []))(dd:s0.heap.DictAt (eQ prog w) d vs ep)(n1:s0.heap.get? it=none)(n2:s0.heap.get? S=none)(ne:it≠S):
  ∀(m j:Nat) (s:Shared) (vb:Value) (c:Nat) (k:Key),vs.length=j+1+m->s.heap.IsValIter it d (j+1) vs.length ep->qC s0.heap s.heap->vs[argBest (ltN N) j]? =some (k,vb)->s.heap.get? S=some {cls:= .type "list",dict:=none,data:= .seq #[vb,vb] c,slots:= #[]}->
  (∀v k h' tk,vs[argBest (ltN N) (vs.length-1)]? =some (k,v)->qC s0.heap h'->R (.ok (.ret v)) {s with heap:=h',toks:=tk})->codeAny (model prog w) A (.builtin "min.loop" ⟨[.ref it,.none,.ref S],[]⟩) R s:=by
 have hname:(toString "min"++toString ".loop":String)="min.loop"/\∀b o,s0.heap.get? b=some o->b≠it/\b≠S:=⟨by decide,fun b o e=>⟨fun z=>(by rw [z,n1] at e;cases e),fun z=>(by rw [z,n2] at e;cases e)⟩⟩
 intro m
 induction m with
 |zero=>
  intro j s vb c k hj hit K hb hS hR
  refine Xj XY (?_:wpAny _ _ _ _ _ s);rw [Xr Yj _]
  show wpAny _ A.in1 (seqItems? (.ref S)>>=fun _=>_) _ _ s;refine Zf (Wk hS rfl (?_:wpAny _ _ _ _ _ s))
  show wpAny _ A.in1 (tryCatch (pyNext (.ref it)) _>>=_) _ _ s
  refine Zf (Xs (wpAny_pyNext_values_end hh hit (dd.keep K) (YD (by omega)) fun h' eb=> ?_))
  have hS':=eb S _ (Y8 ne) hS;show wpAny _ A.in1 (updateSeq S (fun _=> #[])>>=fun _=>_) _ _ _
  refine Zf (Wa hS' rfl (Zf (W2 (ZD ?_))))
  exact hR vb k _ s.toks (by rw [show vs.length-1=j by omega];exact hb) fun b o e=>(Y3 _ _ (Y8 (hname.2 b o e).2)).trans (eb b o (hname.2 b o e).1 (K b o e))
 | succ m ih=>
  intro j s vb c k hj hit K hb hS hR
  obtain⟨⟨kx,vx⟩,hx⟩:∃p,vs[j+1]? =some p:=⟨vs[j+1],by simp⟩
  refine Xj XY (?_:wpAny _ _ _ _ _ s);rw [Xr Yj _]
  show wpAny _ A.in1 (seqItems? (.ref S)>>=fun _=>_) _ _ s;refine Zf (Wk hS rfl (?_:wpAny _ _ _ _ _ s))
  show wpAny _ A.in1 (tryCatch (pyNext (.ref it)) _>>=_) _ _ s
  refine Zf (Xs (Wv hit (dd.keep K) hx fun h' hit' sb=> ?_))
  have K':qC s0.heap h':=fun b o e=>(sb.2 b (hname.2 b o e).1).trans (K b o e)
  have hS':h'.get? S=_:=(sb.2 S (Y8 ne)).trans hS;show wpAny _ A.in1 (tryCatch (holding [vx,vx] (richCompare .Lt vx vb>>=fun _=>_)) _>>=_) _ _ _
  refine Zf (Xs (Yx (Zf (wn0 (s:={s with heap:=h'}) (by show A.units+1+9<cLine;omega) ((hN _ _ _ hx).keep K') ((hN _ _ _ hb).keep K') ?_))))
  refine Zf (Yx (ZR (Zf (W2 (ZD ?_)))))
  have tl:∀(h2:Heap) (vb2:Value) (k2:Key) (c2:Nat),h2.IsValIter it d (j+1+1) vs.length ep->qC s0.heap h2->vs[argBest (ltN N) (j+1)]? =some (k2,vb2)->h2.get? S=some {cls:= .type "list",dict:=none,data:= .seq #[vb2,vb2] c2,slots:= #[]}->codeAny (model prog w) A (.builtin "min.loop" ⟨[.ref it,.none,.ref S],[]⟩) R {s with heap:=h2}:=fun h2 vb2 k2 c2 a1 a2 a3 a4=>ih (j+1) {s with heap:=h2} vb2 c2 k2 (by omega) a1 a2 a3 a4 fun v k h3 tk a5 a6=>hR v k h3 tk a5 a6
  have hlt:zb1 (N.getD (j+1) []) (N.getD (argBest (ltN N) j) [])=ltN N (j+1) (argBest (ltN N) j):=rfl
  rw [hlt]
  cases hbt:ltN N (j+1) (argBest (ltN N) j) with
  | true=>
   simp only [Y2]
   refine Zf (Wa hS' rfl (Zf (W2 ?_)));rw [hname.1]
   refine ZD ⟨Xz Yj _,tl _ vx kx _ ?_ ?_ ?_ (Xm _ hS' rfl)⟩
   ·obtain⟨oi,q1,q2⟩:=hit'
    exact⟨oi,(Y3 _ _ (Y8 ne)).trans q1,q2⟩
   ·exact fun b o e=>(Y3 _ _ (Y8 (hname.2 b o e).2)).trans (K' b o e)
   ·rw [argBest,hbt,if_pos rfl];exact hx
  |false=>
   simp only [ZS,Yy]
   refine Zf (W2 ?_);rw [hname.1]
   exact ZD ⟨Xz Yj _,tl _ vb k c hit' K' (by rw [argBest,hbt,if_neg Z7];exact hb) hS'⟩
theorem zx8{Q:Value->Shared->Prop}{s0 s:Shared}{vs:List (Key×Value)}{N:List (List (List Int))}{d vw:Addr}{ep:Nat}(hh:A.handled=none)(hu:A.units+11<cLine)(hN:∀(i:Nat) (k:Key) v,vs[i]? =some (k,v)->zb2 s0 v (N.getD i []))(dd:s0.heap.DictAt (eQ prog w) d vs ep)(K:qC s0.heap s.heap)(hv:s.heap.IsValuesView vw d)(h0:0<vs.length)
  (hQ:∀v k h' tk,vs[argBest (ltN N) (vs.length-1)]? =some (k,v)->qC s0.heap h'->Q v {s with heap:=h',toks:=tk}):wpAny (model prog w) A (call (.builtin "min") [.ref vw]) Q E s:=by
 have hname:(toString "min"++toString ".loop":String)="min.loop"/\True:=⟨by decide,trivial⟩
 refine call_function_tree F.kind_min F.plain_min F.entry_min (F.args_min1 (.ref vw)) (?_:wpAny _ _ _ _ _ s)
 show wpAny _ A.in1 (Builtin.Builtins.bindParams "min" ["key","default"] 0 ⟨[],[]⟩>>=fun _=>_) _ _ s
 refine Zf (wpAny_of_eq (a:=[none,none]) rfl (Zf (ZD (Zf (wpAny_pyIter_values hv (dd.keep K) (Zf (wpAny_newObj_type ?_)))))))
 rw [hname.1]
 refine ZD ⟨Xz Yj _,?_⟩
 have e0:∀b o,s0.heap.get? b=some o->b<s.heap.objs.size:=fun b o e=>Zk (K b o e)
 have nn:∀b,s.heap.objs.size<=b->s0.heap.get? b=none:=fun b hb=>by
  cases z:s0.heap.get? b with
  |none=>rfl
  |some o=>exact absurd (e0 b o z) (Nat.not_lt.mpr hb)
 have szp:∀o:Obj,(s.heap.push o).objs.size=s.heap.objs.size+1:=fun o=>Wi ..
 obtain⟨⟨k0,v0⟩,hx⟩:∃p,vs[0]? =some p:=⟨vs[0],by simp⟩
 generalize hio:({cls:= .type "dict_valueiterator",data:= .fields #[.ref d,.int 0 0,.int vs.length 0,.int ep 0]}:Obj)=io
 have K1:qC s0.heap ((s.heap.push io).push {cls:= .type "list",data:= .seq #[]}):=fun b o e=>Zh _ (Zh _ (K b o e))
 have hS:((s.heap.push io).push {cls:= .type "list",data:= .seq #[]}).get? (s.heap.push io).objs.size=some {cls:= .type "list",data:= .seq #[]}:=Zv _ rfl
 have hI:((s.heap.push io).push {cls:= .type "list",data:= .seq #[]}).IsValIter s.heap.objs.size d 0 vs.length ep:=⟨io,Zh _ (Zv _ (by rw [<-hio];rfl)),by rw [<-hio],by rw [<-hio];rfl⟩
 have ne:s.heap.objs.size≠(s.heap.push io).objs.size:=by rw [szp];omega
 have n2:s0.heap.get? (s.heap.push io).objs.size=none:=nn _ (by rw [szp];omega)
 generalize (s.heap.push io).objs.size=S at hS ne n2|-
 generalize (s.heap.push io).push {cls:= .type "list",data:= .seq #[]}=hp at K1 hS hI|-
 refine Xj XY (?_:wpAny _ _ _ _ _ {s with heap:=hp});rw [Xr Yj _]
 show wpAny _ A.in1 (seqItems? (.ref S)>>=fun _=>_) _ _ _;refine Zf (Wk hS rfl (?_:wpAny _ _ _ _ _ {s with heap:=hp}))
 show wpAny _ A.in1 (tryCatch (pyNext (.ref s.heap.objs.size)) _>>=fun _=>_) _ _ _
 refine Zf (Xs (Wv (s:={s with heap:=hp}) hI (dd.keep K1) hx fun h' hit' sb=> ?_))
 have K':qC s0.heap h':=fun b o e=>(sb.2 b (fun z=>by rw [z,nn _ (Zc _)] at e;cases e)).trans (K1 b o e)
 have hS':h'.get? S=_:=(sb.2 S (Y8 ne)).trans hS;show wpAny _ A.in1 (updateSeq S (fun _=> #[v0,v0])>>=fun _=>_) _ _ _
 refine Zf (Wa hS' rfl ?_);rw [hname.1]
 refine ZD ⟨Xz Yj _,wn1 (s0:=s0) (A:=A) (N:=N) (vs:=vs) hh (by omega) hN dd (nn _ (Zc _)) n2 ne (vs.length-1) 0 _ v0 _ k0 (by omega) ?_ ?_ hx (Xm _ hS' rfl) fun v k h2 tk a1 a2=> ?_⟩
 ·obtain⟨oi,q1,q2⟩:=hit'
  exact⟨oi,(Y3 _ _ (Y8 ne)).trans q1,q2⟩
 ·exact fun b o e=>(Y3 _ _ (fun z=>by rw [<-z,n2] at e;cases e)).trans (K' b o e)
 ·exact hQ v k h2 tk a1 a2
end
def D.intsss:List D->Option (List (List (List Int)))
 |[]=>some []
 | .tup xs::ds=>(D.intss xs).bind fun n=>(D.intsss ds).map (n::·)
 |_=>none
theorem zv7:∀{ds:List D} {N:List (List (List Int))},D.intsss ds=some N->ds.length=N.length/\∀(i:Nat) d,ds[i]? =some d->∃xs,d= .tup xs/\D.intss xs=some (N.getD i [])
 |[],_,e=>by cases e;exact⟨rfl,fun i d h=>by simp at h⟩
 | .tup xs::ds,N,e=>by
  obtain⟨n,e1,e2⟩:=bind_some (show(D.intss xs).bind _=some N from e)
  obtain⟨M,e3,rfl⟩:=Zr.mp e2
  obtain⟨h1,h2⟩:=zv7 e3
  refine⟨by simp [h1],fun i d h=> ?_⟩
  cases i with
  |zero=>simp at h;exact⟨xs,h.symm,e1⟩
  |succ i=>simpa using h2 i d (by simpa using h)
 | .non::_,_,e=>by cases e
 | .bl _::_,_,e=>by cases e
 | .int _::_,_,e=>by cases e
 | .str _::_,_,e=>by cases e
 | .lst _ _::_,_,e=>by cases e
 | .con _::_,_,e=>by cases e
 | .ty _::_,_,e=>by cases e
 | .dic _ _ _::_,_,e=>by cases e
 | .obj _ _ _ _::_,_,e=>by cases e
def xu8:D->Option D
 | .dic _ _ ds=>(D.intsss ds).bind fun N=>ds[argBest (ltN N) (N.length-1)]?
 |_=>none
def zz9(f:tz2):tz2:=fun ps=>(f ps).bind xu8
section
variable{X:Cx}{U:tz9}{a:Expr}{fa:tz2}{p1 p2 ap pos:Pos}
theorem xz1(hc:X.calm=true)(hu:X.A.units+64<cLine)(ha:QV X U a fa)(hg:Gl X "min")(hm:X.mg "min"=none)(hb:attributeBase a "values" X.env (eval a X.env)=eval a X.env:=by rfl)(hln:(ap.endLine==p2.line)=true:=by rfl)
  (hs1:starEach [.Call (.Attribute a "values" ap) [] [] p2] X.env=(false,eval (.Call (.Attribute a "values" ap) [] [] p2) X.env)::starEach [] X.env:=by rfl):
  QV X U (.Call (.Name "min" p1) [.Call (.Attribute a "values" ap) [] [] p2] [] pos) (zz9 fa):=⟨by
 intro pins s σ H Q I hh_
 obtain⟨ps,d,w,e,q⟩:=hh_
 obtain⟨d1,e1,e2⟩:=bind_some e
 unfold xu8 at e2
 split at e2
 ·rename_i b ks ds
  obtain⟨N,eN,e3⟩:=bind_some e2
  obtain⟨hNl,hNa⟩:=zv7 eN
  refine ZW (sR I hg hm (u:= .builtin "min") boot_min ?_)
  refine Xt ?_ hs1 rfl
  rw [hs1]
  refine YW ?_
  refine wpAny_Call_method hb rfl hln PySem.F.plainAttrs_dict XZ PySem.F.type_dict_values (thn (ha pins s σ H (fun v H1=>SameK H H1/\∃fp,Rep X.K U H1 v (.dic b ks ds) fp) I ⟨ps,_,w,e1,fun v H1 fp s1 r1=>⟨s1,fp,r1⟩⟩) fun u s1 hx=> ?_)
  obtain⟨v,H1,I1,r1,sm,fp,rp⟩:=hx
  obtain⟨l,kvs,g,rfl,hl,hk,hrs,_⟩:=rp.dic_inv
  cases r1
  obtain⟨t1,t2,t3⟩:=we8 I1 (.inl ⟨kvs,hl⟩)
  refine⟨t1,t2,?_⟩
  obtain⟨z,sm',vs,hv,hd⟩:=uE I1.hok hl
  obtain⟨ep,dd⟩:=hd.dictAt
  refine Xe rfl (PyProof.Rows.evalArgs_nil3 (?_:wpAny _ _ _ _ _ s1))
  refine call_meetsIn XZ t1 PySem.F.entry_dict_values (PySem.F.args_dict_values_1 (.ref l)) (meets_dict_values (eQ X.prog X.w) l t3) ⟨⟨vs,hd⟩,X3 ?_⟩
  have lv:=ZI hv
  have ld:kvs.length=ds.length:=by have:=hrs.length;simpa using this
  have h0:argBest (ltN N) (N.length-1)<ds.length:=(Z5.mp e3).1
  have hN:∀(i:Nat) (k:Key) v,vs[i]? =some (k,v)->zb2 s1 v (N.getD i []):=fun i k v hi=>by
   obtain⟨⟨k',vv⟩,hx2,hk',rv⟩:=lP hv hi
   have hlt:i<ds.length:=by have:=(Z5.mp hx2).1;omega
   obtain⟨xs,hxs,en⟩:=hNa i ds[i] (by simp [hlt])
   obtain⟨v2,f2,g1,g2,_⟩:=hrs.get (i:=i) (d:=ds[i]) (by simp [hlt])
   rw [Ze,hx2] at g1
   cases g1
   rw [hxs] at g2
   obtain⟨a2,ws,rfl,hw,sw⟩:=g2.tup_inv
   cases rv
   obtain⟨its,rvs,p,_⟩:=I1.tuple hw
   exact⟨a2,_,rfl,p,by simpa using zl0 I1 sw rvs en⟩
  refine zx8 (s0:=s1) (N:=N) (vs:=vs) (d:=l) (I.ok.hd hc) (by show X.A.units+11<cLine;omega) hN dd (fun b o e=>Zh _ e) ⟨_,Zv _ rfl,rfl,rfl⟩ (by omega) fun v k h' tk hv' K=> ?_
  rw [<-lv,ld,hNl] at hv'
  obtain⟨⟨k',vv⟩,hx2,hk',rv⟩:=lP hv hv'
  obtain⟨v2,f2,g1,g2,_⟩:=hrs.get e3
  rw [Ze,hx2] at g1
  cases g1
  exact⟨vv,H1,I1.kept (t':=tk) (h':=h') K,rv,q vv H1 f2 sm g2⟩
 ·cases e2⟩
end
def zi7(g:List D->Bool)(ga:tz3):tz5:=fun ps=>match ga ps with
 |some ds=>g ds
 |none=>false
section
variable{P:Program}{w:World}{K:tz0}{mg:tzA}{base:Heap}{N:List Str}{qual:Str}{scope:Scope}{f C:Addr}{cd:Value}{A:Around}{outer:List Env}{s:Shared}{H:Hp}{E:XK}{U:tz9}{φ:F0}
theorem wg5{x:Str}{st:Stmt}{ps:List Str}{fa:Addr}{fd:FuncData}{k np:Nat}{g:List D->Bool}{e:Expr}{es:List Expr}{ga:tz3}{p pos:Pos}(Dd:Dn K mg x st ps fa fd)(G:FnOk P w K mg base (CXn P w base C) k fa fd ps (tW np K U C g))(hr:Room k (A.deeper (envOfC qual scope s.heap.objs.size f cd)))(hg:Gl (iT (CXn P w base C) P w K mg base N qual scope f cd A outer s H E) x)
  (hnp:(e::es).length=np) (ha:QVA (iT (CXn P w base C) P w K mg base N qual scope f cd A outer s H E).nox U (e::es) ga) (hlen:∀ps ds,ga ps=some ds->ds.length=(e::es).length)
  (hdb:NDb x:=by decide) (he:starEach (e::es) (envOfC qual scope s.heap.objs.size f cd)=(false,eval e (envOfC qual scope s.heap.objs.size f cd))::starEach es (envOfC qual scope s.heap.objs.size f cd):=by rfl) (hpl:(backTo pos (starEach es (envOfC qual scope s.heap.objs.size f cd))).any (·.1)=false:=by rfl):
  QXe (iT (CXn P w base C) P w K mg base N qual scope f cd A outer s H E) U φ (E (.ref C) none) (.Call (.Name x p) (e::es) [] pos) (zi7 g ga):=
 (ym3 (X:=iT (CXn P w base C) P w K mg base N qual scope f cd A outer s H E) G hr hg Dd.m Dd.F.kp Dd.b .nil wm7 (PA.nox ha) hdb he hpl).imp fun σ H0 Q hh_=>by
  obtain⟨ps,F,R,e,q⟩:=hh_
  unfold zi7 at e
  split at e
  ·rename_i ds e1
   refine⟨ps,ds,R.ws,e1,fun vs H1 fp s1 r1=> ?_⟩
   show tW np K U C g (vs++[]) H1 Q E
   rw [Zj]
   exact⟨by rw [r1.length,hlen ps ds e1,hnp],ds,fp,r1,e,fun H' s2=>q H' ⟨fun a o h kk _=>(s1.trans s2).keep a o h kk,(s1.trans s2).grow⟩⟩
  ·cases e
end
def zn9(g:List D->Bool)(fa:tz3)(f:tz1):tz1:=fun ps=>(fa ps).bind fun ds=>if g ds=true then some (.ret .non,ps) else f ps
section
variable{X:Cx}{C:Addr}{pins:tzB}{σ:St}{H1:Hp}{s1 s2:Shared}{D:Ends}{E1:XK}{e:Value}
theorem xz2(I:Inv X pins σ H1 s1)(hstk:X.stack=X.env::X.outer)(hf:X.env.frame=some X.env.locals)(O:OwnCls x C bmB newId X.mg X.base)(hbase:bmB.contains (.type "BaseException")=true)(hg:Gl X x)
  (h:CXn X.prog X.w X.base C X.stack H1 s1 E1 e s2) (q:∀dd H',E1 (.ref C) dd H'->D.rt .non H') (hd:NDb x:=by decide):
  wpAny (model X.prog X.w) X.A (noteFrame e X.env) (fun _ s3=>wpAny (model X.prog X.w) X.A (setFlight e none) (fun _ s4=>wpAny (model X.prog X.w) X.A (handleBy e X.env [.ExceptHandler (some (.Name x np)) none [.Return (some (.Constant .none j p3)) p4] p5]) (SP X pins D) E s4) E s3) E s2:=by
 obtain⟨ea,T,a0,dx,H2,rfl,os,bare,un,hok,fly,kd,q0⟩:=h
 rw [hstk] at un fly
 have hfr:X.A.frames=some (X.env::X.outer):=by rw [<-hstk];exact I.ok.frames
 refine wpAny_looks_onW (L:=X.env.locals) hfr hf fly.flying fun h4 held4 ups4=> ?_
 refine wpAny_landsW held4 fun h5 held ups5=> ?_
 have kp5:∀b o,X.base.get? b=some o->h5.get? b=some o:=fun b o z=>held.1 b o (fly.base_in b o z)
 obtain⟨ob,hob,hobc⟩:=held.there
 obtain⟨bm,N,nm,qn,bs,hdct,sn,sub,ab,col,dd,k0,k1,k2,k3,k5,mN,hC,hN,hni,TL⟩:=(O.keeps kp5).obj
 refine wpAny_handleBy_cons (codeAny_handlers_test (Yo I.ok.kind hg (X8 (by rw [I.ok.glob];exact I.ok.mod.glob.keeps kp5) O.bound ?_) hd)) (by intro q;cases q)
 refine wpAny_excMatches_sub_self hC hob hobc (TL.hasType hbase) (codeAny_handlers_suite ?_)
 refine lands_againW held fun h6 fl6 ups6=> ?_
 refine YL (wpAny_Return_some (Constant_none ?_))
 have ups:s2.heap.UpToSlots h6:=(ups4.trans ups5).trans ups6
 have st:(PySem.W.hideAll s2.heap ([ea,T]++frs (X.env::X.outer))).StaysIn h6:=fl6.1
 have stk:∀b∈frs (X.env::X.outer),H2 b=none:=fun b m=>by
  have m':b∈frs X.stack:=by rw [hstk];exact m
  obtain⟨_,o,q1,_⟩:=I.stack.mem m'
  exact un.free b o q1 (I.stkFree b m') (by simp)
 have u2:=un.mono (fs':=frs (X.env::X.outer)) (ex':=[ea,T]) (fun b m=>m) (fun b m=>absurd m (by simp))
 have u3:Un (frs (X.env::X.outer)) [ea,T] H2 H2 s2.heap h6:=zc9 fly.fr ups st
 have ce:CE X.stack X.prog X.w H1 s1 D.rt .none {s2 with heap:=h6}:=by
  rw [hstk]
  refine⟨.non,H2,os,bare,zd0 (u2.trans u3) (fun b o z m=> ?_) (fun _ _ _ m=>m),wY hok (fun b m=> ?_) stk st,rfl,q dx H2 q0⟩
  ·rcases Z4.mp m with y|m
   ·rw [y,fly.ne] at z;cases z
   ·rw [Za.mp m,fly.nT] at z;cases z
  ·rcases Z4.mp m with z|m
   ·rw [z];exact fly.He
   ·rw [Za.mp m];exact fly.HT
 obtain⟨v,H',I',r,qv⟩:=I.after ce
 exact⟨v,σ,H',I',r,qv⟩
end
section
variable{X:Cx}{C:Addr}{U:tz9}{φ:F0}
theorem xz3{x cx y:Str}{st:Stmt}{ps:List Str}{fa:Addr}{fd:FuncData}{k np:Nat}{g:List D->Bool}{e:Expr}{es:List Expr}{ga:tz3}{f:tz1}{p pos pos2 py np' p3 p4 p5 pos6:Pos}{j:Nat}{bmB:List Value}{newId:String}
  (Dd:Dn X.K X.mg x st ps fa fd) (G:FnOk X.prog X.w X.K X.mg X.base (CXn X.prog X.w X.base C) k fa fd ps (tW np X.K U C g)) (O:OwnCls cx C bmB newId X.mg X.base) (hbase:bmB.contains (.type "BaseException")=true) (hr:Room k X.A) (hg:Gl X x) (hgc:Gl X cx) (hnp:(e::es).length=np) (ha:QVA X.nox U (e::es) ga) (hlen:∀ps ds,ga ps=some ds->ds.length=(e::es).length)
  (hA:QSs X.nox U φ [.Assign [.Name y py] (.Call (.Name x p) (e::es) [] pos) pos2] f) (hstk:X.stack=X.env::X.outer) (hf:X.env.frame=some X.env.locals)
  (hdb:NDb x:=by decide) (hdc:NDb cx:=by decide) (he:StE e es X:=by rfl) (hpl:BkE pos es X:=by rfl)
  (hs:swapsWith (.Call (.Name x p) (e::es) [] pos) (some (.Name y py)) pos2.line X.env=pure false:=by rfl):
  QS X.nox U φ (.Try [.Assign [.Name y py] (.Call (.Name x p) (e::es) [] pos) pos2] [.ExceptHandler (some (.Name cx np')) none [.Return (some (.Constant .none j p3)) p4] p5] [] [] pos6) (zn9 g ga f):=⟨by
 intro pins s σ H D I hh_
 obtain⟨pp,F,fl,ps',R,e1,q⟩:=hh_
 obtain⟨ds,e2,e3⟩:=bind_some e1
 have J:Inv X pins σ H s:=I.unwish
 refine wpAny_Try_except ?_
 by_cases hgd:g ds=true
 ·rw [if_pos hgd] at e3
  cases e3
  show wpAny (model X.prog X.w) X.A (execs [.Assign [.Name y py] (.Call (.Name x p) (e::es) [] pos) pos2] X.env) _ _ s
  refine YL (XI ?_ hs)
  refine ZW (pH J hg Dd.m ?_ hdb)
  refine Yh (h₀:=X.base) J.ok.mod.kin Dd.F.kp (ZH (ha pos pins s σ H (fun vs H1=>SameK H H1/\∃fp,Reps X.K U H1 vs ds fp) I ⟨pp,ds,R.ws,e2,fun vs H1 fp s1 r1=>⟨s1,fp,r1⟩⟩) (fun us s1 hu=> ?_) fun _ _ z=>z.elim) he hpl
  obtain⟨vs,H1,I1,r,sm,fp,rs⟩:=hu
  have J1:Inv X pins σ H1 s1:=I1.unwish
  refine⟨J1.kIn,?_⟩
  have hl:vs.length=np:=by rw [rs.length,hlen pp ds e2,hnp]
  have hps:ps.length=np:=(G.len vs H1 (fun _ _=>False) (fun _ _ _=>True) ⟨hl,ds,fp,rs,hgd,fun _ _=>trivial⟩).symm.trans hl
  have hlu:(us++([]:List Value)).length=ps.length:=by rw [Zj,hps,<-hl,r.length]
  refine Wj (YS (G.run X.A X.stack s1 H1 ⟨us,[]⟩ us vs (fun _ _=>False) (fun _ _ H'=>D.rt .non H') hr J1.env0 (by have:=Dd.b s1 us J1.kIn hlu;rwa [Zj] at this) r ⟨hl,ds,fp,rs,hgd,fun H' s2=> ?_⟩) fun rr s' hq=> ?_)
  ·exact q .non σ H' F [] (Stp.same R (sm.trans s2)) (OwnV.new R (fun _ h=>absurd h (by simp)) Zm) .non
  ·cases rr with
   |error ee=>exact xz2 (X:=X.nox) (D:=D) (E1:=fun _ _ H'=>D.rt .non H') I1 hstk hf O hbase hgc hq (fun dd H' z=>z) hdc
   |ok f2=>
    cases f2 with
    |ret u=>obtain⟨_,_,_,_,_,_,_,z⟩:=hq;exact z.elim
    |next=>exact hq.elim
    |brk=>exact hq.elim
    |cont=>exact hq.elim
 ·rw [if_neg hgd] at e3
  refine ZH (hA pins s σ H D I ⟨pp,F,fl,ps',R,e3,q⟩) (fun fw s' hq=> ?_) fun _ _ z=>z.elim
  cases fw with
  |next=>exact YB hq
  |brk=>exact hq
  |cont=>exact hq
  |ret u=>exact hq⟩
end
def ze8(fa:tz2)(f:tz8):tz8:=fun ps=>(fa ps).bind fun c=>match c with
 | .bl true=>f ps
 | .bl false=>some (.bl false,ps)
 |_=>none
section
variable{X:Cx}{U:tz9}{φ:F0}{a b:Expr}{pos:Pos}
theorem xe6{fa:tz2}{f:tz8}(ha:QP X U a fa)(hb:QE X U φ b f):QE X U φ (.BoolOp .And [a,b] pos) (ze8 fa f):=
 (yz3 ha (yz2 hb)).imp fun σ H Q hh_=>by
  obtain⟨ps,F,d,ps',R,e,q⟩:=hh_
  unfold ze8 at e
  obtain⟨k,e1,e2⟩:=bind_some e
  obtain⟨c,rfl,e3⟩:=zy9 (x:=f ps) (y:=some (.bl false,ps)) e2
  refine⟨ps,_,R.ws,e1,fun v H1 fv s1 _ _ r1=>⟨c,r1.is_bl,?_⟩⟩
  cases c with
  |true=>
   rw [if_pos rfl] at e3|-
   exact⟨ps,F,d,ps',R.same s1,e3,fun u H2 F2 fu s2 o2 r2=>q u H2 F2 fu ((Stp.same R s1).trans s2) (OwnV.after (Stp.same R s1) o2) r2⟩
  |false=>
   rw [if_neg Z7] at e3|-
   cases e3
   exact q _ H1 F [] (Stp.same R s1) (OwnV.new R (fun _ h=>absurd h (by simp)) Zm) (.bl false)
end
section
open PySem.SeqAt
open PySem.AutoSeq1 (wpAny_loadPart')
open PySem.MeetsSeq PySem.MeetsSeq2 PySem.MeetsSeq3
end
theorem aZ{X:Cx}{U:tz9}{φ:F0}(i:Nat){x:Str}{e:Expr}{pos pos':Pos}{f:tz2}(hN:X.N.Nodup)(he:QP X U e f)(hi:X.N[i]? =some x:=by exact rfl)(hx:Loc X.env.scope x:=by first|exact Or.inl rfl|exact Or.inr rfl)(hb:φ.bor i=false:=by exact rfl)(hm:φ.M i=false:=by exact rfl)
  (hs:swapsWith e (some (.Name x pos')) pos.line X.env=pure false:=by exact rfl) (hf:X.fn x=true\/X.env.scope.names.lookup x=some .local:=by first|exact .inl rfl|exact .inr rfl):QS X U φ (.Assign [.Name x pos'] e pos) (aW i (aJ f)):=zk0 i hN hi hx hb hm (QP.e he) hs hf
theorem vC{φ:F0}(k:Nat)(h:φ.bor k=false:=by exact rfl):∀j∈([k]:List Nat),φ.bor j=false:=fun j hj=>by rw [Za.mp hj];exact h
theorem nd1(k:Nat):([k]:List Nat).Nodup:=by simp
def zo0(g:List D->Bool)(fa:tz3)(d:D)(f:tz1):tz1:=fun ps=>(fa ps).bind fun ds=>if g ds=true then some (.ret d,ps) else f ps
def Cx.held(X:Cx)(ea:Addr)(oe:Obj):Cx:={X with pn:=X.pn++[(ea,oe)],A:=X.A.mark (some (.ref ea)),calm:=false}
theorem zh4{X:Cx}{ea:Addr}{oe:Obj}:(ea,oe)∈(X.held ea oe).pn:=Z8 _ (Za.mpr rfl)
section
variable{X:Cx}{pins:tzB}{σ:St}{H:Hp}{s:Shared}{ea:Addr}{oe:Obj}
theorem Inv.toHeld(J:Inv X (pins++[(ea,oe)]) σ H s):Inv (X.held ea oe) pins σ H s:=by
 have I:=J.toPin
 exact⟨⟨I.ok.mod,I.ok.kind,I.ok.glob,I.ok.blt,I.ok.above,I.ok.inj,I.ok.has,I.ok.cab,nofun,I.ok.frames,I.ok.stk,I.ok.exf,I.ok.bs,I.ok.bsz,I.ok.noex,I.ok.exfs,I.ok.funs,I.ok.frf⟩,I.os,I.bare,I.base,I.loc,I.cell,I.free,I.freeC,I.pin,I.hok,I.len⟩
theorem Inv.ofHeld(hd:X.calm=true->X.A.handled=none)(I:Inv (X.held ea oe) pins σ H s):Inv X pins σ H s:=
 Inv.ofPin (X:=X) (ea:=ea) (oe:=oe) ⟨⟨I.ok.mod,I.ok.kind,I.ok.glob,I.ok.blt,I.ok.above,I.ok.inj,I.ok.has,I.ok.cab,hd,I.ok.frames,I.ok.stk,I.ok.exf,I.ok.bs,I.ok.bsz,I.ok.noex,I.ok.exfs,I.ok.funs,I.ok.frf⟩,I.os,I.bare,I.base,I.loc,I.cell,I.free,I.freeC,I.pin,I.hok,I.len⟩
end
def xs6(j:Nat)(ea:Addr)(v:V):TS:=fun D σ H=>σ[j]? =some (some (.ref ea))/\∀H',SameK H H'->D.rt v H'
section
variable{X:Cx}{C C2:Addr}{pins:tzB}{σ:St}{H1:Hp}{s1 s2:Shared}{D:Ends}{E1:XK}{e:Value}
theorem xz4{x n:Str}{i:Nat}{b0:Stmt}{body:List Stmt}{v:V}{np p5:Pos}{E:Value->Shared->Prop}(I:Inv X pins σ H1 s1)(hstk:X.stack=X.env::X.outer)(hf:X.env.frame=some X.env.locals)
  (O:ze5 C X.base) (O2:ze5 C2 X.base) (hb2:X.mg x=some (.ref C2)) (up:PySem.W.mroIn X.K C (.ref C2)=some true) (hg:Gl X x)
  (h:CXn X.prog X.w X.base C X.stack H1 s1 E1 e s2) (q:∀dd H',E1 (.ref C) dd H'->∀H'',SameK H' H''->D.rt v H'') (hN:X.N.Nodup) (hi:X.N[i]? =some n) (hkn:X.env.kindOf n=some .local)
  (hx:∀w s,X.xe w s->False) (k:∀ea oe,oe.cls= .ref C->PSs (X.held ea oe) (b0::body) (xs6 i ea v))
  (hd:NDb x:=by decide):
  wpAny (model X.prog X.w) X.A (noteFrame e X.env) (fun _ s3=>wpAny (model X.prog X.w) X.A (setFlight e none) (fun _ s4=>wpAny (model X.prog X.w) X.A (handleBy e X.env [.ExceptHandler (some (.Name x np)) (some n) (b0::body) p5]) (SP X pins D) E s4) E s3) E s2:=by
 obtain⟨ea,T,a0,dd,H2,rfl,os,bare,un,hok,fly,kd,q0⟩:=h
 rw [hstk] at un fly
 have hfr:X.A.frames=some (X.env::X.outer):=by rw [<-hstk];exact I.ok.frames
 refine xd7 (L:=X.env.locals) hfr hf fly.flying kd fun h4 held4 ups4 kd4=> ?_
 refine wg2 held4 kd4 fun h5 held ups5 kd5=> ?_
 have kp5:∀b o,X.base.get? b=some o->h5.get? b=some o:=fun b o z=>held.1 b o (fly.base_in b o z)
 obtain⟨ob,hob,hobc⟩:=held.there
 obtain⟨bm,N,nm,qn,bs,hdct,sn,sub,ab,col,dd',k0,k1,k2,k3,k5,nid,hC,_⟩:=O.keeps kp5
 obtain⟨bm2,N2,nm2,qn2,bs2,hdct2,sn2,sub2,ab2,col2,dd2,j0,j1,j2,j3,j5,nid2,hC2,hbb⟩:=O2.keeps kp5
 refine wpAny_handleBy_cons (codeAny_handlers_test (Yo I.ok.kind hg (X8 (by rw [I.ok.glob];exact I.ok.mod.glob.keeps kp5) hb2 ?_) hd)) (by intro q;cases q)
 refine zx7 hC hC2 hob hobc hbb (xy3 (I.ok.mod.kin.keeps kp5) hC up) (codeAny_handlers_suite_as ?_)
 refine xy0 held kd5 fun h6 fl6 ups6 kd6=> ?_
 have ups:s2.heap.UpToSlots h6:=(ups4.trans ups5).trans ups6
 have st:(PySem.W.hideAll s2.heap ([ea,T]++frs (X.env::X.outer))).StaysIn h6:=fl6.1
 have stk:∀b∈frs (X.env::X.outer),H2 b=none:=fun b m=>by
  have m':b∈frs X.stack:=by rw [hstk];exact m
  obtain⟨_,o,q1,_⟩:=I.stack.mem m'
  exact un.free b o q1 (I.stkFree b m') (by simp)
 have u2:=un.mono (fs':=frs (X.env::X.outer)) (ex':=[ea,T]) (fun b m=>m) (fun b m=>absurd m (by simp))
 have u3:Un (frs (X.env::X.outer)) [ea,T] H2 H2 s2.heap h6:=zc9 fly.fr ups st
 have u6:Un (frs X.stack) [] H1 H2 s1.heap h6:=by
  rw [hstk]
  refine zd0 (u2.trans u3) (fun b o z m=> ?_) (fun _ _ _ m=>m)
  rcases Z4.mp m with y|m
  ·rw [y,fly.ne] at z;cases z
  ·rw [Za.mp m,fly.nT] at z;cases z
 have hok6:HOk X.prog X.w H2 h6:=wY hok (fun b m=>by
  rcases Z4.mp m with z|m
  ·rw [z];exact fly.He
  ·rw [Za.mp m];exact fly.HT) stk st
 have I6:Inv X pins σ H2 {s2 with heap:=h6}:=I.call' (s':={s2 with heap:=h6}) os u6 hok6 bare (fun _ m=>absurd m (by simp))
 obtain⟨oe,ws,hoe,hoec,hoed,hoe0⟩:=fl6.first
 have nl:ea≠X.env.locals:=fun z=>by
  have:=I.lt
  obtain⟨m,⟨o,_,_,q,_⟩,_⟩:=I.loc
  rw [<-z,fly.ne] at q;cases q
 have nf:ea∉X.fs:=fun z=>by
  obtain⟨_,o,q,_⟩:=I.funs.mem z
  rw [fly.ne] at q;cases q
 have I7:Inv X (pins++[(ea,oe)]) σ H2 {s2 with heap:=h6}:=I6.pins_of fun p hp=>(Zn.mp hp).elim (fun z=>I6.pin p (Z8 _ z)) fun z=>by
  rw [Za.mp z]
  exact⟨hoe,fly.He,nl,nf,fun v q=>by rw [hoed] at q;cases q⟩
 refine zg5 I7 hN hi (.inl hkn) (v:= .ref ea) rfl (fun s7 I8=> ?_) (.inr hkn)
 have hil:i<σ.length:=by rw [I.len];exact(Z5.mp hi).1
 have en:(σ.set i (some (.ref ea)))[i]? =some (some (.ref ea)):=ZA hil
 refine ZH (k ea oe hoec pins s7 _ H2 {nx:=fun _ _=>False,rt:=D.rt} I8.toHeld ⟨en,q dd H2 q0⟩) (fun f s9 hq=> ?_) fun w s z=>(hx w s z).elim
 cases f with
 |next=>obtain⟨_,_,_,z⟩:=hq;exact z.elim
 |brk=>obtain⟨_,_,_,z⟩:=hq;exact z.elim
 |cont=>obtain⟨_,_,_,z⟩:=hq;exact z.elim
 |ret u=>
  obtain⟨v',σ',H',I9,r9,q9⟩:=hq
  exact xy2 (I9.ofHeld I.ok.hd) hN hi hkn fun s10 I10=>⟨v',_,H',I10,r9,q9⟩
end
section
variable{X:Cx}{C C2:Addr}{U:tz9}{φ:F0}
theorem xz5{x x0 cx n y:Str}{i:Nat}{st b0:Stmt}{body:List Stmt}{ps:List Str}{fa:Addr}{fd:FuncData}{k np:Nat}{g:List D->Bool}{e:Expr}{es:List Expr}{ga:tz3}{f:tz1}{z:Int}{p pos pos2 py np' p5 pos6:Pos}{bmB bmB2:List Value}{newId newId2:String}
  (Dd:Dn X.K X.mg x st ps fa fd) (G:FnOk X.prog X.w X.K X.mg X.base (CXn X.prog X.w X.base C) k fa fd ps (tW np X.K U C g)) (O:OwnCls x0 C bmB newId X.mg X.base) (O2:OwnCls cx C2 bmB2 newId2 X.mg X.base) (up:PySem.W.mroIn X.K C (.ref C2)=some true) (hb1:bmB.contains (.type "BaseException")=true) (hbase:bmB2.contains (.type "BaseException")=true)
  (hr:Room k X.A) (hg:Gl X x) (hgc:Gl X cx) (hnp:(e::es).length=np) (ha:QVA X.nox U (e::es) ga) (hlen:∀ps ds,ga ps=some ds->ds.length=(e::es).length)
  (hA:QSs X.nox U φ [.Assign [.Name y py] (.Call (.Name x p) (e::es) [] pos) pos2] f) (hstk:X.stack=X.env::X.outer) (hf:X.env.frame=some X.env.locals)
  (hN:X.N.Nodup) (hi:X.N[i]? =some n) (hkn:X.env.kindOf n=some .local)
  (hrest:∀ea oe,oe.cls= .ref C->PSs (X.nox.held ea oe) (b0::body) (xs6 i ea (.int z)))
  (hdb:NDb x:=by decide) (hdc:NDb cx:=by decide) (he:StE e es X:=by rfl) (hpl:BkE pos es X:=by rfl)
  (hs:swapsWith (.Call (.Name x p) (e::es) [] pos) (some (.Name y py)) pos2.line X.env=pure false:=by rfl):
  QS X.nox U φ (.Try [.Assign [.Name y py] (.Call (.Name x p) (e::es) [] pos) pos2] [.ExceptHandler (some (.Name cx np')) (some n) (b0::body) p5] [] [] pos6) (zo0 g ga (.int z) f):=⟨by
 intro pins s σ H D I hh_
 obtain⟨pp,F,fl,ps',R,e1,q⟩:=hh_
 obtain⟨ds,e2,e3⟩:=bind_some e1
 have J:Inv X pins σ H s:=I.unwish
 refine wpAny_Try_except ?_
 by_cases hgd:g ds=true
 ·rw [if_pos hgd] at e3
  cases e3
  show wpAny (model X.prog X.w) X.A (execs [.Assign [.Name y py] (.Call (.Name x p) (e::es) [] pos) pos2] X.env) _ _ s
  refine YL (XI ?_ hs)
  refine ZW (pH J hg Dd.m ?_ hdb)
  refine Yh (h₀:=X.base) J.ok.mod.kin Dd.F.kp (ZH (ha pos pins s σ H (fun vs H1=>SameK H H1/\∃fp,Reps X.K U H1 vs ds fp) I ⟨pp,ds,R.ws,e2,fun vs H1 fp s1 r1=>⟨s1,fp,r1⟩⟩) (fun us s1 hu=> ?_) fun _ _ z=>z.elim) he hpl
  obtain⟨vs,H1,I1,r,sm,fp,rs⟩:=hu
  have J1:Inv X pins σ H1 s1:=I1.unwish
  refine⟨J1.kIn,?_⟩
  have hl:vs.length=np:=by rw [rs.length,hlen pp ds e2,hnp]
  have hps:ps.length=np:=(G.len vs H1 (fun _ _=>False) (fun _ _ _=>True) ⟨hl,ds,fp,rs,hgd,fun _ _=>trivial⟩).symm.trans hl
  have hlu:(us++([]:List Value)).length=ps.length:=by rw [Zj,hps,<-hl,r.length]
  refine Wj (YS (G.run X.A X.stack s1 H1 ⟨us,[]⟩ us vs (fun _ _=>False) (fun _ _ H'=>∀H'',SameK H' H''->D.rt (.int z) H'') hr J1.env0 (by have:=Dd.b s1 us J1.kIn hlu;rwa [Zj] at this) r ⟨hl,ds,fp,rs,hgd,fun H' s2 H'' s3=> ?_⟩) fun rr s' hq=> ?_)
  ·exact q (.int z) σ H'' F [] (Stp.same R ((sm.trans s2).trans s3)) (OwnV.new R (fun _ h=>absurd h (by simp)) Zm) (.int z)
  ·cases rr with
   |error ee=>exact xz4 (X:=X.nox) (D:=D) (E1:=fun _ _ H'=>∀H'',SameK H' H''->D.rt (.int z) H'') I1 hstk hf (zv1 O hb1) (zv1 O2 hbase) O2.bound up hgc hq (fun dd H' z=>z) hN hi hkn (fun _ _ z=>z) hrest hdc
   |ok f2=>
    cases f2 with
    |ret u=>obtain⟨_,_,_,_,_,_,_,z⟩:=hq;exact z.elim
    |next=>exact hq.elim
    |brk=>exact hq.elim
    |cont=>exact hq.elim
 ·rw [if_neg hgd] at e3
  refine ZH (hA pins s σ H D I ⟨pp,F,fl,ps',R,e3,q⟩) (fun fw s' hq=> ?_) fun _ _ z=>z.elim
  cases fw with
  |next=>exact YB hq
  |brk=>exact hq
  |cont=>exact hq
  |ret u=>exact hq⟩
end
section
variable{Y:Cx}{C ea:Addr}{oe:Obj}{j:Nat}{v:V}
theorem xo7{f1 f2 f3 c:Expr}{a1 a2 a3:List Expr}{thn_:List Stmt}{cp1 cp2 cp3 n1 n3 op ip rp:Pos}
  (h1:PE Y (.Call f1 a1 [] cp1) (yi3 j ea true)) (h2:PE Y (.Call f2 a2 [] cp2) (yi3 j ea false)) (h3:PE Y (.Call f3 a3 [] cp3) (yi3 j ea true)) (hc:PE Y c (tC v)):
  PSs Y [.If (.BoolOp .Or [.UnaryOp .Not (.Call f1 a1 [] cp1) n1,.Call f2 a2 [] cp2,.UnaryOp .Not (.Call f3 a3 [] cp3) n3] op) thn_ [] ip,.Return (some c) rp] (xs6 j ea v):=
 (jM (zy4 (PW.pt (yr2 (zj0 (ya7 h1)) (yr2 (ya7 h2) (yz1 (zj0 (ya7 h3)))))) zM zp4) (vM (vN hc))).imp fun D σ H h=>by
  obtain⟨hσ,q⟩:=h
  refine⟨hσ,fun H1 s1=>⟨true,rfl,?_⟩⟩
  refine⟨hσ,fun H2 s2=>⟨false,rfl,?_⟩⟩
  exact⟨hσ,fun H3 s3=>⟨true,rfl,q H3 ((s1.trans s2).trans s3)⟩⟩
end
end L2
namespace L3
open PySem PySem.Spec PyProof.Rows L2
def top(i:Nat):Stmt:=PySem.Challenge.pw_linepress_k31_narrowest.main.body.getD i (.Pass ⟨0,0,0,0⟩)
end L3
namespace My
open PySem PySem.Spec PyProof.Rows L2 L3
variable{P:Program}{w:World}{K:tz0}{mg:tzA}{base:Heap}{U:tz9}
theorem cM{N ps:List Str}{sc:Scope}(a:sc.kind= .function:=by rfl)(b:sc.isCoroutine=false:=by rfl)(c:sc.isGenerator=false:=by rfl)(d:N.Nodup:=by decide+kernel)(e:N.take ps.length=ps:=by rfl)(f:∀x∈ps,sc.names.lookup x=some .local\/sc.names.lookup x=some .cell:=by decide+kernel)(g:∀y∈sc.names,y.2≠ .free:=by decide+kernel):FnScope N ps sc:=⟨a,b,c,d,e,f,g⟩
inductive Leaf where
 |word (x:Str)|gap (x:Str)|stop (c:Int)|fin
inductive Tk where
 |leaf (l:Leaf)|opn|cls|hng (n:Int)|bck|eit|orr|don
inductive Pc where
 |leaf (l:Leaf)|group (r:List Pc)|hang (n:Int) (r:List Pc)|either (rs:List (List Pc))
mutual
def cC:Pc->List Tk
 | .leaf l=>[.leaf l]
 | .group r=> .opn::(toksR r++[.cls])
 | .hang n r=> .hng n::(toksR r++[.bck])
 | .either rs=> .eit::(toksRows rs++[.don])
def toksR:List Pc->List Tk
 |[]=>[]
 |p::r=>cC p++toksR r
def toksRows:List (List Pc)->List Tk
 |[]=>[]
 |r::rs=>toksR r++toksMore rs
def toksMore:List (List Pc)->List Tk
 |[]=>[]
 |r::rs=> .orr::(toksR r++toksMore rs)
end
theorem oM:∀r s:List Pc,toksR (r++s)=toksR r++toksR s
 |[],s=>rfl
 |p::r,s=>by
  show cC p++toksR (r++s)=(cC p++toksR r)++toksR s
  rw [oM r s,Zl]
theorem xe7(p:Pc):toksR [p]=cC p:=by
 show cC p++[]=cC p
 rw [Zj]
mutual
def dY:Pc->Nat
 | .leaf _=>0
 | .group r=>depR r+1
 | .hang _ r=>depR r+1
 | .either rs=>depRs rs+1
def depR:List Pc->Nat
 |[]=>0
 |p::r=>max (dY p) (depR r)
def depRs:List (List Pc)->Nat
 |[]=>0
 |r::rs=>max (depR r) (depRs rs)
end
theorem zO:∀(r:List Pc) (p:Pc),depR (r++[p])=max (depR r) (dY p)
 |[],p=>by
  exact Nat.max_comm (dY p) 0
 |q::r,p=>by
  show max (dY q) (depR (r++[p]))=max (max (dY q) (depR r)) (dY p)
  rw [zO r p,Nat.max_assoc]
theorem xA:∀(rs:List (List Pc)) (r:List Pc),depRs (rs++[r])=max (depRs rs) (depR r)
 |[],r=>by
  exact Nat.max_comm (depR r) 0
 |q::rs,r=>by
  show max (depR q) (depRs (rs++[r]))=max (max (depR q) (depRs rs)) (depR r)
  rw [xA rs r,Nat.max_assoc]
def uS(c:Nat):Bool:=decide (33<=c)&&decide (c<=126)
def yi5(z:Str):Prop:=1<=z.length/\z.length<=12/\z.cps.toList.all uS=true
def fI:Leaf->Prop
 | .word x=>yi5 x
 | .gap x=>x=""\/x=" "
 | .stop c=>0<=c/\c<=40
 | .fin=>True
end My
namespace My
open PySem PySem.Spec PyProof.Rows L2 L3
variable{P:Program}{w:World}{K:tz0}{mg:tzA}{base:Heap}{U:tz9}
def wL(ns:List Int)(k:Int):Int:=ns.getD (k % (ns.length:Int)).toNat 0
def zo1(ns:List Int)(k:Int):Int:=k/(if (ns.length:Int)>1 then(ns.length:Int) else 1)
def wl2(ns:List Int)(k salt:Int):Int:=PySem.Builtin.bitAnd (wL ns k) 2147483647+1009*k*k+7919*salt*salt+12
def ze9(ns:List Int)(k salt:Int):Int:=wl2 ns k salt*48271 % 2147483647
def xu9(ns:List Int)(k salt:Int):Int:=ze9 ns k salt*ze9 ns k salt % 2147483629
def yF(ns:List Int)(k salt:Int):Int:=PySem.Builtin.bitAnd (wL ns k/2^(31*(salt+128*zo1 ns k)).toNat+xu9 ns k salt) 2147483647
theorem yk8(ns:List Int)(k salt:Int):0<=yF ns k salt/\yF ns k salt<2147483648:=by
 have e:yF ns k salt=(wL ns k/2^(31*(salt+128*zo1 ns k)).toNat+xu9 ns k salt) % 2147483648:=PySem.W.kbt_mask _ 31
 rw [e]
 exact⟨ZF _ (by decide),Zy _ (by decide)⟩
def yi6(K:tz0):Sp:=fun vs H Q _=>∃(a:Addr) (ns:List Int) (k:Int),vs=[.ref a,.int k]/\SqL K H a (ns.map V.int)/\Q (.int (wL ns k)) H
def yr1(K:tz0):Sp:=fun vs H Q _=>∃(a:Addr) (ns:List Int) (k salt:Int),vs=[.ref a,.int k,.int salt]/\SqL K H a (ns.map V.int)/\ns.length<=63/\(0<=k/\k<1000000)/\(0<=salt/\salt<1000000)/\Q (.int (yF ns k salt)) H
abbrev oW:Stmt:=top 42
abbrev yi7:List Str:=["_law_script","_law_k"]
theorem zP:FnScope ["_law_script","_law_k"] yi7 (aS oW):=cM
theorem ye1{n:Nat}{f:Addr}{fd:FuncData}(D:Dn K mg "_law_cell_at" oW ["_law_script","_law_k"] f fd)(ae:mg "len"=none):
  FnOk P w K mg base CX0 (n+1) f fd ["_law_script","_law_k"] (yi6 K):=by
 refine D.F.ok zP (fun vs H Q E h=> ?_) (fun cdv A outer s H vs Q E hr h=> ?_)
 ·obtain⟨a,ns,k,rfl,_⟩:=h
  rfl
 obtain⟨a,ns,k,rfl,hS,q⟩:=h
 refine⟨_,(jM (zy4 (ym0 yr7 (nR jT rfl ae ZY (eK (pv 0) kT)) iG (bH _)) (vM (vN iG)) zp4)
  (vM (vN (zy6 zp8 (pv 0) (gJ zj1 (pv 1) (nR jT rfl ae ZY (eK (pv 0) kT))) (fun _ _=>rfl))))),?_⟩
 have hl:(ns.map V.int).length=ns.length:=Zb _
 refine⟨_,rfl,a,_,rfl,.inl hS,rfl,_,rfl,?_⟩
 refine wp8 (fun c=> ?_) (fun c=> ?_)
 ·have e:(((ns.map V.int).length:Nat):Int)=0:=by simpa using c
  have e':ns=[]:=by
   rw [hl] at e
   exact XA (by omega)
  subst e'
  exact q
 ·have e:¬(((ns.map V.int).length:Nat):Int)=0:=by simpa using c
  rw [hl] at e
  have hp:(0:Int)<((ns.map V.int).length:Nat):=by rw [hl];omega
  refine⟨_,rfl,_,rfl,_,rfl,a,_,rfl,.inl hS,_,_,rfl,rfl,hp,a,_,_,_,rfl,rfl,hS,?_,q⟩
  rw [hl]
  have h0:=ZF k e
  have h1:=Zy k (show(0:Int)<ns.length by omega)
  have ek:k % (ns.length:Int)=(((k % (ns.length:Int)).toNat:Nat):Int):=by omega
  rw [ek]
  refine zp7 ?_
  rw [Ze,Zp (by omega)]
  unfold wL
  rw [YQ,Zp (by omega)]
  rfl
abbrev mW:Stmt:=top 43
abbrev kN:List Str:=["_law_script","_law_k","_law_salt"]
theorem kI:FnScope ["_law_script","_law_k","_law_salt","_law_cell","_law_lap","_law_near"] kN (aS mW):=cM
theorem yu9{n:Nat}{f f1:Addr}{fd fd1:FuncData}(D:Dn K mg "_law_mixed" mW ["_law_script","_law_k","_law_salt"] f fd)(li:Dn K mg "_law_cell_at" oW ["_law_script","_law_k"] f1 fd1)
  (pr:FnOk P w K mg base CX0 n f1 fd1 ["_law_script","_law_k"] (yi6 K)) (ae:mg "len"=none) (l7:mg "max"=none):
  FnOk P w K mg base CX0 (n+1) f fd ["_law_script","_law_k","_law_salt"] (yr1 K):=by
 refine D.F.ok kI (fun vs H Q E h=> ?_) (fun cdv A outer s H vs Q E hr h=> ?_)
 ·obtain⟨a,ns,k,salt,rfl,_⟩:=h
  rfl
 obtain⟨a,ns,k,salt,rfl,hS,h63,⟨hk0,hk1⟩,⟨hs0,hs1⟩,q⟩:=h
 refine⟨_,(jM (sS (i:=3) kI.nd rfl (.inl rfl) (ys8 li pr hr rfl (eK (pv 0) (eK (pv 1) kT))))
  (jM (sS (i:=4) kI.nd rfl (.inl rfl) (gJ yl6 (pv 1) (nR (zt1 rfl) rfl l7 boot_max (eK iG (eK (nR jT rfl ae ZY (eK (pv 0) kT)) kT)))))
  (jM (sS (i:=5) kI.nd rfl (.inl rfl) (gJ vO (gJ vO (gJ vO (gJ yz9 (pv 3) iG) (gJ oE (gJ oE iG (pv 1)) (pv 1))) (gJ oE (gJ oE iG (pv 2)) (pv 2))) iG))
  (jM (sS (i:=5) kI.nd rfl (.inl rfl) (gJ zj1 (gJ oE (pv 5) iG) iG))
  (jM (sS (i:=5) kI.nd rfl (.inl rfl) (gJ zj1 (gJ oE (pv 5) (pv 5)) iG))
  (vM (vN (gJ yz9 (gJ vO (gJ wd5 (pv 3) (gJ oE iG (gJ vO (pv 2) (gJ oE iG (pv 4))))) (pv 5)) iG)))))))),?_⟩
 have hl:(ns.map V.int).length=ns.length:=Zb _
 have hlap:0<=zo1 ns k:=by unfold zo1;exact Int.ediv_nonneg hk0 (by split<;>omega)
 have hn1:0<=ze9 ns k salt/\ze9 ns k salt<2147483647:=⟨ZF _ (by decide),Zy _ (by decide)⟩
 refine⟨_,rfl,_,rfl,a,ns,k,rfl,hS,?_⟩
 refine⟨_,rfl,_,rfl,a,_,rfl,.inl hS,_,_,rfl,_,_,rfl,rfl,?_,?_⟩
 ·rw [hl];constructor
  ·split<;>omega
  ·split<;>omega
 rw [hl]
 refine⟨_,rfl,_,_,rfl,rfl,_,rfl,_,_,rfl,rfl,.inl ⟨by decide,by decide⟩,_,rfl,_,_,rfl,rfl,.inr ⟨by omega,by omega⟩,_,_,rfl,rfl,_,rfl,_,_,rfl,rfl,.inl ⟨by decide,by decide⟩,_,rfl,_,_,rfl,rfl,.inr ⟨by omega,by omega⟩,_,_,rfl,rfl,_,_,rfl,rfl,?_⟩
 refine⟨_,rfl,_,_,rfl,rfl,.inr ⟨by decide,by decide⟩,_,_,rfl,rfl,(by show(0:Int)<2147483647;decide),?_⟩
 refine⟨_,rfl,_,rfl,_,_,rfl,rfl,.inl ⟨by show-(2^64)<ze9 ns k salt;omega,by show ze9 ns k salt<2^64;omega⟩,_,_,rfl,rfl,(by show(0:Int)<2147483629;decide),?_⟩
 refine⟨_,rfl,_,rfl,_,rfl,_,_,rfl,rfl,.inl ⟨by decide,by decide⟩,_,_,rfl,rfl,_,_,rfl,rfl,.inl ⟨by decide,by decide⟩,_,_,rfl,rfl,?_,_,rfl,_,_,rfl,rfl,_,_,rfl,rfl,q⟩
 show 0<=31*(salt+128*zo1 ns k)
 omega
end My
namespace L3
open PySem PySem.Spec PyProof.Rows L2 My
variable{P:Program}{w:World}{K:tz0}{mg:tzA}{base:Heap}{U:tz9}
def tY(c8:(tz7)):tz1:=
 (bX (aJ (nF (eZ "Place" (cB [.im (fC (.bl true)),.im (fC (.int 0))]) c8))))
abbrev iU:Stmt:=top 8
abbrev fK:List Str:=[]
theorem tF:FnScope [] fK (aS iU):=cM
theorem zh5(a9:Dn K mg "first_place" iU fK f fd)
  (ie:Kn K mg U "Place" "Place.__init__" st_Place_init ps_Place_init j8 jl) (d7:FnOk P w K mg base CX0 n j8 jl ps_Place_init (SpE 3 K U (bE [true,false,false]) c8)):
  FnOk P w K mg base CX0 ((n+1)+1) f fd fK (SpP 0 K U (gP 0 0 (tY c8))):=
 cQ a9.F tF fun cdv A outer s H E B hr=>
 (aK (bP (QP.e (zk7 (mR ie d7 hr rfl (bL (QP.v nN) (bL (QP.v aG) dA)) rfl rfl (dD 2))))))
def uT:tz1:=
 (bX (aJ (f2 dIn (f2 dIx (aA 0) (fC (.int 0))) (fC (.tup [(.str "group"),(.str "hang"),(.str "either")])))))
abbrev jJ:Stmt:=top 9
abbrev fR:List Str:=["piece"]
theorem uI:FnScope ["piece"] fR (aS jJ):=cM
theorem zl1(bg:Dn K mg "holds_rows" jJ fR f fd)
  (oo:mg "HOLDERS"=some (.ref lp)) (oq:∀H,Rep K U H (.ref lp) (.tup [(.str "group"),(.str "hang"),(.str "either")]) []):
  FnOk P w K mg base CX0 (n+1) f fd fR (SpP 1 K U (gP 1 0 (uT))):=
 cQ bg.F uI fun cdv A outer s H E B hr=>
 (aK (bP (QP.e (lO wf6 (bB (aC 0) (QP.v aG)) (QP.v (vP (v:= .ref lp) (d:=(.tup [(.str "group"),(.str "hang"),(.str "either")])) rfl oo rfl oq)) (by with_unfolding_all rfl)))))
def rQ:tz1:=
 (bX (aJ (fOr (f2 dEq (f2 dIx (aA 0) (fC (.int 0))) (fC (.str "either"))) (rL (f2 dEq (f2 dIx (aA 0) (fC (.int 0))) (fC (.str "group"))) (aX (cH "Place" "broken" (aA 1)))))))
abbrev iI:Stmt:=top 10
abbrev fD:List Str:=["piece","place"]
theorem rP:FnScope ["piece","place"] fD (aS iI):=cM
theorem zf5(ax:Dn K mg "takes_choice" iI fD f fd)
  (a8:Cls K (U "Place"))
  (bn:cD K (U "Place") "broken"):
  FnOk P w K mg base CX0 (n+1) f fd fD (SpP 2 K U (gP 2 0 (rQ))):=
 cQ ax.F rP fun cdv A outer s H E B hr=>
 (aK (bP (QP.e (xt7 (lO (fX (Room.units hr)) (bB (aC 0) (QP.v aG)) (QP.v bV) (bH _)) (zD (yb8 (lO (fX (Room.units hr)) (bB (aC 0) (QP.v aG)) (QP.v bV) (bH _)) (zD (QV.p (cT (C:="Place") a8 bn (aC 1))))))))))
def lZ(c8:(tz7)):tz1:=
 (aT (aW 2 (aJ (aX (f2 dIx (aA 0) (fC (.int 0))))))
 (aT (fIf (aV (fB (f2 dEq (aA 2) (fC (.str "hang")))))
  (bX (aJ (cZ (aB (cP (aB (aX (f2 dIx (aA 0) (fC (.int 2)))) (aB (nF (eZ "Place" (cB [.im (cH "Place" "broken" (aA 1)),.im (f2 bQ (cH "Place" "margin" (aA 1)) (f2 dIx (aA 0) (fC (.int 1))))]) c8)) aE))) aE))))
  bO)
 (aT (fIf (aV (fB (f2 dEq (aA 2) (fC (.str "either")))))
  (bX (aJ (iB [none,some 1] (eJ (f2 dIx (aA 0) (fC (.int 1)))) gU (cP (aB (aX (aA 0)) (aB (aX (aA 1)) aE))))))
  bO)
 (aT (aW 3 (aJ (cP (aB (aX (f2 dIx (aA 0) (fC (.int 1)))) (aB (nF (eZ "Place" (cB [.im (fC (.bl false)),.im (cH "Place" "margin" (aA 1))]) c8)) aE)))))
 (aT (fIf (aV (fT (cH "Place" "broken" (aA 1))))
  (bX (aJ (cZ (aB (aX (aA 3)) (aB (cP (aB (aX (f2 dIx (aA 0) (fC (.int 1)))) (aB (aX (aA 1)) aE))) aE)))))
  bO)
 (bX (aJ (cZ (aB (aX (aA 3)) aE)))))))))
abbrev oA:Stmt:=top 11
abbrev mB:List Str:=["piece","place"]
theorem uJ:FnScope ["piece","place","kind","on_one_line"] mB (aS oA):=cM
theorem xe8(gw:Dn K mg "ways" oA mB f fd)
  (ie:Kn K mg U "Place" "Place.__init__" st_Place_init ps_Place_init j8 jl) (d7:FnOk P w K mg base CX0 n j8 jl ps_Place_init (SpE 3 K U (bE [true,false,false]) c8))
  (a8:Cls K (U "Place"))
  (bn:cD K (U "Place") "broken")
  (dt:cD K (U "Place") "margin"):
  FnOk P w K mg base CX0 ((n+1)+1) f fd mB (SpP 2 K U (gP 2 2 (lZ c8))):=
 cQ gw.F uJ fun cdv A outer s H E B hr=>
 (aN (aZ 2 uJ.nd (QV.p (bB (aC 0) (QP.v aG))))
 (aN (cA (QT.e (bS (fX (Room.units hr)) (aC 2) (QP.v bV) (bH _)))
  (aK (bP (QP.e (eP (aR (dQ (aR (QV.p (bB (aC 0) (QP.v aG))) (aR (zk7 (mR ie d7 hr rfl (bL (cT (C:="Place") a8 bn (aC 1)) (bL (QP.v (bG eG (cT (C:="Place") a8 dt (aC 1)) (bB (aC 0) (QP.v aG)))) dA)) rfl rfl (dD 2))) bD))) bD)))))
  bR)
 (aN (cA (QT.e (bS (fX (Room.units hr)) (aC 2) (QP.v bV) (bH _)))
  (aK (bP (QP.e (sL (sc:=aS oA) (NX:=["piece","place","kind","on_one_line"]) (N:=["row","place"]) (pick:=[none,some 1]) ⟨rfl,by decide+kernel,by decide+kernel,by decide+kernel,by decide+kernel,by decide,rfl⟩ rfl rfl rfl (zG (bB (aC 0) (QP.v aG))) (fun _ _ _ _=>(hV (i:=0) (show(["row","place"]:List Str).Nodup by decide) rfl (by first|exact Or.inl rfl|exact Or.inr rfl))) (fun _ _ _ _=>sK) (fun _ _ _ _=>(dQ (aR (QV.p (aC 0)) (aR (QV.p (aC 1)) bD))))))))
  bR)
 (aN (aZ 3 uJ.nd (dQ (aR (QV.p (bB (aC 0) (QP.v aG))) (aR (zk7 (mR ie d7 hr rfl (bL (QP.v nN) (bL (cT (C:="Place") a8 dt (aC 1)) dA)) rfl rfl (dD 2))) bD))))
 (aN (cA (QT.e (fZ (cT (C:="Place") a8 bn (aC 1))))
  (aK (bP (QP.e (eP (aR (QV.p (aC 3)) (aR (dQ (aR (QV.p (bB (aC 0) (QP.v aG))) (aR (QV.p (aC 1)) bD))) bD))))))
  bR)
 (aK (bP (QP.e (eP (aR (QV.p (aC 3)) bD))))))))))
def yV:tz1:=
 (bX (aJ (f2 bQ (fC (.str "\n")) (f2 jC (fC (.str " ")) (aA 0)))))
abbrev nP:Stmt:=top 12
abbrev kU:List Str:=["blanks"]
theorem yR:FnScope ["blanks"] kU (aS nP):=cM
theorem zx9(d8:Dn K mg "new_line" nP kU f fd)
     :
  FnOk P w K mg base CX0 (n+1) f fd kU (SpP 1 K U (gP 1 0 (yV))):=
 cQ d8.F yR fun cdv A outer s H E B hr=>
 (aK (bP (QP.e (bG eG (QP.v bV) (QP.v (bG uG (QP.v bV) (aC 0)))))))
def oX(j9:(tz6)):tz1:=
 (aT (aW 3 (aJ (aX (f2 dIx (aA 0) (fC (.int 0))))))
 (aT (fIf (aV (fB (f2 dEq (aA 3) (fC (.str "word")))))
  (bX (aJ (aX (f2 dIx (aA 0) (fC (.int 1))))))
  bO)
 (aT (fIf (aV (cJ (fB (f2 dEq (aA 3) (fC (.str "gap")))) (eB (fT (cH "Place" "broken" (aA 1))))))
  (bX (aJ (aX (f2 dIx (aA 0) (fC (.int 1))))))
  bO)
 (aT (fIf (aV (cJ (fB (f2 dEq (aA 3) (fC (.str "stop")))) (fB (f2 dLe (aA 2) (f2 dIx (aA 0) (fC (.int 1)))))))
  (bX (aJ (f2 jC (fC (.str " ")) (f2 jB (f2 dIx (aA 0) (fC (.int 1))) (aA 2)))))
  bO)
 (aT (fIf (aV (eB (fT (cH "Place" "broken" (aA 1)))))
  (bX (aJ (fC .non)))
  bO)
 (aT (fIf (aV (fB (f2 dEq (aA 3) (fC (.str "stop")))))
  (bX (aJ (aH j9 (aB (f2 dIx (aA 0) (fC (.int 1))) aE))))
  bO)
 (bX (aJ (aH j9 (aB (cH "Place" "margin" (aA 1)) aE))))))))))
abbrev mC:Stmt:=top 13
abbrev iV:List Str:=["piece","place","column"]
theorem tG:FnScope ["piece","place","column","kind"] iV (aS mC):=cM
theorem ye2(c6:Dn K mg "writing" mC iV f fd)
  (d8:Dn K mg "new_line" nP kU ot og) (ka:FnOk P w K mg base CX0 n ot og kU (SpP 1 K U j9))
  (a8:Cls K (U "Place"))
  (bn:cD K (U "Place") "broken")
  (dt:cD K (U "Place") "margin"):
  FnOk P w K mg base CX0 (n+1) f fd iV (SpP 3 K U (gP 3 1 (oX j9))):=
 cQ c6.F tG fun cdv A outer s H E B hr=>
 (aN (aZ 3 tG.nd (QV.p (bB (aC 0) (QP.v aG))))
 (aN (cA (QT.e (bS (fX (Room.units hr)) (aC 3) (QP.v bV) (bH _)))
  (aK (bP (QP.e (QV.p (bB (aC 0) (QP.v aG))))))
  bR)
 (aN (cA (QT.e (mZ (jU (bS (fX (Room.units hr)) (aC 3) (QP.v bV) (bH _)) (jD (oH (fZ (cT (C:="Place") a8 bn (aC 1))))))))
  (aK (bP (QP.e (QV.p (bB (aC 0) (QP.v aG))))))
  bR)
 (aN (cA (QT.e (mZ (jU (bS (fX (Room.units hr)) (aC 3) (QP.v bV) (bH _)) (jD (bS zg8 (aC 2) (bB (aC 0) (QP.v aG)) (bH _))))))
  (aK (bP (QP.e (bG uG (QP.v bV) (QP.v (bG oJ (bB (aC 0) (QP.v aG)) (aC 2)))))))
  bR)
 (aN (cA (QT.e (oH (fZ (cT (C:="Place") a8 bn (aC 1)))))
  (aK (bP (QP.e jG)))
  bR)
 (aN (cA (QT.e (bS (fX (Room.units hr)) (aC 3) (QP.v bV) (bH _)))
  (aK (bP (QP.e (cE d8 ka hr rfl rfl (aF (bB (aC 0) (QP.v aG)) aP) (aM bA)))))
  bR)
 (aK (bP (QP.e (cE d8 ka hr rfl rfl (aF (cT (C:="Place") a8 dt (aC 1)) aP) (aM bA)))))))))))
def pS:tz1:=
 (bX (aJ (fMt qA (aA 0) (aB (fC (.str "\n")) aE))))
abbrev jY:Stmt:=top 14
abbrev gG:List Str:=["wrote"]
theorem vT:FnScope ["wrote"] gG (aS jY):=cM
theorem zr2(bw:Dn K mg "ends_line" jY gG f fd)
     :
  FnOk P w K mg base CX0 (n+1) f fd gG (SpP 1 K U (gP 1 0 (pS))):=
 cQ bw.F vT fun cdv A outer s H E B hr=>
 (aK (bP (QP.e (zj9 PySem.F.slot_str_startswith PySem.F.type_str_startswith yd3 (aC 0) (aF (QP.v bV) aP)))))
def eA(di:(tz6)):tz1:=
 (aT (fIf (aV (fT (aH di (aB (aA 1) aE))))
  (bX (aJ (f2 jB (aH dJ (aB (aA 1) aE)) (fC (.int 1)))))
  bO)
 (bX (aJ (f2 bQ (aA 0) (aH dJ (aB (aA 1) aE))))))
abbrev gY:Stmt:=top 15
abbrev eU:List Str:=["column","wrote"]
theorem qJ:FnScope ["column","wrote"] eU (aS gY):=cM
theorem zQ(av:Dn K mg "column_behind" gY eU f fd)
  (bw:Dn K mg "ends_line" jY gG jm i8) (eo:FnOk P w K mg base CX0 n jm i8 gG (SpP 1 K U di))
  (ae:mg "len"=none):
  FnOk P w K mg base CX0 (n+1) f fd eU (SpP 2 K U (gP 2 0 (eA di))):=
 cQ av.F qJ fun cdv A outer s H E B hr=>
 (aN (cA (QT.e (fZ (QP.v (cE bw eo hr rfl rfl (aF (aC 1) aP) (aM bA)))))
  (aK (bP (QP.e (bG oJ (QP.v (cY iK rfl ae ZY (aF (aC 1) aP))) (QP.v aG)))))
  bR)
 (aK (bP (QP.e (bG eG (aC 0) (QP.v (cY iK rfl ae ZY (aF (aC 1) aP))))))))
def tZ(al:(tz7))(ar:(tz7)):tz1:=
 (aT (aW 2 (aJ (eZ "Front" (cB [.im (cH "Front" "steps" (aA 0))]) al)))
 (aT (gT 3 (wK (aX (cH "Front" "best" (aA 0))))
  (aT (aW 4 (aJ (aX (f2 gW (cH "Front" "best" (aA 0)) (aA 3)))))
 (cX (dI 2 bK (cB [.im (aA 3),.im (cP (aB (aX (f2 dIx (aA 4) (fC (.int 0)))) (aB (f2 bQ (f2 dIx (aA 4) (fC (.int 1))) (cP (aB (aX (aA 1)) aE))) aE)))]) (dX "Front" "add" ar)))))
 (jQ 2)))
abbrev kO:Stmt:=top 18
abbrev iW:List Str:=["front","number"]
theorem iS:FnScope ["front","number","chosen","state","way"] iW (aS kO):=cM
theorem zh6(dc:Dn K mg "with_choice" kO iW f fd)
  (cj:Kn K mg U "Front" "Front.__init__" st_Front_init ps_Front_init c9 ci) (az:FnOk P w K mg base CX0 n c9 ci ps_Front_init (SpE 2 K U (bE [true,false]) al))
  (au:Mn K U "Front" "add" "Front.add" st_Front_add ps_Front_add du da) (bf:FnOk P w K mg base CX0 (n+1) du da ps_Front_add (SpE 3 K U (bE [true,false,false]) ar))
  (aa:Cls K (U "Front"))
  (ah:cD K (U "Front") "best")
  (cm:cD K (U "Front") "steps"):
  FnOk P w K mg base CX0 ((n+1)+1) f fd iW (SpP 2 K U (gP 2 3 (tZ al ar))):=
 cQ dc.F iS fun cdv A outer s H E B hr=>
 (aN (aZ 2 iS.nd (mR cj az hr rfl (bL (cT (C:="Front") aa cm (aC 0)) dA) rfl rfl (dD 1)))
 (aN (qI 3 ZM rfl iS.nd rfl (.inl rfl) rfl rfl (zr0 (QV.p (cT (C:="Front") aa ah (aC 0))))
  (aN (aZ 4 iS.nd (QV.p (sM (uD hr) (cT (C:="Front") aa ah (aC 0)) (aC 3))))
 (aK (fH (kZ au bf hr rfl (bN 2) (bL (aC 3) (bL (QP.v (dQ (aR (QV.p (bB (aC 4) (QP.v aG))) (aR (bG eG (bB (aC 4) (QP.v aG)) (QP.v (dQ (aR (QV.p (aC 1)) bD)))) bD)))) dA)) rfl rfl (dD 2))))))
 (aK (jE 2 rfl))))
def rR(al:(tz7))(dj:(tz6))(ar:(tz7)):tz1:=
 (aT (aW 3 (aJ (eZ "Front" (cB [.im (cH "Front" "steps" (aA 0))]) al)))
 (aT (gT 4 (wK (aX (cH "Front" "best" (aA 0))))
  (aT (aW 5 (aJ (aX (f2 gW (cH "Front" "best" (aA 0)) (aA 4)))))
 (aT (aW 6 (aJ (aH dj (aB (qT "WithinWidth" "state_behind" (cH "Front" "steps" (aA 0))) (aB (aA 4) (aB (f2 dIx (aA 5) (fC (.int 0))) (aB (aA 1) (aB (aA 2) aE))))))))
 (fIf (aV (fB (f2 qS (aA 6) (fC .non))))
  (cX (dI 3 bK (cB [.im (f2 dIx (aA 6) (fC (.int 0))),.im (cP (aB (aX (f2 dIx (aA 6) (fC (.int 1)))) (aB (aX (f2 dIx (aA 5) (fC (.int 1)))) aE)))]) (dX "Front" "add" ar)))
  bO))))
 (jQ 3)))
abbrev jR:Stmt:=top 19
abbrev iJ:List Str:=["front","piece","place"]
theorem fU:FnScope ["front","piece","place","behind","state","way","reached"] iJ (aS jR):=cM
theorem zf6(cp:Dn K mg "behind_plain" jR iJ f fd)
  (cj:Kn K mg U "Front" "Front.__init__" st_Front_init ps_Front_init c9 ci) (az:FnOk P w K mg base CX0 n c9 ci ps_Front_init (SpE 2 K U (bE [true,false]) al))
  (am:Mn K U "WithinWidth" "state_behind" "WithinWidth.state_behind" st_WithinWidth_state_behind ps_WithinWidth_state_behind ib gu) (dk:FnOk P w K mg base CX0 (n+1) ib gu ps_WithinWidth_state_behind (SpP 5 K U dj))
  (au:Mn K U "Front" "add" "Front.add" st_Front_add ps_Front_add du da) (bf:FnOk P w K mg base CX0 (n+1) du da ps_Front_add (SpE 3 K U (bE [true,false,false]) ar))
  (aa:Cls K (U "Front"))
  (ah:cD K (U "Front") "best")
  (cm:cD K (U "Front") "steps"):
  FnOk P w K mg base CX0 ((n+1)+1) f fd iJ (SpP 3 K U (gP 3 4 (rR al dj ar))):=
 cQ cp.F fU fun cdv A outer s H E B hr=>
 (aN (aZ 3 fU.nd (mR cj az hr rfl (bL (cT (C:="Front") aa cm (aC 0)) dA) rfl rfl (dD 1)))
 (aN (qI 4 ZM rfl fU.nd rfl (.inl rfl) rfl rfl (zr0 (QV.p (cT (C:="Front") aa ah (aC 0))))
  (aN (aZ 5 fU.nd (QV.p (sM (uD hr) (cT (C:="Front") aa ah (aC 0)) (aC 4))))
 (aN (aZ 6 fU.nd (ye0 am dk hr (cT (C:="Front") aa cm (aC 0)) rfl (aF (aC 4) (aF (bB (aC 5) (QP.v aG)) (aF (aC 1) (aF (aC 2) aP)))) (aM (aM (aM (aM bA))))))
 (aK (cA (QT.e (bS zc7 (aC 6) (QP.v jG) (bH _)))
  (aK (fH (kZ au bf hr rfl (bN 3) (bL (bB (aC 6) (QP.v aG)) (bL (QP.v (dQ (aR (QV.p (bB (aC 6) (QP.v aG))) (aR (QV.p (bB (aC 5) (QP.v aG))) bD)))) dA)) rfl rfl (dD 2))))
  bR)))))
 (aK (jE 3 rfl))))
def qU(al:(tz7))(jo:(tz6))(bx:(tz6))(kc:(tz6))(ke:(tz7))(cq:(tz6)):tz1:=
 (aT (aW 3 (aJ (eZ "Front" (cB [.im (cH "Front" "steps" (aA 0))]) al)))
 (aT (zz6 [4,5] (zz8 (aH jo (aB (aA 1) (aB (aA 2) aE))))
  (aT (aW 6 (aJ (aX (aA 0))))
 (aT (fIf (aV (fT (aH bx (aB (aA 1) (aB (aA 2) aE)))))
  (aW 6 (aJ (jI (aH kc (aB (aA 0) (aB (aA 4) aE))))))
  bO)
 (cX (dI 3 bK (cB [.im (aH cq (aB (aA 6) (aB (f2 dIx (aA 5) (fC (.int 0))) (aB (f2 dIx (aA 5) (fC (.int 1))) aE))))]) (dX "Front" "add_all" ke))))))
 (jQ 3)))
abbrev jK:Stmt:=top 20
abbrev gZ:List Str:=["front","piece","place"]
theorem eT:FnScope ["front","piece","place","behind","number","way","chosen"] gZ (aS jK):=cM
theorem zR(cc:Dn K mg "behind_holder" jK gZ f fd)
  (cj:Kn K mg U "Front" "Front.__init__" st_Front_init ps_Front_init c9 ci) (az:FnOk P w K mg base CX0 n c9 ci ps_Front_init (SpE 2 K U (bE [true,false]) al))
  (gw:Dn K mg "ways" oA mB nq mq) (ku:FnOk P w K mg base CX0 (n+1) nq mq mB (SpP 2 K U jo))
  (ax:Dn K mg "takes_choice" iI fD gx gf) (cr:FnOk P w K mg base CX0 (n+1) gx gf fD (SpP 2 K U bx))
  (dc:Dn K mg "with_choice" kO iW mw mh) (kf:FnOk P w K mg base CX0 (n+1) mw mh iW (SpP 2 K U kc))
  (de:Mn K U "Front" "add_all" "Front.add_all" st_Front_add_all ps_Front_add_all mx mi) (kg:FnOk P w K mg base CX0 (n+1) mx mi ps_Front_add_all (SpE 2 K U (bE [true,false]) ke))
  (bh:Dn K mg "behind_row" st_p_behind_row ps_p_behind_row i9 ir) (gk:FnOk P w K mg base CX0 (n+1) i9 ir ps_p_behind_row (SpP 3 K U cq))
  (aa:Cls K (U "Front"))
  (cm:cD K (U "Front") "steps")
  (m6:mg "enumerate"=none):
  FnOk P w K mg base CX0 ((n+1)+1) f fd gZ (SpP 3 K U (gP 3 4 (qU al jo bx kc ke cq))):=
 cQ cc.F eT fun cdv A outer s H E B hr=>
 (aN (aZ 3 eT.nd (mR cj az hr rfl (bL (cT (C:="Front") aa cm (aC 0)) dA) rfl rfl (dD 1)))
 (aN (xz0 [4,5] ZM rfl rfl m6 (cE gw ku hr rfl rfl (aF (aC 1) (aF (aC 2) aP)) (aM (aM bA))) (pI (hV (i:=4) eT.nd rfl (.inl rfl)) (pI (hV (i:=5) eT.nd rfl (.inl rfl)) yl5)) (fun j hj=>by simp only [Z4,ZT,X9] at hj;rcases hj with rfl|rfl<;>exact⟨rfl,rfl⟩)
  (aN (aZ 6 eT.nd (QV.p (aC 0)))
 (aN (cA (QT.e (fZ (QP.v (cE ax cr hr rfl rfl (aF (aC 1) (aF (aC 2) aP)) (aM (aM bA))))))
  (aK (aZ 6 eT.nd (sN (cE dc kf hr rfl rfl (aF (aC 0) (aF (aC 4) aP)) (aM (aM bA))))))
  bR)
 (aK (fH (kZ de kg hr rfl (bN 3) (bL (QP.v (cE bh gk hr rfl rfl (aF (aC 6) (aF (bB (aC 5) (QP.v aG)) (aF (bB (aC 5) (QP.v aG)) aP))) (aM (aM (aM bA))))) dA) rfl rfl (dD 1)))))))
 (aK (jE 3 rfl))))
def oY(cu:(tz6))(je:(tz6))(jp:(tz6)):tz1:=
 (aT (aW 3 (aJ (aX (aA 0))))
 (aT (gT 4 (eJ (aA 1))
  (fIf (aV (fT (aH cu (aB (aA 4) aE))))
  (aW 3 (aJ (jI (aH je (aB (aA 3) (aB (aA 4) (aB (aA 2) aE)))))))
  (aW 3 (aJ (jI (aH jp (aB (aA 3) (aB (aA 4) (aB (aA 2) aE)))))))))
 (jQ 3)))
abbrev st_p_behind_row:Stmt:=top 21
abbrev ps_p_behind_row:List Str:=["front","row","place"]
theorem hX:FnScope ["front","row","place","behind","piece"] ps_p_behind_row (aS st_p_behind_row):=cM
theorem zl2(bh:Dn K mg "behind_row" st_p_behind_row ps_p_behind_row f fd)
  (bg:Dn K mg "holds_rows" jJ fR ja iu) (d6:FnOk P w K mg base CX0 n ja iu fR (SpP 1 K U cu))
  (cc:Dn K mg "behind_holder" jK gZ l5 lq) (pd:FnOk P w K mg base CX0 n l5 lq gZ (SpP 3 K U je))
  (cp:Dn K mg "behind_plain" jR iJ mj l6) (jq:FnOk P w K mg base CX0 n mj l6 iJ (SpP 3 K U jp)):
  FnOk P w K mg base CX0 (n+1) f fd ps_p_behind_row (SpP 3 K U (gP 3 2 (oY cu je jp))):=
 cQ bh.F hX fun cdv A outer s H E B hr=>
 (aN (aZ 3 hX.nd (QV.p (aC 0)))
 (aN (zq2 4 1 ZM rfl hX.nd rfl (.inl rfl) rfl rfl rfl
  (aK (cA (QT.e (fZ (QP.v (cE bg d6 hr rfl rfl (aF (aC 4) aP) (aM bA)))))
  (aK (aZ 3 hX.nd (sN (cE cc pd hr rfl rfl (aF (aC 3) (aF (aC 4) (aF (aC 2) aP))) (aM (aM (aM bA)))))))
  (aK (aZ 3 hX.nd (sN (cE cp jq hr rfl rfl (aF (aC 3) (aF (aC 4) (aF (aC 2) aP))) (aM (aM (aM bA))))))))))
 (aK (jE 3 rfl))))
def qV(cq:(tz6))(ca:(tz6)):tz1:=
 (bX (aJ (aH cq (aB (aA 0) (aB (aA 1) (aB (aH ca aE) aE))))))
abbrev fL:Stmt:=top 22
abbrev dN:List Str:=["front","pieces"]
theorem qK:FnScope ["front","pieces"] dN (aS fL):=cM
theorem zS(ag:Dn K mg "behind_pieces" fL dN f fd)
  (bh:Dn K mg "behind_row" st_p_behind_row ps_p_behind_row i9 ir) (gk:FnOk P w K mg base CX0 n i9 ir ps_p_behind_row (SpP 3 K U cq))
  (a9:Dn K mg "first_place" iU fK iw gy) (df:FnOk P w K mg base CX0 n iw gy fK (SpP 0 K U ca)):
  FnOk P w K mg base CX0 (n+1) f fd dN (SpP 2 K U (gP 2 0 (qV cq ca))):=
 cQ ag.F qK fun cdv A outer s H E B hr=>
 (aK (bP (QP.e (cE bh gk hr rfl rfl (aF (aC 0) (aF (aC 1) (aF (QP.v (xc8 a9 df hr rfl)) aP))) (aM (aM (aM bA)))))))
def yW:tz1:=
 (bX (aJ (fMt wH (aA 0) (aB (fC (.str "\n")) aE))))
abbrev kW:Stmt:=top 24
abbrev iE:List Str:=["text"]
theorem yS:FnScope ["text"] iE (aS kW):=cM
theorem zy0(cb:Dn K mg "lines_of" kW iE f fd)
     :
  FnOk P w K mg base CX0 (n+1) f fd iE (SpP 1 K U (gP 1 0 (yW))):=
 cQ cb.F yS fun cdv A outer s H E B hr=>
 (aK (bP (QP.e (zj9 Wb Wc ym9 (aC 0) (aF (QP.v bV) aP)))))
def uU(d9:(tz6)):tz1:=
 (bX (aJ (aH yx1 (aB (iB [none,some 1] (eJ (aH d9 (aB (aA 0) aE))) gU (f2 dLe (aH dJ (aB (aA 0) aE)) (aA 1))) aE))))
abbrev qX:Stmt:=top 25
abbrev qY:List Str:=["text","width"]
theorem zv8:FnScope ["text","width"] qY (aS qX):=cM
theorem xe9(ky:Dn K mg "fits" qX qY f fd)
  (cb:Dn K mg "lines_of" kW iE kh jn) (gl:FnOk P w K mg base CX0 n kh jn iE (SpP 1 K U d9))
  (um:mg "all"=none)
  (ae:mg "len"=none):
  FnOk P w K mg base CX0 (n+1) f fd qY (SpP 2 K U (gP 2 0 (uU d9))):=
 cQ ky.F zv8 fun cdv A outer s H E B hr=>
 (aK (bP (QP.e (cY (wm4 rfl) rfl um boot_all (aF (QP.v (sL (sc:=aS qX) (NX:=["text","width"]) (N:=["line","width"]) (pick:=[none,some 1]) ⟨rfl,by decide+kernel,by decide+kernel,by decide+kernel,by decide+kernel,by decide,rfl⟩ rfl rfl rfl (zG (QP.v (cE cb gl hr rfl rfl (aF (aC 0) aP) (aM bA)))) (fun _ _ _ _=>(hV (i:=0) (show(["line","width"]:List Str).Nodup by decide) rfl (by first|exact Or.inl rfl|exact Or.inr rfl))) (fun _ _ _ _=>sK) (fun _ _ _ _=>(lO zg8 (QP.v (cY iK rfl ae ZY (aF (aC 0) aP))) (aC 1) (bH _))))) aP)))))
def yG(p8:(tz6))(d9:(tz6)):tz1:=
 (aT (fIf (aV (eB (fT (aH p8 (aB (aA 0) (aB (aA 1) aE))))))
  (bX (aJ (fC .non)))
  bO)
 (aT (aW 2 (aJ (aH d9 (aB (aA 0) aE))))
 (aT (aW 3 (aJ (aH yx2 (aB (iB [none,some 1] (eJ (fSl (aA 2) lC (nO (dU (fC (.int 1)))))) gU (f2 jC (f2 jB (aA 1) (aH dJ (aB (aA 0) aE))) (f2 jB (aA 1) (aH dJ (aB (aA 0) aE))))) aE))))
 (bX (aJ (cP (aB (aH dJ (aB (aA 2) aE)) (aB (aX (aA 3)) aE))))))))
abbrev oZ:Stmt:=top 26
abbrev pA:List Str:=["text","width"]
theorem rW:FnScope ["text","width","lines","rag"] pA (aS oZ):=cM
theorem yv0(jv:Dn K mg "price" oZ pA f fd)
  (ky:Dn K mg "fits" qX qY tq sf) (p9:FnOk P w K mg base CX0 n tq sf qY (SpP 2 K U p8))
  (cb:Dn K mg "lines_of" kW iE kh jn) (gl:FnOk P w K mg base CX0 n kh jn iE (SpP 1 K U d9))
  (uo:mg "sum"=none)
  (ae:mg "len"=none):
  FnOk P w K mg base CX0 (n+1) f fd pA (SpP 2 K U (gP 2 2 (yG p8 d9))):=
 cQ jv.F rW fun cdv A outer s H E B hr=>
 (aN (cA (QT.e (oH (fZ (QP.v (cE ky p9 hr rfl rfl (aF (aC 0) (aF (aC 1) aP)) (aM (aM bA)))))))
  (aK (bP (QP.e jG)))
  bR)
 (aN (aZ 2 rW.nd (cE cb gl hr rfl rfl (aF (aC 0) aP) (aM bA)))
 (aN (aZ 3 rW.nd (cY (wm5 rfl) rfl uo boot_sum (aF (QP.v (sL (sc:=aS oZ) (NX:=["text","width","lines","rag"]) (N:=["line","width"]) (pick:=[none,some 1]) ⟨rfl,by decide+kernel,by decide+kernel,by decide+kernel,by decide+kernel,by decide,rfl⟩ rfl rfl rfl (zG (QP.v (yc2 (aC 2) ym7 (ym8 (QP.v (oI (QP.v aG))))))) (fun _ _ _ _=>(hV (i:=0) (show(["line","width"]:List Str).Nodup by decide) rfl (by first|exact Or.inl rfl|exact Or.inr rfl))) (fun _ _ _ _=>sK) (fun _ _ _ _=>(bG uG (QP.v (bG oJ (aC 1) (QP.v (cY iK rfl ae ZY (aF (aC 0) aP))))) (QP.v (bG oJ (aC 1) (QP.v (cY iK rfl ae ZY (aF (aC 0) aP))))))))) aP)))
 (aK (bP (QP.e (dQ (aR (cY iK rfl ae ZY (aF (aC 2) aP)) (aR (QV.p (aC 3)) bD)))))))))
def uA(al:(tz7))(iy:(tz7))(ou:(tz6))(ar:(tz7)):tz1:=
 (aT (aW 1 (aJ (eZ "Front" (cB [.im (nF (eZ "WithinWidth" (cB [.im (aA 0)]) iy))]) al)))
 (aT (aW 2 (aJ (aH ou (aB (fC (.str "")) (aB (aA 0) aE)))))
 (aT (fIf (aV (fB (f2 qS (aA 2) (fC .non))))
  (cX (dI 1 bK (cB [.im (fC (.int 0)),.im (cP (aB (aX (aA 2)) (aB (cP aE) aE)))]) (dX "Front" "add" ar)))
  bO)
 (jQ 1))))
abbrev gH:Stmt:=top 29
abbrev eD:List Str:=["width"]
theorem kJ:FnScope ["width","front","cost"] eD (aS gH):=cM
theorem zh7(ak:Dn K mg "roads_begin" gH eD f fd)
  (cj:Kn K mg U "Front" "Front.__init__" st_Front_init ps_Front_init c9 ci) (az:FnOk P w K mg base CX0 n c9 ci ps_Front_init (SpE 2 K U (bE [true,false]) al))
  (et:Kn K mg U "WithinWidth" "WithinWidth.__init__" st_WithinWidth_init ps_WithinWidth_init lr ko) (iz:FnOk P w K mg base CX0 n lr ko ps_WithinWidth_init (SpE 2 K U (bE [true,false]) iy))
  (jv:Dn K mg "price" oZ pA sh qz) (ox:FnOk P w K mg base CX0 (n+1) sh qz pA (SpP 2 K U ou))
  (au:Mn K U "Front" "add" "Front.add" st_Front_add ps_Front_add du da) (bf:FnOk P w K mg base CX0 (n+1) du da ps_Front_add (SpE 3 K U (bE [true,false,false]) ar)):
  FnOk P w K mg base CX0 ((n+1)+1) f fd eD (SpP 1 K U (gP 1 2 (uA al iy ou ar))):=
 cQ ak.F kJ fun cdv A outer s H E B hr=>
 (aN (aZ 1 kJ.nd (mR cj az hr rfl (bL (QP.v (zk7 (mR et iz hr rfl (bL (aC 0) dA) rfl rfl (dD 1)))) dA) rfl rfl (dD 1)))
 (aN (aZ 2 kJ.nd (cE jv ox hr rfl rfl (aF (QP.v bV) (aF (aC 0) aP)) (aM (aM bA))))
 (aN (cA (QT.e (bS zc7 (aC 2) (QP.v jG) (bH _)))
  (aK (fH (kZ au bf hr rfl (bN 1) (bL (QP.v aG) (bL (QP.v (dQ (aR (QV.p (aC 2)) (aR (dQ bD) bD)))) dA)) rfl rfl (dD 2))))
  bR)
 (aK (jE 1 rfl)))))
def zo2(aj:(tz6))(aq:(tz6)):tz1:=
 (aT (aW 2 (aJ (aX (cH "Front" "best" (aH aj (aB (jI (aH aq (aB (aA 1) aE))) (aB (aA 0) aE)))))))
 (bX (aJ (iB [none,some 2] (eJ (aH zb0 (aB (aA 2) aE))) gU (f2 bQ (f2 bQ (cP (aB (aX (aA 0)) aE)) (f2 dIx (f2 gW (aA 1) (aA 0)) (fC (.int 0)))) (cP (aB (aX (f2 dIx (f2 gW (aA 1) (aA 0)) (fC (.int 1)))) aE)))))))
abbrev mX:Stmt:=top 30
abbrev kP:List Str:=["row","width"]
theorem xB:FnScope ["row","width","best"] kP (aS mX):=cM
theorem yv1(f8:Dn K mg "roads" mX kP f fd)
  (ag:Dn K mg "behind_pieces" fL dN cf b6) (aw:FnOk P w K mg base CX0 n cf b6 dN (SpP 2 K U aj))
  (ak:Dn K mg "roads_begin" gH eD dg cw) (ba:FnOk P w K mg base CX0 n dg cw eD (SpP 1 K U aq))
  (aa:Cls K (U "Front"))
  (ah:cD K (U "Front") "best")
  (qe:mg "sorted"=none):
  FnOk P w K mg base CX0 (n+1) f fd kP (SpP 2 K U (gP 2 1 (zo2 aj aq))):=
 cQ f8.F xB fun cdv A outer s H E B hr=>
 (aN (aZ 2 xB.nd (QV.p (cT (C:="Front") aa ah (QP.v (cE ag aw hr rfl rfl (aF (QP.v (sN (cE ak ba hr rfl rfl (aF (aC 1) aP) (aM bA)))) (aF (aC 0) aP)) (aM (aM bA)))))))
 (aK (bP (QP.e (sL (sc:=aS mX) (NX:=["row","width","best"]) (N:=["length","best"]) (pick:=[none,some 2]) ⟨rfl,by decide+kernel,by decide+kernel,by decide+kernel,by decide+kernel,by decide,rfl⟩ rfl rfl rfl (zG (QP.v (cY (xo4 rfl) rfl qe boot_sorted (aF (aC 2) aP)))) (fun _ _ _ _=>(hV (i:=0) (show(["length","best"]:List Str).Nodup by decide) rfl (by first|exact Or.inl rfl|exact Or.inr rfl))) (fun _ _ _ _=>sK) (fun _ _ _ _=>(bG eG (QP.v (bG eG (QP.v (dQ (aR (QV.p (aC 0)) bD))) (bB (sM (uD hr) (aC 1) (aC 0)) (QP.v aG)))) (QP.v (dQ (aR (QV.p (bB (sM (uD hr) (aC 1) (aC 0)) (QP.v aG))) bD))))))))))
def wM(i4:(tz6)):tz1:=
 (aT (gT 1 (uP (aB (fC (.int 1)) (aB (f2 bQ (fC (.int 40)) (fC (.int 1))) aE)))
  (fIf (aV (fT (aH i4 (aB (aA 0) (aB (aA 1) aE)))))
  (jQ 1)
  bO))
 tU)
abbrev iR:Stmt:=top 34
abbrev eM:List Str:=["row"]
theorem jV:FnScope ["row","width"] eM (aS iR):=cM
theorem zr3(ao:Dn K mg "narrowest" iR eM f fd)
  (f8:Dn K mg "roads" mX kP my l8) (jw:FnOk P w K mg base CX0 n my l8 kP (SpP 2 K U i4))
  (bq:mg "range"=none)
  (eu:mg "LEAST_WIDTH"=some (.int 1 sv))
  (c5:mg "GREATEST_WIDTH"=some (.int 40 qg)):
  FnOk P w K mg base CX0 (n+1) f fd eM (SpP 1 K U (gP 1 1 (wM i4))):=
 cQ ao.F jV fun cdv A outer s H E B hr=>
 (aN (qI 1 ZM rfl jV.nd rfl (.inl rfl) rfl rfl (zF rfl bq (aF (QP.v (vP (v:= .int 1) (d:= .int 1) rfl eu ⟨_,rfl⟩ (fun _=> .int 1))) (aF (QP.v (bG eG (QP.v (vP (v:= .int 40) (d:= .int 40) rfl c5 ⟨_,rfl⟩ (fun _=> .int 40))) (QP.v aG))) aP)))
  (aK (cA (QT.e (fZ (QP.v (cE f8 jw hr rfl rfl (aF (aC 0) (aF (aC 1) aP)) (aM (aM bA))))))
  (aK (jE 1 rfl))
  bR)))
 (aK pK))
def uV(i4:(tz6)):tz5:=
 (yD (gT 1 (uP (aB (fC (.int 1)) (aB (f2 bQ (fC (.int 40)) (fC (.int 1))) aE)))
  (fIf (aV (fT (aH i4 (aB (aA 0) (aB (aA 1) aE)))))
  (jQ 1)
  bO))
 zn8)
theorem zl3(ao:Dn K mg "narrowest" iR eM f fd)
  (f8:Dn K mg "roads" mX kP my l8) (jw:FnOk P w K mg base CX0 n my l8 kP (SpP 2 K U i4))
  (bz:OwnCls "NoRoom" ac bmV "ValueError.__new__" mg base)
  (bq:mg "range"=none)
  (eu:mg "LEAST_WIDTH"=some (.int 1 sv))
  (c5:mg "GREATEST_WIDTH"=some (.int 40 qg)):
  FnOk P w K mg base (CXn P w base ac) (n+1) f fd eM (tW 1 K U ac (gX 1 1 (uV i4))):=
 zL ao.F jV fun cdv A outer s H E B hr=>
 (xy1 (qI 1 ZM rfl jV.nd rfl (.inl rfl) rfl rfl (zF rfl bq (aF (QP.v (vP (v:= .int 1) (d:= .int 1) rfl eu ⟨_,rfl⟩ (fun _=> .int 1))) (aF (QP.v (bG eG (QP.v (vP (v:= .int 40) (d:= .int 40) rfl c5 ⟨_,rfl⟩ (fun _=> .int 40))) (QP.v aG))) aP)))
  (aK (cA (QT.e (fZ (QP.v (cE f8 jw hr rfl rfl (aF (aC 0) (aF (aC 1) aP)) (aM (aM bA))))))
  (aK (jE 1 rfl))
  bR)))
 (zd2 (yd8 bz XQ rfl)))
def vL(ly:(tz7))(b5:(tz7))(ca:(tz6))(ij:(tz6)):tz1:=
 (aT (aW 2 (aJ (eZ "Setter" (cB [.im (aA 1)]) ly)))
 (aT (cX (dI 2 bK (cB [.im (aA 0),.im (aH ca aE)]) (dX "Setter" "set_row" b5)))
 (bX (aJ (aH ij (aB (zn7 "Setter" "whole_text" (aA 2)) aE))))))
abbrev qD:Stmt:=top 37
abbrev nJ:List Str:=["row","choices"]
theorem vD:FnScope ["row","choices","setter"] nJ (aS qD):=cM
theorem yk9(jb:Dn K mg "set_by" qD nJ f fd)
  (kz:Kn K mg U "Setter" "Setter.__init__" st_Setter_init ps_Setter_init oh nh) (lz:FnOk P w K mg base CX0 n oh nh ps_Setter_init (SpE 2 K U (bE [true,false]) ly))
  (ay:Mn K U "Setter" "set_row" "Setter.set_row" st_Setter_set_row ps_Setter_set_row gz gh) (eh:FnOk P w K mg base CX0 (n+1) gz gh ps_Setter_set_row (SpE 3 K U (bE [true,false,false]) b5))
  (a9:Dn K mg "first_place" iU fK iw gy) (df:FnOk P w K mg base CX0 (n+1) iw gy fK (SpP 0 K U ca))
  (bu:Mn K U "Setter" "whole_text" "Setter.whole_text" st_Setter_whole_text ps_Setter_whole_text kq ki) (ik:FnOk P w K mg base CX0 (n+1) kq ki ps_Setter_whole_text (SpP 1 K U ij)):
  FnOk P w K mg base CX0 ((n+1)+1) f fd nJ (SpP 2 K U (gP 2 1 (vL ly b5 ca ij))):=
 cQ jb.F vD fun cdv A outer s H E B hr=>
 (aN (aZ 2 vD.nd (mR kz lz hr rfl (bL (aC 1) dA) rfl rfl (dD 1)))
 (aN (fH (kZ ay eh hr rfl (bN 2) (bL (aC 0) (bL (QP.v (xc8 a9 df hr rfl)) dA)) rfl rfl (dD 2)))
 (aK (bP (QP.e (xn6 bu ik hr (aC 2)))))))
def rS:tz1:=
 (aT (fIf (aV (eB (fTK (cH "Front" "best" (aA 0)))))
  tU
  bO)
 (bX (aJ (f2 dIx (aX (zz9 (cH "Front" "best" (aA 0)))) (fC (.int 1))))))
abbrev fW:Stmt:=top 39
abbrev dR:List Str:=["front"]
theorem nA:FnScope ["front"] dR (aS fW):=cM
theorem zf7(ai:Dn K mg "best_choices" fW dR f fd)
  (aa:Cls K (U "Front"))
  (ah:cD K (U "Front") "best")
  (re:mg "min"=none):
  FnOk P w K mg base CX0 (n+1) f fd dR (SpP 1 K U (gP 1 0 (rS))):=
 cQ ai.F nA fun cdv A outer s H E B hr=>
 (aN (cA (QT.e (oH (yo2 (cT (C:="Front") aa ah (aC 0)))))
  (aK pK)
  bR)
 (aK (bP (QP.e (wU (QV.p (xz1 rfl (Room.units hr) (cT (C:="Front") aa ah (aC 0)) rfl re)) (QP.v aG))))))
def qZ:tz5:=
 (xs5 (eB (fTK (cH "Front" "best" (aA 0)))) zn8)
theorem zT(ai:Dn K mg "best_choices" fW dR f fd)
  (bz:OwnCls "NoRoom" ac bmV "ValueError.__new__" mg base)
  (aa:Cls K (U "Front"))
  (ah:cD K (U "Front") "best")
  (re:mg "min"=none):
  FnOk P w K mg base (CXn P w base ac) (n+1) f fd dR (tW 1 K U ac (gX 1 0 (qZ))):=
 zL ai.F nA fun cdv A outer s H E B hr=>
 (zd2 (wm8 (oH (yo2 (cT (C:="Front") aa ah (aC 0)))) (zd2 (yd8 bz XQ rfl))))
def zb3(jr:(tz6))(aj:(tz6))(aq:(tz6))(nr:(tz6)):tz1:=
 (aT (aW 2 (aJ (aH jr (aB (aH aj (aB (jI (aH aq (aB (aA 1) aE))) (aB (aA 0) aE))) aE))))
 (bX (aJ (cP (aB (aH nr (aB (aA 0) (aB (aA 2) aE))) (aB (aX (aA 2)) aE))))))
abbrev mD:Stmt:=top 40
abbrev hJ:List Str:=["row","width"]
theorem lS:FnScope ["row","width","choices"] hJ (aS mD):=cM
theorem ye3(b9:Dn K mg "pressed" mD hJ f fd)
  (ai:Dn K mg "best_choices" fW dR g5 gi) (js:FnOk P w K mg base CX0 n g5 gi dR (SpP 1 K U jr))
  (ag:Dn K mg "behind_pieces" fL dN cf b6) (aw:FnOk P w K mg base CX0 n cf b6 dN (SpP 2 K U aj))
  (ak:Dn K mg "roads_begin" gH eD dg cw) (ba:FnOk P w K mg base CX0 n dg cw eD (SpP 1 K U aq))
  (jb:Dn K mg "set_by" qD nJ rf pw) (nu:FnOk P w K mg base CX0 n rf pw nJ (SpP 2 K U nr)):
  FnOk P w K mg base CX0 (n+1) f fd hJ (SpP 2 K U (gP 2 1 (zb3 jr aj aq nr))):=
 cQ b9.F lS fun cdv A outer s H E B hr=>
 (aN (aZ 2 lS.nd (cE ai js hr rfl rfl (aF (QP.v (cE ag aw hr rfl rfl (aF (QP.v (sN (cE ak ba hr rfl rfl (aF (aC 1) aP) (aM bA)))) (aF (aC 0) aP)) (aM (aM bA)))) aP) (aM bA)))
 (aK (bP (QP.e (dQ (aR (cE jb nu hr rfl rfl (aF (aC 0) (aF (aC 2) aP)) (aM (aM bA))) (aR (QV.p (aC 2)) bD)))))))
def yX(jf:(List D->Bool))(aj:(tz6))(aq:(tz6)):tz5:=
 (zi7 jf (aB (aH aj (aB (jI (aH aq (aB (aA 1) aE))) (aB (aA 0) aE))) aE))
theorem zy1(b9:Dn K mg "pressed" mD hJ f fd)
  (ai:Dn K mg "best_choices" fW dR g5 gi) (jg:FnOk P w K mg base (CXn P w base ac) n g5 gi dR (tW 1 K U ac jf))
  (ag:Dn K mg "behind_pieces" fL dN cf b6) (aw:FnOk P w K mg base CX0 n cf b6 dN (SpP 2 K U aj))
  (ak:Dn K mg "roads_begin" gH eD dg cw) (ba:FnOk P w K mg base CX0 n dg cw eD (SpP 1 K U aq))
  (bz:OwnCls "NoRoom" ac bmV "ValueError.__new__" mg base):
  FnOk P w K mg base (CXn P w base ac) (n+1) f fd hJ (tW 2 K U ac (gX 2 1 (yX jf aj aq))):=
 zL b9.F lS fun cdv A outer s H E B hr=>
 (zd2 (wg3 2 lS.nd rfl (.inl rfl) (wg5 ai jg hr rfl rfl (aF (QP.v (cE ag aw hr rfl rfl (aF (QP.v (sN (cE ak ba hr rfl rfl (aF (aC 1) aP) (aM bA)))) (aF (aC 0) aP)) (aM (aM bA)))) aP) (aM bA))))
def zb4:tz1:=
 (aT (aW 1 (aJ (fC (.str "abcdefghijklmnopqrstuvwxyzABCDEFGHIJKLMNOPQRSTUVWXYZ0123456789"))))
 (aT (aW 1 (aJ (f2 bQ (aA 1) (fC (.str "!\"#$&'()*+,-./:;<=>?\x40[\\]^_`{|}~")))))
 (aT (aW 2 (aJ (f2 dIx (cZ (fKs [.int 1,.int 2,.int 3,.int 4,.int 5,.int 6,.int 7,.int 8,.int 10,.int 11,.int 9,.int 12])) (f2 eE (aA 0) (fC (.int 12))))))
 (aT (aW 3 (aJ (fC (.str ""))))
 (aT (gT 4 (lL (aB (aA 2) aE))
  (aW 3 (aJ (f2 bQ (aA 3) (f2 dIx (aA 1) (f2 eE (f2 bQ (f2 nD (aA 0) (fC (.int 12))) (f2 jC (aA 4) (f2 eE (f2 nD (aA 0) (fC (.int 9000))) (fC (.int 93))))) (fC (.int 93))))))))
 (jQ 3))))))
abbrev uW:Stmt:=top 44
abbrev rA:List Str:=["_law_number"]
theorem kD:FnScope ["_law_number","_law_signs","_law_size","_law_word_here","_law_j"] rA (aS uW):=cM
theorem xf0(k7:Dn K mg "_law_word" uW rA f fd)
  (bq:mg "range"=none):
  FnOk P w K mg base CX0 (n+1) f fd rA (SpP 1 K U (gP 1 4 (zb4))):=
 cQ k7.F kD fun cdv A outer s H E B hr=>
 (aN (aZ 1 kD.nd bV)
 (aN (aZ 1 kD.nd (bG eG (aC 1) (QP.v bV)))
 (aN (aZ 2 kD.nd (wU (eP (rV (.int (.int (.int (.int (.int (.int (.int (.int (.int (.int (.int (.int .nil)))))))))))))) (QP.v (bG iY (aC 0) (QP.v aG)))))
 (aN (aZ 3 kD.nd bV)
 (aN (qI 4 ZM rfl kD.nd rfl (.inl rfl) rfl rfl (zE rfl bq (aF (aC 2) aP))
  (aK (aZ 3 kD.nd (bG eG (aC 3) (bB (aC 1) (QP.v (bG iY (QP.v (bG eG (QP.v (bG wS (aC 0) (QP.v aG))) (QP.v (bG uG (aC 4) (QP.v (bG iY (QP.v (bG wS (aC 0) (QP.v aG))) (QP.v aG))))))) (QP.v aG))))))))
 (aK (jE 3 rfl)))))))
def zb5(qh:(tz6)):tz1:=
 (aT (aW 1 (aJ (f2 nD (aA 0) (fC (.int 16)))))
 (aT (fIf (aV (fB (f2 dLt (f2 eE (aA 0) (fC (.int 16))) (fC (.int 8)))))
  (bX (aJ (cP (aB (fC (.str "word")) (aB (aH qh (aB (aA 1) aE)) aE)))))
  bO)
 (aT (fIf (aV (fB (f2 dLt (f2 eE (aA 0) (fC (.int 16))) (fC (.int 13)))))
  (bX (aJ (cP (aB (fC (.str "gap")) (aB (f2 dIx (cZ (fKs [.str " ",.str " ",.str " ",.str ""])) (f2 eE (aA 1) (fC (.int 4)))) aE)))))
  bO)
 (aT (fIf (aV (fB (f2 dEq (f2 eE (aA 0) (fC (.int 16))) (fC (.int 13)))))
  (bX (aJ (cP (aB (fC (.str "end")) aE))))
  bO)
 (bX (aJ (cP (aB (fC (.str "stop")) (aB (f2 dIx (cZ (aB (f2 eE (f2 nD (aA 1) (fC (.int 2))) (fC (.int 10))) (aB (f2 eE (f2 nD (aA 1) (fC (.int 2))) (fC (.int 41))) aE))) (f2 eE (aA 1) (fC (.int 2)))) aE)))))))))
abbrev uX:Stmt:=top 45
abbrev rB:List Str:=["_law_number"]
theorem zU:FnScope ["_law_number","_law_some_here"] rB (aS uX):=cM
theorem xf1(k8:Dn K mg "_law_leaf" uX rB f fd)
  (k7:Dn K mg "_law_word" uW rA tu si) (qi:FnOk P w K mg base CX0 n tu si rA (SpP 1 K U qh)):
  FnOk P w K mg base CX0 (n+1) f fd rB (SpP 1 K U (gP 1 1 (zb5 qh))):=
 cQ k8.F zU fun cdv A outer s H E B hr=>
 (aN (aZ 1 zU.nd (bG wS (aC 0) (QP.v aG)))
 (aN (cA (QT.e (bS (sX (Room.units0 hr)) (QP.v (bG iY (aC 0) (QP.v aG))) (QP.v aG) (bH _)))
  (aK (bP (QP.e (dQ (aR bV (aR (cE k7 qi hr rfl rfl (aF (aC 1) aP) (aM bA)) bD))))))
  bR)
 (aN (cA (QT.e (bS (sX (Room.units0 hr)) (QP.v (bG iY (aC 0) (QP.v aG))) (QP.v aG) (bH _)))
  (aK (bP (QP.e (dQ (aR bV (aR (wU (eP (rV (.str (.str (.str (.str .nil)))))) (QP.v (bG iY (aC 1) (QP.v aG)))) bD))))))
  bR)
 (aN (cA (QT.e (bS (fX (Room.units hr)) (QP.v (bG iY (aC 0) (QP.v aG))) (QP.v aG) (bH _)))
  (aK (bP (QP.e (dQ (aR bV bD)))))
  bR)
 (aK (bP (QP.e (dQ (aR bV (aR (wU (eP (aR (bG iY (QP.v (bG wS (aC 1) (QP.v aG))) (QP.v aG)) (aR (bG iY (QP.v (bG wS (aC 1) (QP.v aG))) (QP.v aG)) bD))) (QP.v (bG iY (aC 1) (QP.v aG)))) bD))))))))))
def rC:tz1:=
 (aT (za8 [1,2,3,4] (dI 0 bK aE vI))
 (aT (aW 3 (aJ (f2 bQ (aA 3) (cZ (aB (aH fP (aB (aA 4) aE)) aE)))))
 (aT (fIf (aV (cJ (fB (f2 dEq (aA 1) (fC (.str "either")))) (fB (f2 dLt (aH dJ (aB (aA 3) aE)) (fC (.int 2))))))
  (aW 3 (aJ (f2 bQ (aA 3) (cZ (aB (cP (aB (cP (aB (fC (.str "word")) (aB (fC (.str "or")) aE))) aE)) aE)))))
  bO)
 (aT (aW 5 (aJ (cP (aB (fC (.str "group")) (aB (aX (f2 dIx (aA 3) (fC (.int 0)))) aE)))))
 (aT (fIf (aV (fB (f2 dEq (aA 1) (fC (.str "hang")))))
  (aW 5 (aJ (cP (aB (fC (.str "hang")) (aB (aX (aA 2)) (aB (aX (f2 dIx (aA 3) (fC (.int 0)))) aE))))))
  bO)
 (aT (fIf (aV (fB (f2 dEq (aA 1) (fC (.str "either")))))
  (aW 5 (aJ (cP (aB (fC (.str "either")) (aB (aH fP (aB (aA 3) aE)) aE)))))
  bO)
 (cX (dI 0 (dM 0 (dM 0 bK (dU (fC (.int 1)))) (fC (.int 3))) (aB (aX (aA 5)) aE) eR))))))))
abbrev uY:Stmt:=top 46
abbrev rD:List Str:=["_law_frames"]
theorem gQ:FnScope ["_law_frames","_law_kind","_law_n","_law_full","_law_parts","_law_piece"] rD (aS uY):=cM
theorem xf2(jt:Dn K mg "_law_shut" uY rD f fd)
  (dh:mg "tuple"=none)
  (ae:mg "len"=none):
  FnOk P w K mg base CX0 (n+1) f fd rD (SpE 1 K U (bE [true]) (gE 1 5 (bE [true]) (rC))):=
 lI jt.F gQ (fun i hi=>fO hi) fun cdv A outer s H E hr=>
 (aN (xd1 (is:=[1,2,3,4]) rfl (pI (hV (i:=1) gQ.nd rfl (.inl rfl)) (pI (hV (i:=2) gQ.nd rfl (.inl rfl)) (pI (hV (i:=3) gQ.nd rfl (.inl rfl)) (pI (hV (i:=4) gQ.nd rfl (.inl rfl)) yl5)))) (wg1 (j:=0) rfl (bN 0)) (fun j hj=>by simp only [Z4,ZT,X9] at hj;rcases hj with rfl|rfl|rfl|rfl<;>exact⟨rfl,rfl⟩))
 (aN (aZ 3 gQ.nd (bG eG (aC 3) (QP.v (eP (aR (nX sJ rfl dh XB (aF (aC 4) aP)) bD)))))
 (aN (cA (QT.e (mZ (jU (bS (fX (Room.units hr)) (aC 1) (QP.v bV) (bH _)) (jD (bS (sX (Room.units0 hr)) (QP.v (cY iK rfl ae ZY (aF (aC 3) aP))) (QP.v aG) (bH _))))))
  (aK (aZ 3 gQ.nd (bG eG (aC 3) (QP.v (eP (aR (dQ (aR (dQ (aR bV (aR bV bD))) bD)) bD))))))
  bR)
 (aN (aZ 5 gQ.nd (dQ (aR bV (aR (QV.p (bB (aC 3) (QP.v aG))) bD))))
 (aN (cA (QT.e (bS (fX (Room.units hr)) (aC 1) (QP.v bV) (bH _)))
  (aK (aZ 5 gQ.nd (dQ (aR bV (aR (QV.p (aC 2)) (aR (QV.p (bB (aC 3) (QP.v aG))) bD))))))
  bR)
 (aN (cA (QT.e (bS (fX (Room.units hr)) (aC 1) (QP.v bV) (bH _)))
  (aK (aZ 5 gQ.nd (dQ (aR bV (aR (nX sJ rfl dh XB (aF (aC 3) aP)) bD)))))
  bR)
 (aK (fH (nY (j:=0) rfl (lQ (lQ (bN 0) (QP.v (oI (QP.v aG)))) (QP.v aG)) (aR (QV.p (aC 5)) bD))))))))))
def yi8(bd:(tz6))(nv:(tz7))(qj:(tz6)):tz1:=
 (aT (aW 4 (aJ (cZ (aB (cZ (aB (fC (.str "top")) (aB (fC (.int 0)) (aB (cZ aE) (aB (cZ aE) aE))))) aE))))
 (aT (gT 5 (uP (aB (aA 1) (aB (f2 bQ (aA 1) (aA 2)) aE)))
  (aT (aW 6 (aJ (aH bd (aB (aA 0) (aB (aA 5) (aB (fC (.int 31)) aE))))))
 (aT (aW 7 (aJ (f2 eE (aA 6) (fC (.int 13)))))
 (aT (aW 8 (aJ (aX (f2 dIx (f2 dIx (aA 4) (dU (fC (.int 1)))) (fC (.int 0))))))
 (fIf (aV (cJ (fB (f2 dLt (aA 7) (fC (.int 4)))) (fB (f2 dLe (aH dJ (aB (aA 4) aE)) (aA 3)))))
  (aT (aW 9 (aJ (f2 dIx (cZ (fKs [.str "group",.str "group",.str "hang",.str "either"])) (aA 7))))
 (cX (dI 4 bK (aB (cZ (aB (aX (aA 9)) (aB (f2 dIx (cZ (aB (fC (.int 1)) (aB (fC (.int 2)) (aB (fC (.int 4)) (aB (f2 eE (f2 nD (aA 6) (fC (.int 13))) (fC (.int 13))) aE))))) (f2 eE (f2 nD (aA 6) (fC (.int 169))) (fC (.int 4)))) (aB (cZ aE) (aB (cZ aE) aE))))) aE) eR)))
  (fIf (aV (cJ (fB (f2 dEq (aA 7) (fC (.int 4)))) (fB (f2 dGt (aH dJ (aB (aA 4) aE)) (fC (.int 1))))))
  (cX (fIO [.io 4] nv))
  (fIf (aV (cJ (fB (f2 dLt (aA 7) (fC (.int 7)))) (cJ (fB (f2 dEq (aA 8) (fC (.str "either")))) (fB (f2 dLt (aH dJ (aB (f2 dIx (f2 dIx (aA 4) (dU (fC (.int 1)))) (fC (.int 2))) aE)) (fC (.int 3)))))))
  (aT (cX (dI 4 (dM 4 (dM 4 bK (dU (fC (.int 1)))) (fC (.int 2))) (aB (aH fP (aB (f2 dIx (f2 dIx (aA 4) (dU (fC (.int 1)))) (fC (.int 3))) aE)) aE) eR))
 (dW 4 (dM 4 bK (dU (fC (.int 1)))) (fC (.int 3)) (cZ aE)))
  (cX (dI 4 (dM 4 (dM 4 bK (dU (fC (.int 1)))) (fC (.int 3))) (aB (aH qj (aB (aH bd (aB (aA 0) (aB (aA 5) (aB (fC (.int 32)) aE)))) aE)) aE) eR)))))))))
 (aT (lX (aV (fB (f2 dGt (aH dJ (aB (aA 4) aE)) (fC (.int 1)))))
  (cX (fIO [.io 4] nv)) 400)
 (bX (aJ (aH fP (aB (f2 dIx (f2 dIx (aA 4) (fC (.int 0))) (fC (.int 3))) aE)))))))
abbrev yH:Stmt:=top 47
abbrev uB:List Str:=["_law_script","_law_at","_law_many","_law_nest"]
theorem lT:FnScope ["_law_script","_law_at","_law_many","_law_nest","_law_frames","_law_k","_law_number","_law_way","_law_kind","_law_new"] uB (aS yH):=cM
theorem xo8(mf:Dn K mg "_law_row" yH uB f fd)
  (bo:Dn K mg "_law_mixed" mW kN jx jc) (b7:FnOk P w K mg base CX0 n jx jc kN (SpP 3 K U bd))
  (jt:Dn K mg "_law_shut" uY rD tw sj) (ny:FnOk P w K mg base CX0 n tw sj rD (SpE 1 K U (bE [true]) nv))
  (k8:Dn K mg "_law_leaf" uX rB tx sk) (qk:FnOk P w K mg base CX0 n tx sk rB (SpP 1 K U qj))
  (bq:mg "range"=none)
  (dh:mg "tuple"=none)
  (ae:mg "len"=none):
  FnOk P w K mg base CX0 (n+1) f fd uB (SpP 4 K U (gP 4 6 (yi8 bd nv qj))):=
 cQ mf.F lT fun cdv A outer s H E B hr=>
 (aN (aZ 4 lT.nd (eP (aR (eP (aR bV (aR aG (aR (eP bD) (aR (eP bD) bD))))) bD)))
 (aN (qI 5 ZM rfl lT.nd rfl (.inl rfl) rfl rfl (zF rfl bq (aF (aC 1) (aF (QP.v (bG eG (aC 1) (aC 2))) aP)))
  (aN (aZ 6 lT.nd (cE bo b7 hr rfl rfl (aF (aC 0) (aF (aC 5) (aF (QP.v aG) aP))) (aM (aM (aM bA)))))
 (aN (aZ 7 lT.nd (bG iY (aC 6) (QP.v aG)))
 (aN (aZ 8 lT.nd (QV.p (bB (bB (aC 4) (QP.v (oI (QP.v aG)))) (QP.v aG))))
 (aK (cA (QT.e (mZ (jU (bS (sX (Room.units0 hr)) (aC 7) (QP.v aG) (bH _)) (jD (bS zg8 (QP.v (cY iK rfl ae ZY (aF (aC 4) aP))) (aC 3) (bH _))))))
  (aN (aZ 9 lT.nd (wU (eP (rV (.str (.str (.str (.str .nil)))))) (aC 7)))
 (aK (fH (nY (j:=4) rfl (bN 4) (aR (eP (aR (QV.p (aC 9)) (aR (wU (eP (aR aG (aR aG (aR aG (aR (bG iY (QP.v (bG wS (aC 6) (QP.v aG))) (QP.v aG)) bD))))) (QP.v (bG iY (QP.v (bG wS (aC 6) (QP.v aG))) (QP.v aG)))) (aR (eP bD) (aR (eP bD) bD))))) bD)))))
  (aK (cA (QT.e (mZ (jU (bS (fX (Room.units hr)) (aC 7) (QP.v aG) (bH _)) (jD (bS yt3 (QP.v (cY iK rfl ae ZY (aF (aC 4) aP))) (QP.v aG) (bH _))))))
  (aK (fH (pX jt ny hr rfl (nG 4 dA) rfl (gK rfl) (nd1 4) (vC 4))))
  (aK (cA (QT.e (mZ (jU (bS (sX (Room.units0 hr)) (aC 7) (QP.v aG) (bH _)) (jU (bS (fX (Room.units hr)) (aC 8) (QP.v bV) (bH _)) (jD (bS (sX (Room.units0 hr)) (QP.v (cY iK rfl ae ZY (aF (bB (bB (aC 4) (QP.v (oI (QP.v aG)))) (QP.v aG)) aP))) (QP.v aG) (bH _)))))))
  (aN (fH (nY (j:=4) rfl (lQ (lQ (bN 4) (QP.v (oI (QP.v aG)))) (QP.v aG)) (aR (nX sJ rfl dh XB (aF (bB (bB (aC 4) (QP.v (oI (QP.v aG)))) (QP.v aG)) aP)) bD)))
 (aK (sZ (j:=4) rfl (eP bD) (lQ (bN 4) (QP.v (oI (QP.v aG)))) (QP.v aG))))
  (aK (fH (nY (j:=4) rfl (lQ (lQ (bN 4) (QP.v (oI (QP.v aG)))) (QP.v aG)) (aR (cE k8 qk hr rfl rfl (aF (QP.v (cE bo b7 hr rfl rfl (aF (aC 0) (aF (aC 5) (aF (QP.v aG) aP))) (aM (aM (aM bA))))) aP) (aM bA)) bD))))))))))))))
 (aN (xm8 400 ZM (QT.e (bS yt3 (QP.v (cY iK rfl ae ZY (aF (aC 4) aP))) (QP.v aG) (bH _)))
  (aK (fH (pX jt ny hr rfl (nG 4 dA) rfl (gK rfl) (nd1 4) (vC 4)))))
 (aK (bP (QP.e (nX sJ rfl dh XB (aF (bB (bB (aC 4) (QP.v aG)) (QP.v aG)) aP))))))))
def zg4(bd:(tz6)):tz1:=
 (aT (aW 3 (aJ (aH dJ (aB (f2 dIx (aA 1) (fC (.int 1))) aE))))
 (aT (fIf (aV (cJ (fB (f2 dIs (f2 dIx (aA 1) (fC (.int 2))) (fC .non))) (fB (f2 dEq (f2 dIx (aA 1) (fC (.int 3))) (fC (.int 0))))))
  (aW 4 (aJ (f2 jB (aA 2) (fC (.int 1)))))
  (fIf (aV (fB (f2 dIs (f2 dIx (aA 1) (fC (.int 2))) (fC .non))))
  (aW 4 (aJ (f2 eE (aH bd (aB (aA 0) (aB (f2 bQ (aA 3) (fC (.int 7))) (aB (f2 dIx (aA 1) (fC (.int 3))) aE)))) (aA 2))))
  (fIf (aV (cJ (fB (f2 dLt (aA 3) (aH dJ (aB (f2 dIx (aA 1) (fC (.int 2))) aE)))) (fB (f3 dLe dLt (fC (.int 0)) (f2 dIx (f2 dIx (aA 1) (fC (.int 2))) (aA 3)) (aA 2)))))
  (aW 4 (aJ (aX (f2 dIx (f2 dIx (aA 1) (fC (.int 2))) (aA 3)))))
  (bX (aJ (dU (fC (.int 1))))))))
 (aT (cX (dI 1 (dM 1 bK (fC (.int 1))) (aB (aX (aA 4)) aE) eR))
 (jQ 4))))
abbrev qE:Stmt:=top 48
abbrev nK:List Str:=["_law_script","_law_state","_law_many"]
theorem lA:FnScope ["_law_script","_law_state","_law_many","_law_at","_law_number"] nK (aS qE):=cM
theorem yl0(g6:Dn K mg "_law_choose" qE nK f fd)
  (bo:Dn K mg "_law_mixed" mW kN jx jc) (b7:FnOk P w K mg base CX0 n jx jc kN (SpP 3 K U bd))
  (ae:mg "len"=none):
  FnOk P w K mg base CX0 (n+1) f fd nK (SpE 3 K U (bE [false,true,false]) (gE 3 2 (bE [false,true,false]) (zg4 bd))):=
 lI g6.F lA (fun i hi=>fO hi) fun cdv A outer s H E hr=>
 (aN (aZ 3 lA.nd (cY iK rfl ae ZY (aF (bB (aC 1) (QP.v aG)) aP)))
 (aN (cA (QT.e (mZ (jU (bS yt5 (bB (aC 1) (QP.v aG)) (QP.v jG) (bH _)) (jD (bS (fX (Room.units hr)) (bB (aC 1) (QP.v aG)) (QP.v aG) (bH _))))))
  (aK (aZ 4 lA.nd (bG oJ (aC 2) (QP.v aG))))
  (aK (cA (QT.e (bS yt5 (bB (aC 1) (QP.v aG)) (QP.v jG) (bH _)))
  (aK (aZ 4 lA.nd (bG iY (QP.v (cE bo b7 hr rfl rfl (aF (aC 0) (aF (QP.v (bG eG (aC 3) (QP.v aG))) (aF (bB (aC 1) (QP.v aG)) aP))) (aM (aM (aM bA))))) (aC 2))))
  (aK (cA (QT.e (mZ (jU (bS (sX (Room.units0 hr)) (aC 3) (QP.v (cY iK rfl ae ZY (aF (bB (aC 1) (QP.v aG)) aP))) (bH _)) (jD (yc9 zg8 (sX (Room.units0 hr)) (QP.v aG) (bB (bB (aC 1) (QP.v aG)) (aC 3)) (aC 2))))))
  (aK (aZ 4 lA.nd (QV.p (bB (bB (aC 1) (QP.v aG)) (aC 3)))))
  (aK (bP (QP.e (oI (QP.v aG))))))))))
 (aN (fH (nY (j:=1) rfl (lQ (bN 1) (QP.v aG)) (aR (QV.p (aC 4)) bD)))
 (aK (jE 4 rfl)))))
def zo3(ig:(tz7))(l9:(tz7)):tz1:=
 (aT (fIf (aV (fB (f2 dEq (f2 dIx (aA 1) (fC (.int 0))) (fC (.str "hang")))))
  (bX (fIO [.im (aA 0),.im (f2 dIx (aA 1) (fC (.int 2))),.im (aA 2),.im (f2 bQ (aA 3) (f2 dIx (aA 1) (fC (.int 1)))),.io 4] ig))
  bO)
 (aT (fIf (aV (fB (f2 dEq (f2 dIx (aA 1) (fC (.int 0))) (fC (.str "group")))))
  (aT (aW 5 (aJ (fC (.int 0))))
 (aT (fIf (aV (eB (fT (aA 2))))
  (aW 5 (fIO [.im (aA 0),.io 4,.im (fC (.int 2))] l9))
  bO)
 (bX (ze8 (f2 dGe (aA 5) (fC (.int 0))) (fIO [.im (aA 0),.im (f2 dIx (aA 1) (fC (.int 1))),.im (f2 dEq (aA 5) (fC (.int 0))),.im (aA 3),.io 4] ig)))))
  bO)
 (aT (aW 5 (fIO [.im (aA 0),.io 4,.im (aH dJ (aB (f2 dIx (aA 1) (fC (.int 1))) aE))] l9))
 (bX (ze8 (f2 dGe (aA 5) (fC (.int 0))) (fIO [.im (aA 0),.im (f2 dIx (f2 dIx (aA 1) (fC (.int 1))) (aA 5)),.im (aA 2),.im (aA 3),.io 4] ig))))))
abbrev sD:Stmt:=top 49
abbrev pB:List Str:=["_law_script","_law_piece","_law_flat","_law_hang","_law_state"]
theorem oN:FnScope ["_law_script","_law_piece","_law_flat","_law_hang","_law_state","_law_at"] pB (aS sD):=cM
theorem yv2(jy:Dn K mg "_law_inner" sD pB f fd)
  (fg:Dn K mg "_law_set" st_l_set ps_l_set pb nz) (jz:FnOk P w K mg base CX0 n pb nz ps_l_set (SpE 5 K U (bE [false,false,false,false,true]) ig))
  (g6:Dn K mg "_law_choose" qE nK rh pz) (ma:FnOk P w K mg base CX0 n rh pz nK (SpE 3 K U (bE [false,true,false]) l9))
  (ae:mg "len"=none):
  FnOk P w K mg base CX0 (n+1) f fd pB (SpE 5 K U (bE [false,false,false,false,true]) (gE 5 1 (bE [false,false,false,false,true]) (zo3 ig l9))):=
 lI jy.F oN (fun i hi=>fO hi) fun cdv A outer s H E hr=>
 (aN (cA (QT.e (bS (fX (Room.units hr)) (bB (aC 1) (QP.v aG)) (QP.v bV) (bH _)))
  (aK (bP (pX fg jz hr rfl (bL (aC 0) (bL (bB (aC 1) (QP.v aG)) (bL (aC 2) (bL (QP.v (bG eG (aC 3) (bB (aC 1) (QP.v aG)))) (nG 4 dA))))) rfl (gK rfl) (nd1 4) (vC 4))))
  bR)
 (aN (cA (QT.e (bS (fX (Room.units hr)) (bB (aC 1) (QP.v aG)) (QP.v bV) (bH _)))
  (aN (aZ 5 oN.nd aG)
 (aN (cA (QT.e (oH (fZ (aC 2))))
  (aK (zk0 5 oN.nd rfl (.inl rfl) rfl rfl (pX g6 ma hr rfl (bL (aC 0) (nG 4 (bL (QP.v aG) dA))) rfl (gK rfl) (nd1 4) (vC 4))))
  bR)
 (aK (bP (xe6 (lO yt4 (aC 5) (QP.v aG) (bH _)) (pX fg jz hr rfl (bL (aC 0) (bL (bB (aC 1) (QP.v aG)) (bL (QP.v (lO (fX (Room.units hr)) (aC 5) (QP.v aG) (bH _))) (bL (aC 3) (nG 4 dA))))) rfl (gK rfl) (nd1 4) (vC 4)))))))
  bR)
 (aN (zk0 5 oN.nd rfl (.inl rfl) rfl rfl (pX g6 ma hr rfl (bL (aC 0) (nG 4 (bL (QP.v (cY iK rfl ae ZY (aF (bB (aC 1) (QP.v aG)) aP))) dA))) rfl (gK rfl) (nd1 4) (vC 4)))
 (aK (bP (xe6 (lO yt4 (aC 5) (QP.v aG) (bH _)) (pX fg jz hr rfl (bL (aC 0) (bL (bB (bB (aC 1) (QP.v aG)) (aC 5)) (bL (aC 2) (bL (aC 3) (nG 4 dA))))) rfl (gK rfl) (nd1 4) (vC 4))))))))
def yi9(oy:(tz7)):tz1:=
 (aT (gT 5 (eJ (aA 1))
  (aT (aW 6 (aJ (f2 jB (f2 jB (aH dJ (aB (f2 dIx (aA 4) (fC (.int 0))) aE)) (fC (.int 1))) (fMt za9 (f2 dIx (aA 4) (fC (.int 0))) (aB (fC (.str "\n")) aE)))))
 (fIf (aV (pQ (fB (f2 dEq (f2 dIx (aA 5) (fC (.int 0))) (fC (.str "word")))) (cJ (fB (f2 dEq (f2 dIx (aA 5) (fC (.int 0))) (fC (.str "gap")))) (fT (aA 2)))))
  (dW 4 bK (fC (.int 0)) (f2 bQ (f2 dIx (aA 4) (fC (.int 0))) (f2 dIx (aA 5) (fC (.int 1)))))
  (fIf (aV (cJ (fB (f2 dEq (f2 dIx (aA 5) (fC (.int 0))) (fC (.str "stop")))) (fB (f2 dLe (aA 6) (f2 dIx (aA 5) (fC (.int 1)))))))
  (dW 4 bK (fC (.int 0)) (f2 bQ (f2 dIx (aA 4) (fC (.int 0))) (f2 jC (fC (.str " ")) (f2 jB (f2 dIx (aA 5) (fC (.int 1))) (aA 6)))))
  (fIf (aV (cJ (fB (f2 dEq (f2 dIx (aA 5) (fC (.int 0))) (fC (.str "stop")))) (eB (fT (aA 2)))))
  (dW 4 bK (fC (.int 0)) (f2 bQ (f2 bQ (f2 dIx (aA 4) (fC (.int 0))) (fC (.str "\n"))) (f2 jC (fC (.str " ")) (f2 dIx (aA 5) (fC (.int 1))))))
  (fIf (aV (fB (f2 dIn (f2 dIx (aA 5) (fC (.int 0))) (cZ (fKs [.str "gap",.str "end",.str "stop"])))))
  (aT (fIf (aV (fT (aA 2)))
  (bX (aJ (fC (.bl false))))
  bO)
 (dW 4 bK (fC (.int 0)) (f2 bQ (f2 bQ (f2 dIx (aA 4) (fC (.int 0))) (fC (.str "\n"))) (f2 jC (fC (.str " ")) (aA 3)))))
  (fIf (ze4 (fTE (fIO [.im (aA 0),.im (aA 5),.im (aA 2),.im (aA 3),.io 4] oy)))
  (bX (aJ (fC (.bl false))))
  bO)))))))
 (bX (aJ (fC (.bl true)))))
abbrev st_l_set:Stmt:=top 50
abbrev ps_l_set:List Str:=["_law_script","_law_row_here","_law_flat","_law_hang","_law_state"]
theorem xC:FnScope ["_law_script","_law_row_here","_law_flat","_law_hang","_law_state","_law_piece","_law_column"] ps_l_set (aS st_l_set):=cM
theorem xo9(fg:Dn K mg "_law_set" st_l_set ps_l_set f fd)
  (jy:Dn K mg "_law_inner" sD pB so rj) (vd:FnOk P w K mg base CX0 n so rj pB (SpE 5 K U (bE [false,false,false,false,true]) oy))
  (ae:mg "len"=none):
  FnOk P w K mg base CX0 (n+1) f fd ps_l_set (SpE 5 K U (bE [false,false,false,false,true]) (gE 5 2 (bE [false,false,false,false,true]) (yi9 oy))):=
 lI fg.F xC (fun i hi=>fO hi) fun cdv A outer s H E hr=>
 (aN (zq2 5 1 ZM rfl xC.nd rfl (.inl rfl) rfl rfl rfl
  (aN (aZ 6 xC.nd (bG oJ (QP.v (bG oJ (QP.v (cY iK rfl ae ZY (aF (bB (aC 4) (QP.v aG)) aP))) (QP.v aG))) (QP.v (zj9 PySem.F.slot_str_rfind PySem.F.type_str_rfind xx9 (bB (aC 4) (QP.v aG)) (aF (QP.v bV) aP)))))
 (aK (cA (QT.e (mZ (zj8 (bS (fX (Room.units hr)) (bB (aC 5) (QP.v aG)) (QP.v bV) (bH _)) (zj7 (mZ (jU (bS (fX (Room.units hr)) (bB (aC 5) (QP.v aG)) (QP.v bV) (bH _)) (jD (fZ (aC 2)))))))))
  (aK (sZ (j:=4) rfl (bG eG (bB (aC 4) (QP.v aG)) (bB (aC 5) (QP.v aG))) (bN 4) (QP.v aG)))
  (aK (cA (QT.e (mZ (jU (bS (fX (Room.units hr)) (bB (aC 5) (QP.v aG)) (QP.v bV) (bH _)) (jD (bS zg8 (aC 6) (bB (aC 5) (QP.v aG)) (bH _))))))
  (aK (sZ (j:=4) rfl (bG eG (bB (aC 4) (QP.v aG)) (QP.v (bG uG (QP.v bV) (QP.v (bG oJ (bB (aC 5) (QP.v aG)) (aC 6)))))) (bN 4) (QP.v aG)))
  (aK (cA (QT.e (mZ (jU (bS (fX (Room.units hr)) (bB (aC 5) (QP.v aG)) (QP.v bV) (bH _)) (jD (oH (fZ (aC 2)))))))
  (aK (sZ (j:=4) rfl (bG eG (QP.v (bG eG (bB (aC 4) (QP.v aG)) (QP.v bV))) (QP.v (bG uG (QP.v bV) (bB (aC 5) (QP.v aG))))) (bN 4) (QP.v aG)))
  (aK (cA (QT.e (bS wf6 (bB (aC 5) (QP.v aG)) (QP.v (eP (rV (.str (.str (.str .nil)))))) (by with_unfolding_all rfl)))
  (aN (cA (QT.e (fZ (aC 2)))
  (aK (bP (QP.e nN)))
  bR)
 (aK (sZ (j:=4) rfl (bG eG (QP.v (bG eG (bB (aC 4) (QP.v aG)) (QP.v bV))) (QP.v (bG uG (QP.v bV) (aC 3)))) (bN 4) (QP.v aG))))
  (aK (cA (yn4 (yn5 (pX jy vd hr rfl (bL (aC 0) (bL (aC 5) (bL (aC 2) (bL (aC 3) (nG 4 dA))))) rfl (gK rfl) (nd1 4) (vC 4))))
  (aK (bP (QP.e nN)))
  bR))))))))))))
 (aK (bP (QP.e nN))))
def zo4(ig:(tz7)):tz1:=
 (aT (aW 3 (aJ (cZ (aB (fC (.str "")) (aB (cZ aE) (aB (fC .non) (aB (aX (aA 2)) aE)))))))
 (aT (fIf (ze4 (fTE (fIO [.im (aA 0),.im (aA 1),.im (fC (.bl false)),.im (fC (.int 0)),.io 3] ig)))
  (aT (aW 3 (aJ (cZ (aB (fC (.str "")) (aB (cZ aE) (aB (fC .non) (aB (fC (.int 0)) aE)))))))
 (cX (fIO [.im (aA 0),.im (aA 1),.im (fC (.bl false)),.im (fC (.int 0)),.io 3] ig)))
  bO)
 (bX (aJ (cP (aB (aX (f2 dIx (aA 3) (fC (.int 0)))) (aB (aH fP (aB (f2 dIx (aA 3) (fC (.int 1))) aE)) aE)))))))
abbrev sE:Stmt:=top 51
abbrev pC:List Str:=["_law_script","_law_row_here","_law_salt"]
theorem rX:FnScope ["_law_script","_law_row_here","_law_salt","_law_state"] pC (aS sE):=cM
theorem yv3(j4:Dn K mg "_law_drawn" sE pC f fd)
  (fg:Dn K mg "_law_set" st_l_set ps_l_set pb nz) (jz:FnOk P w K mg base CX0 n pb nz ps_l_set (SpE 5 K U (bE [false,false,false,false,true]) ig))
  (dh:mg "tuple"=none):
  FnOk P w K mg base CX0 (n+1) f fd pC (SpP 3 K U (gP 3 1 (zo4 ig))):=
 cQ j4.F rX fun cdv A outer s H E B hr=>
 (aN (aZ 3 rX.nd (eP (aR bV (aR (eP bD) (aR jG (aR (QV.p (aC 2)) bD))))))
 (aN (cA (yn4 (yn5 (pX fg jz hr rfl (bL (aC 0) (bL (aC 1) (bL (QP.v nN) (bL (QP.v aG) (nG 3 dA))))) rfl (gK rfl) (nd1 3) (vC 3))))
  (aN (aZ 3 rX.nd (eP (aR bV (aR (eP bD) (aR jG (aR aG bD))))))
 (aK (fH (pX fg jz hr rfl (bL (aC 0) (bL (aC 1) (bL (QP.v nN) (bL (QP.v aG) (nG 3 dA))))) rfl (gK rfl) (nd1 3) (vC 3)))))
  bR)
 (aK (bP (QP.e (dQ (aR (QV.p (bB (aC 3) (QP.v aG))) (aR (nX sJ rfl dh XB (aF (bB (aC 3) (QP.v aG)) aP)) bD))))))))
def xk3(rn:(tz6))(bd:(tz6)):tz1:=
 (aT (aW 1 (aJ (aH rn (aB (aA 0) (aB (fC (.int 0)) (aB (f2 bQ (fC (.int 3)) (f2 eE (aH bd (aB (aA 0) (aB (fC (.int 0)) (aB (fC (.int 40)) aE)))) (fC (.int 10)))) (aB (fC (.int 2)) aE)))))))
 (aT (fIf (aV (fB (f2 dEq (f2 eE (aH bd (aB (aA 0) (aB (fC (.int 1)) (aB (fC (.int 40)) aE)))) (fC (.int 4))) (fC (.int 0)))))
  (aT (aW 2 (aJ (f2 eE (aH bd (aB (aA 0) (aB (fC (.int 2)) (aB (fC (.int 40)) aE)))) (fC (.int 4)))))
 (aW 1 (aJ (f2 bQ (aH fP (aB (iB [none,some 0] (lL (aB (f2 bQ (fC (.int 1)) (aA 2)) aE)) gU (cP (aB (fC (.str "word")) (aB (fSl (fC (.str "abcdefghijkl")) lC (nO (f2 bQ (f2 eE (aH bd (aB (aA 1) (aB (aA 0) (aB (fC (.int 41)) aE)))) (fC (.int 12))) (fC (.int 1))))) aE)))) aE)) (aA 1)))))
  bO)
 (jQ 1)))
abbrev rE:Stmt:=top 53
abbrev rF:List Str:=["_law_script"]
theorem qL:FnScope ["_law_script","_law_row_here","_law_more"] rF (aS rE):=cM
theorem xf3(k9:Dn K mg "_law_some" rE rF f fd)
  (mf:Dn K mg "_law_row" yH uB ul tz) (rq:FnOk P w K mg base CX0 n ul tz uB (SpP 4 K U rn))
  (bo:Dn K mg "_law_mixed" mW kN jx jc) (b7:FnOk P w K mg base CX0 n jx jc kN (SpP 3 K U bd))
  (dh:mg "tuple"=none)
  (bq:mg "range"=none):
  FnOk P w K mg base CX0 (n+1) f fd rF (SpP 1 K U (gP 1 2 (xk3 rn bd))):=
 cQ k9.F qL fun cdv A outer s H E B hr=>
 (aN (aZ 1 qL.nd (cE mf rq hr rfl rfl (aF (aC 0) (aF (QP.v aG) (aF (QP.v (bG eG (QP.v aG) (QP.v (bG iY (QP.v (cE bo b7 hr rfl rfl (aF (aC 0) (aF (QP.v aG) (aF (QP.v aG) aP))) (aM (aM (aM bA))))) (QP.v aG))))) (aF (QP.v aG) aP)))) (aM (aM (aM (aM bA))))))
 (aN (cA (QT.e (bS (fX (Room.units hr)) (QP.v (bG iY (QP.v (cE bo b7 hr rfl rfl (aF (aC 0) (aF (QP.v aG) (aF (QP.v aG) aP))) (aM (aM (aM bA))))) (QP.v aG))) (QP.v aG) (bH _)))
  (aN (aZ 2 qL.nd (bG iY (QP.v (cE bo b7 hr rfl rfl (aF (aC 0) (aF (QP.v aG) (aF (QP.v aG) aP))) (aM (aM (aM bA))))) (QP.v aG)))
 (aK (aZ 1 qL.nd (bG eG (QP.v (nX sJ rfl dh XB (aF (QP.v (sL (sc:=aS rE) (NX:=["_law_script","_law_row_here","_law_more"]) (N:=["_law_k","_law_script"]) (pick:=[none,some 0]) ⟨rfl,by decide+kernel,by decide+kernel,by decide+kernel,by decide+kernel,by decide,rfl⟩ rfl rfl rfl (QIP.v (zE rfl bq (aF (QP.v (bG eG (QP.v aG) (aC 2))) aP))) (fun _ _ _ _=>(hV (i:=0) (show(["_law_k","_law_script"]:List Str).Nodup by decide) rfl (by first|exact Or.inl rfl|exact Or.inr rfl))) (fun _ _ _ _=>sK) (fun _ _ _ _=>(dQ (aR bV (aR (yc2 (QP.v bV) ym7 (ym8 (QP.v (bG eG (QP.v (bG iY (QP.v (cE bo b7 hr rfl rfl (aF (aC 1) (aF (aC 0) (aF (QP.v aG) aP))) (aM (aM (aM bA))))) (QP.v aG))) (QP.v aG))))) bD)))))) aP))) (aC 1)))))
  bR)
 (aK (jE 1 rfl))))
def zb6:tz1:=
 (bX (aJ (aH yx6 (aB (iB [none] (eJ (fMt wH (aA 0) (aB (fC (.str "\n")) aE))) gU (aH dJ (aB (aA 0) aE))) aE))))
abbrev mE:Stmt:=top 54
abbrev mF:List Str:=["_law_text"]
theorem zV:FnScope ["_law_text"] mF (aS mE):=cM
theorem ye4(dw:Dn K mg "_law_longest" mE mF f fd)
  (l7:mg "max"=none)
  (ae:mg "len"=none):
  FnOk P w K mg base CX0 (n+1) f fd mF (SpP 1 K U (gP 1 0 (zb6))):=
 cQ dw.F zV fun cdv A outer s H E B hr=>
 (aK (bP (QP.e (cY (wg4 rfl) rfl l7 boot_max (aF (QP.v (sL (sc:=aS mE) (NX:=["_law_text"]) (N:=["_law_line"]) (pick:=[none]) ⟨rfl,by decide+kernel,by decide+kernel,by decide+kernel,by decide+kernel,by decide,rfl⟩ rfl rfl rfl (zG (QP.v (zj9 Wb Wc ym9 (aC 0) (aF (QP.v bV) aP)))) (fun _ _ _ _=>(hV (i:=0) (show(["_law_line"]:List Str).Nodup by decide) rfl (by first|exact Or.inl rfl|exact Or.inr rfl))) (fun _ _ _ _=>sK) (fun _ _ _ _=>(cY iK rfl ae ZY (aF (aC 0) aP))))) aP)))))
def zb7(m7:(tz6))(ml:(List D->Bool)):tz1:=
 (aT (zn9 ml (aB (aA 0) (aB (aA 1) aE))
  (aW 2 (aJ (aH m7 (aB (aA 0) (aB (aA 1) aE))))))
 (bX (aJ (aX (f2 dIx (aA 2) (fC (.int 0)))))))
abbrev pD:Stmt:=top 55
abbrev mG:List Str:=["_law_row_here","_law_width"]
theorem tH:FnScope ["_law_row_here","_law_width","_law_found"] mG (aS pD):=cM
theorem ye5(gb:Dn K mg "_law_pressed" pD mG f fd)
  (b9:Dn K mg "pressed" mD hJ m8 mm) (m9:FnOk P w K mg base CX0 n m8 mm hJ (SpP 2 K U m7))
   (mn:FnOk P w K mg base (CXn P w base ac) n m8 mm hJ (tW 2 K U ac ml))
  (bz:OwnCls "NoRoom" ac bmV "ValueError.__new__" mg base):
  FnOk P w K mg base CX0 (n+1) f fd mG (SpP 2 K U (gP 2 1 (zb7 m7 ml))):=
 cQ gb.F tH fun cdv A outer s H E B hr=>
 (aN (xz3 b9 mn bz rfl hr rfl rfl rfl (aF (aC 0) (aF (aC 1) aP)) (aM (aM bA)) (aK (aZ 2 tH.nd (cE b9 m9 hr rfl rfl (aF (aC 0) (aF (aC 1) aP)) (aM (aM bA))))) rfl rfl)
 (aK (bP (QP.e (QV.p (bB (aC 2) (QP.v aG)))))))
def wN(dm:(tz6))(la:(List D->Bool)):tz1:=
 (aT (zo0 la (aB (aA 0) aE) (.int 41)
  (aW 1 (aJ (aH dm (aB (aA 0) aE)))))
 (aT (fIf (aV (pQ (eB (fT (aH zi6 (aB (aA 1) (aB (fC (.ty "int")) aE))))) (pQ (fT (aH zi6 (aB (aA 1) (aB (fC (.ty "bool")) aE)))) (eB (fB (f3 dLe dLe (fC (.int 1)) (aA 1) (fC (.int 40))))))))
  (bX (aJ (fC (.int 0))))
  bO)
 (jQ 1)))
abbrev mY:Stmt:=top 56
abbrev jZ:List Str:=["_law_row_here"]
theorem mS:FnScope ["_law_row_here","_law_found","e"] jZ (aS mY):=cM
theorem zr4(fj:Dn K mg "_law_narrowest" mY jZ f fd)
  (ao:Dn K mg "narrowest" iR eM ic gm) (fk:FnOk P w K mg base CX0 n ic gm eM (SpP 1 K U dm))
   (lb:FnOk P w K mg base (CXn P w base ac) n ic gm eM (tW 1 K U ac la))
  (na:OwnCls "LineError" jh bmV "ValueError.__new__" mg base)
  (bz:OwnCls "NoRoom" ac bmV "ValueError.__new__" mg base)
  (il:PySem.W.mroIn K ac (.ref jh)=some true)
  (lu:KExc K ac)
  (n0:mg "NoChoice"=some (.ref me))
  (oz:mg "NoPiece"=some (.ref mz))
  (dq:PySem.W.kitAny K (.ref ac) [.ref me,.ref mz]=some false)
  (ju:PySem.W.kitOne K (.ref ac) (.ref ac)=some true)
  (g7:PySem.W.kitOne K (.ref ac) (.type "ValueError")=some true)
  (ej:mg "isinstance"=none)
  (t4:mg "bool"=none)
  (uq:mg "int"=none)
  (mo:mg "ValueError"=none):
  FnOk P w K mg base CX0 (n+1) f fd jZ (SpP 1 K U (gP 1 2 (wN dm la))):=
 cQ fj.F mS fun cdv A outer s H E B hr=>
 (aN (xz5 ao lb bz na il rfl rfl hr rfl rfl rfl (aF (aC 0) aP) (aM bA) (aK (aZ 1 mS.nd (cE ao fk hr rfl rfl (aF (aC 0) aP) (aM bA)))) rfl rfl mS.nd rfl rfl (i:=2) (fun ea oe hc=>(xo7 (yn9 zh4 hc lu rfl ej rfl (Or.inl rfl) (zc2 (v:= .ref ac) rfl bz.bound rfl) (fun u h=>by cases h;exact ju)) (xo1 zh4 hc lu rfl ej rfl (Or.inl rfl) (zc2 (v:= .ref me) rfl n0 rfl) (zc2 (v:= .ref mz) rfl oz rfl) (fun us h=>by cases h with|cons h1 h2=>cases h2 with|cons h3 h4=>cases h4;cases h1;cases h3;exact dq)) (yn9 zh4 hc lu rfl ej rfl (Or.inl rfl) (yl4 rfl mo rfl (v:= .ty "ValueError") rfl) (fun u h=>by cases h;exact g7)) iG)))
 (aN (cA (QT.e (mZ (zj8 (oH (fZ (QP.v (cY xt8 rfl ej boot_isinstance (aF (aC 1) (aF (QP.v (xt6 rfl uq boot_int)) aP)))))) (zj8 (fZ (QP.v (cY xt8 rfl ej boot_isinstance (aF (aC 1) (aF (QP.v (xt6 rfl t4 boot_bool)) aP))))) (zj7 (oH (yc9 zg8 zg8 (QP.v aG) (aC 1) (QP.v aG))))))))
  (aK (bP (QP.e aG)))
  bR)
 (aK (jE 1 rfl))))
def xk4(dm:(tz6))(qm:(tz6))(l0:(tz6))(ji:(tz6))(o3:(tz6))(lj:(tz6)):tz1:=
 (aT (fIf (aV (fB (f2 dNe (aH dm (aB (cP aE) aE)) (fC (.int 1)))))
  (bX (aJ (fC (.bl false))))
  bO)
 (aT (aW 1 (aJ (aH qm (aB (aA 0) aE))))
 (aT (aW 2 (aJ (aH l0 (aB (aA 1) aE))))
 (aT (fIf (aV (fB (f2 dEq (aA 2) (fC (.int 0)))))
  (bX (aJ (fC (.bl false))))
  bO)
 (aT (gT 3 (lL (aB (fC (.int 4)) aE))
  (fIf (aV (fB (f2 dLt (aH ze3 (aB (fC (.int 1)) (aB (aH ji (aB (f2 dIx (aH o3 (aB (aA 0) (aB (aA 1) (aB (f2 bQ (fC (.int 50)) (aA 3)) aE)))) (fC (.int 0))) aE)) aE))) (aA 2))))
  (bX (aJ (fC (.bl false))))
  bO))
 (aT (fIf (aV (cJ (fB (f2 dGt (aA 2) (fC (.int 1)))) (fB (f2 qS (aH lj (aB (aA 1) (aB (f2 jB (aA 2) (fC (.int 1))) aE))) (fC .non)))))
  (bX (aJ (fC (.bl false))))
  bO)
 (aT (fIf (aV (fB (f2 dEq (aA 2) (fC (.int 41)))))
  (bX (aJ (fC (.bl true))))
  bO)
 (aT (aW 4 (aJ (aH lj (aB (aA 1) (aB (aA 2) aE)))))
 (bX (aJ (rL (f2 qS (aA 4) (fC .non)) (fOr (f2 dEq (aH ji (aB (aA 4) aE)) (aA 2)) (rL (f2 dEq (aA 2) (fC (.int 1))) (f2 dEq (aH ji (aB (aA 4) aE)) (fC (.int 0))))))))))))))))
abbrev yj0:Stmt:=top 57
abbrev yj1:List Str:=["_law_script"]
theorem vU:FnScope ["_law_script","_law_row_here","_law_found","_law_lap","_law_text"] yj1 (aS yj0):=cM
theorem wg6(ur:Dn K mg "law" yj0 yj1 f fd)
  (ao:Dn K mg "narrowest" iR eM ic gm) (fk:FnOk P w K mg base CX0 n ic gm eM (SpP 1 K U dm))
  (k9:Dn K mg "_law_some" rE rF t5 sr) (qo:FnOk P w K mg base CX0 n t5 sr rF (SpP 1 K U qm))
  (fj:Dn K mg "_law_narrowest" mY jZ oj nj) (l4:FnOk P w K mg base CX0 n oj nj jZ (SpP 1 K U l0))
  (dw:Dn K mg "_law_longest" mE mF p6 o4) (jj:FnOk P w K mg base CX0 n p6 o4 mF (SpP 1 K U ji))
  (j4:Dn K mg "_law_drawn" sE pC ss rk) (o5:FnOk P w K mg base CX0 n ss rk pC (SpP 3 K U o3))
  (gb:Dn K mg "_law_pressed" pD mG p7 o6) (ll:FnOk P w K mg base CX0 n p7 o6 mG (SpP 2 K U lj))
  (bq:mg "range"=none)
  (l7:mg "max"=none):
  FnOk P w K mg base CX0 (n+1) f fd yj1 (SpP 1 K U (gP 1 4 (xk4 dm qm l0 ji o3 lj))):=
 cQ ur.F vU fun cdv A outer s H E B hr=>
 (aN (cA (QT.e (bS (wp9 (Room.units hr)) (QP.v (cE ao fk hr rfl rfl (aF (QP.v (dQ bD)) aP) (aM bA))) (QP.v aG) (bH _)))
  (aK (bP (QP.e nN)))
  bR)
 (aN (aZ 1 vU.nd (cE k9 qo hr rfl rfl (aF (aC 0) aP) (aM bA)))
 (aN (aZ 2 vU.nd (cE fj l4 hr rfl rfl (aF (aC 1) aP) (aM bA)))
 (aN (cA (QT.e (bS (fX (Room.units hr)) (aC 2) (QP.v aG) (bH _)))
  (aK (bP (QP.e nN)))
  bR)
 (aN (qI 3 ZM rfl vU.nd rfl (.inl rfl) rfl rfl (zE rfl bq (aF (QP.v aG) aP))
  (aK (cA (QT.e (bS (sX (Room.units0 hr)) (QP.v (cY (wf8 rfl) rfl l7 boot_max (aF (QP.v aG) (aF (QP.v (cE dw jj hr rfl rfl (aF (QP.v (wU (cE j4 o5 hr rfl rfl (aF (aC 0) (aF (aC 1) (aF (QP.v (bG eG (QP.v aG) (aC 3))) aP))) (aM (aM (aM bA)))) (QP.v aG))) aP) (aM bA))) aP)))) (aC 2) (bH _)))
  (aK (bP (QP.e nN)))
  bR)))
 (aN (cA (QT.e (mZ (jU (bS yt3 (aC 2) (QP.v aG) (bH _)) (jD (bS zc7 (QP.v (cE gb ll hr rfl rfl (aF (aC 1) (aF (QP.v (bG oJ (aC 2) (QP.v aG))) aP)) (aM (aM bA)))) (QP.v jG) (bH _))))))
  (aK (bP (QP.e nN)))
  bR)
 (aN (cA (QT.e (bS (fX (Room.units hr)) (aC 2) (QP.v aG) (bH _)))
  (aK (bP (QP.e nN)))
  bR)
 (aN (aZ 4 vU.nd (cE gb ll hr rfl rfl (aF (aC 1) (aF (aC 2) aP)) (aM (aM bA))))
 (aK (bP (QP.e (yb8 (lO zc7 (aC 4) (QP.v jG) (bH _)) (zD (xt7 (lO (fX (Room.units hr)) (QP.v (cE dw jj hr rfl rfl (aF (aC 4) aP) (aM bA))) (aC 2) (bH _)) (zD (yb8 (lO (fX (Room.units hr)) (aC 2) (QP.v aG) (bH _)) (zD (lO (fX (Room.units hr)) (QP.v (cE dw jj hr rfl rfl (aF (aC 4) aP) (aM bA))) (QP.v aG) (bH _)))))))))))))))))))
def yY:tz1:=
 (aT (iC 0 bK "Place" "broken" (aX (aA 1)))
 (iC 0 bK "Place" "margin" (aX (aA 2))))
abbrev st_Place_init:Stmt:=iQ (top 7) 0
abbrev ps_Place_init:List Str:=["self","broken","margin"]
theorem yT:FnScope ["self","broken","margin"] ps_Place_init (aS st_Place_init):=cM
theorem zy2(ie:Kn K mg U "Place" "Place.__init__" st_Place_init ps_Place_init f fd)
  (a8:Cls K (U "Place"))
  (bn:cD K (U "Place") "broken")
  (dt:cD K (U "Place") "margin"):
  FnOk P w K mg base CX0 (n+1) f fd ps_Place_init (SpE 3 K U (bE [true,false,false]) (gE 3 0 (bE [true,false,false]) (yY))):=
 lI ie.F yT (fun i hi=>fO hi) fun cdv A outer s H E hr=>
 (aN (gO (C:="Place") a8 bn rfl (QV.p (aC 1)) (bN 0))
 (aK (gO (C:="Place") a8 dt rfl (QV.p (aC 2)) (bN 0))))
def rO:tz1:=
 (aT (iC 0 bK "Front" "steps" (aX (aA 1)))
 (iC 0 bK "Front" "best" sB))
abbrev st_Front_init:Stmt:=iQ (top 17) 0
abbrev ps_Front_init:List Str:=["self","steps"]
theorem yU:FnScope ["self","steps"] ps_Front_init (aS st_Front_init):=cM
theorem zy3(cj:Kn K mg U "Front" "Front.__init__" st_Front_init ps_Front_init f fd)
  (aa:Cls K (U "Front"))
  (cm:cD K (U "Front") "steps")
  (ah:cD K (U "Front") "best"):
  FnOk P w K mg base CX0 (n+1) f fd ps_Front_init (SpE 2 K U (bE [true,false]) (gE 2 0 (bE [true,false]) (rO))):=
 lI cj.F yU (fun i hi=>fO hi) fun cdv A outer s H E hr=>
 (aN (gO (C:="Front") aa cm rfl (QV.p (aC 1)) (bN 0))
 (aK (gO (C:="Front") aa ah rfl xo2 (bN 0))))
def mH:tz1:=
 (fIf (aV (pQ (fB (f2 lD (aA 1) (cH "Front" "best" (aA 0)))) (fB (f2 yi4 (aA 2) (f2 gW (cH "Front" "best" (aA 0)) (aA 1))))))
  (sC 0 (zz4 0 bK "Front" "best") (aA 1) (aX (aA 2)))
  bO)
abbrev st_Front_add:Stmt:=iQ (top 17) 1
abbrev ps_Front_add:List Str:=["self","state","way"]
theorem zW:FnScope ["self","state","way"] ps_Front_add (aS st_Front_add):=cM
theorem ye6(au:Mn K U "Front" "add" "Front.add" st_Front_add ps_Front_add f fd)
  (aa:Cls K (U "Front"))
  (ah:cD K (U "Front") "best"):
  FnOk P w K mg base CX0 (n+1) f fd ps_Front_add (SpE 3 K U (bE [true,false,false]) (gE 3 0 (bE [true,false,false]) (mH))):=
 lI au.F zW (fun i hi=>fO hi) fun cdv A outer s H E hr=>
 (aK (cA (QT.e (mZ (zj8 (xe4 (uD hr) (aC 1) (cT (C:="Front") aa ah (aC 0))) (zj7 (bS (wm9 (Room.units hr)) (aC 2) (sM (uD hr) (cT (C:="Front") aa ah (aC 0)) (aC 1)) (bH _))))))
  (aK (xy5 (j:=0) (uD hr) rfl (QV.p (aC 2)) (zu6 (C:="Front") aa ah (bN 0)) (aC 1)))
  bR))
def kQ(ar:(tz7)):tz1:=
 (gT 2 (wK (aX (cH "Front" "best" (aA 1))))
  (cX (dI 0 bK (cB [.im (aA 2),.im (f2 gW (cH "Front" "best" (aA 1)) (aA 2))]) (dX "Front" "add" ar))))
abbrev st_Front_add_all:Stmt:=iQ (top 17) 2
abbrev ps_Front_add_all:List Str:=["self","other"]
theorem nV:FnScope ["self","other","state"] ps_Front_add_all (aS st_Front_add_all):=cM
theorem zh8(de:Mn K U "Front" "add_all" "Front.add_all" st_Front_add_all ps_Front_add_all f fd)
  (au:Mn K U "Front" "add" "Front.add" st_Front_add ps_Front_add du da) (bf:FnOk P w K mg base CX0 n du da ps_Front_add (SpE 3 K U (bE [true,false,false]) ar))
  (aa:Cls K (U "Front"))
  (ah:cD K (U "Front") "best"):
  FnOk P w K mg base CX0 (n+1) f fd ps_Front_add_all (SpE 2 K U (bE [true,false]) (gE 2 1 (bE [true,false]) (kQ ar))):=
 lI de.F nV (fun i hi=>fO hi) fun cdv A outer s H E hr=>
 (aK (qI 2 ZM rfl nV.nd rfl (.inl rfl) rfl rfl (zr0 (QV.p (cT (C:="Front") aa ah (aC 1))))
  (aK (fH (kZ au bf hr rfl (bN 0) (bL (aC 2) (bL (sM (uD hr) (cT (C:="Front") aa ah (aC 1)) (aC 2)) dA)) rfl rfl (dD 2))))))
def lG:tz1:=
 (iC 0 bK "WithinWidth" "width" (aX (aA 1)))
abbrev st_WithinWidth_init:Stmt:=iQ (top 28) 0
abbrev ps_WithinWidth_init:List Str:=["self","width"]
theorem pG:FnScope ["self","width"] ps_WithinWidth_init (aS st_WithinWidth_init):=cM
theorem yZ(et:Kn K mg U "WithinWidth" "WithinWidth.__init__" st_WithinWidth_init ps_WithinWidth_init f fd)
  (a7:Cls K (U "WithinWidth"))
  (gc:cD K (U "WithinWidth") "width"):
  FnOk P w K mg base CX0 (n+1) f fd ps_WithinWidth_init (SpE 2 K U (bE [true,false]) (gE 2 0 (bE [true,false]) (lG))):=
 lI et.F pG (fun i hi=>fO hi) fun cdv A outer s H E hr=>
 (aK (gO (C:="WithinWidth") a7 gc rfl (QV.p (aC 1)) (bN 0)))
def kF(gd:(tz6))(bj:(tz6))(di:(tz6))(g8:(tz6)):tz1:=
 (aT (aW 5 (aJ (aH gd (aB (aA 3) (aB (aA 4) (aB (aA 1) aE))))))
 (aT (fIf (aV (fB (f2 dIs (aA 5) (fC .non))))
  (bX (aJ (fC .non)))
  bO)
 (aT (aW 6 (aJ (aH bj (aB (aA 1) (aB (aA 5) aE)))))
 (aT (fIf (aV (fB (f2 dGt (aA 6) (cH "WithinWidth" "width" (aA 0)))))
  (bX (aJ (fC .non)))
  bO)
 (aT (fIf (aV (fT (aH di (aB (aA 5) aE))))
  (bX (aJ (cP (aB (aX (aA 6)) (aB (cP (aB (f2 bQ (f2 dIx (aA 2) (fC (.int 0))) (fC (.int 1))) (aB (f2 bQ (f2 dIx (aA 2) (fC (.int 1))) (aH g8 (aB (qT "WithinWidth" "rag_of" (aA 0)) (aB (aA 1) aE)))) aE))) aE)))))
  bO)
 (bX (aJ (cP (aB (aX (aA 6)) (aB (aX (aA 2)) aE))))))))))
abbrev st_WithinWidth_state_behind:Stmt:=iQ (top 28) 1
abbrev ps_WithinWidth_state_behind:List Str:=["self","length","cost","piece","place"]
theorem fF:FnScope ["self","length","cost","piece","place","wrote","column"] ps_WithinWidth_state_behind (aS st_WithinWidth_state_behind):=cM
theorem qM(am:Mn K U "WithinWidth" "state_behind" "WithinWidth.state_behind" st_WithinWidth_state_behind ps_WithinWidth_state_behind f fd)
  (c6:Dn K mg "writing" mC iV lm kj) (ii:FnOk P w K mg base CX0 n lm kj iV (SpP 3 K U gd))
  (av:Dn K mg "column_behind" gY eU gj f9) (cg:FnOk P w K mg base CX0 n gj f9 eU (SpP 2 K U bj))
  (bw:Dn K mg "ends_line" jY gG jm i8) (eo:FnOk P w K mg base CX0 n jm i8 gG (SpP 1 K U di))
  (bi:Mn K U "WithinWidth" "rag_of" "WithinWidth.rag_of" st_WithinWidth_rag_of ps_WithinWidth_rag_of kl j6) (g9:FnOk P w K mg base CX0 n kl j6 ps_WithinWidth_rag_of (SpP 2 K U g8))
  (a7:Cls K (U "WithinWidth"))
  (gc:cD K (U "WithinWidth") "width"):
  FnOk P w K mg base CX0 (n+1) f fd ps_WithinWidth_state_behind (SpP 5 K U (gP 5 2 (kF gd bj di g8))):=
 cQ am.F fF fun cdv A outer s H E B hr=>
 (aN (aZ 5 fF.nd (cE c6 ii hr rfl rfl (aF (aC 3) (aF (aC 4) (aF (aC 1) aP))) (aM (aM (aM bA)))))
 (aN (cA (QT.e (bS yt5 (aC 5) (QP.v jG) (bH _)))
  (aK (bP (QP.e jG)))
  bR)
 (aN (aZ 6 fF.nd (cE av cg hr rfl rfl (aF (aC 1) (aF (aC 5) aP)) (aM (aM bA))))
 (aN (cA (QT.e (bS yt3 (aC 6) (cT (C:="WithinWidth") a7 gc (aC 0)) (bH _)))
  (aK (bP (QP.e jG)))
  bR)
 (aN (cA (QT.e (fZ (QP.v (cE bw eo hr rfl rfl (aF (aC 5) aP) (aM bA)))))
  (aK (bP (QP.e (dQ (aR (QV.p (aC 6)) (aR (dQ (aR (bG eG (bB (aC 2) (QP.v aG)) (QP.v aG)) (aR (bG eG (bB (aC 2) (QP.v aG)) (QP.v (ye0 bi g9 hr (aC 0) rfl (aF (aC 1) aP) (aM bA)))) bD))) bD))))))
  bR)
 (aK (bP (QP.e (dQ (aR (QV.p (aC 6)) (aR (QV.p (aC 2)) bD)))))))))))
def oB:tz1:=
 (bX (aJ (f2 jC (f2 jB (cH "WithinWidth" "width" (aA 0)) (aA 1)) (f2 jB (cH "WithinWidth" "width" (aA 0)) (aA 1)))))
abbrev st_WithinWidth_rag_of:Stmt:=iQ (top 28) 2
abbrev ps_WithinWidth_rag_of:List Str:=["self","length"]
theorem nZ:FnScope ["self","length"] ps_WithinWidth_rag_of (aS st_WithinWidth_rag_of):=cM
theorem vV(bi:Mn K U "WithinWidth" "rag_of" "WithinWidth.rag_of" st_WithinWidth_rag_of ps_WithinWidth_rag_of f fd)
  (a7:Cls K (U "WithinWidth"))
  (gc:cD K (U "WithinWidth") "width"):
  FnOk P w K mg base CX0 (n+1) f fd ps_WithinWidth_rag_of (SpP 2 K U (gP 2 0 (oB))):=
 cQ bi.F nZ fun cdv A outer s H E B hr=>
 (aK (bP (QP.e (bG uG (QP.v (bG oJ (cT (C:="WithinWidth") a7 gc (aC 0)) (aC 1))) (QP.v (bG oJ (cT (C:="WithinWidth") a7 gc (aC 0)) (aC 1)))))))
def pT:tz1:=
 (aT (iC 0 bK "Setter" "choices" (aX (aA 1)))
 (aT (iC 0 bK "Setter" "used" (fC (.int 0)))
 (aT (iC 0 bK "Setter" "column" (fC (.int 0)))
 (iC 0 bK "Setter" "parts" (cZ aE)))))
abbrev st_Setter_init:Stmt:=iQ (top 36) 0
abbrev ps_Setter_init:List Str:=["self","choices"]
theorem vW:FnScope ["self","choices"] ps_Setter_init (aS st_Setter_init):=cM
theorem zr5(kz:Kn K mg U "Setter" "Setter.__init__" st_Setter_init ps_Setter_init f fd)
  (af:Cls K (U "Setter"))
  (c7:cD K (U "Setter") "choices")
  (fm:cD K (U "Setter") "used")
  (gv:cD K (U "Setter") "column")
  (ia:cD K (U "Setter") "parts"):
  FnOk P w K mg base CX0 (n+1) f fd ps_Setter_init (SpE 2 K U (bE [true,false]) (gE 2 0 (bE [true,false]) (pT))):=
 lI kz.F vW (fun i hi=>fO hi) fun cdv A outer s H E hr=>
 (aN (gO (C:="Setter") af c7 rfl (QV.p (aC 1)) (bN 0))
 (aN (gO (C:="Setter") af fm rfl aG (bN 0))
 (aN (gO (C:="Setter") af gv rfl aG (bN 0))
 (aK (gO (C:="Setter") af ia rfl (eP bD) (bN 0))))))
def jP:tz1:=
 (aT (fIf (aV (fB (f2 dGe (cH "Setter" "used" (aA 0)) (aH dJ (aB (cH "Setter" "choices" (aA 0)) aE)))))
  tU
  bO)
 (aT (aW 2 (aJ (aX (f2 dIx (cH "Setter" "choices" (aA 0)) (cH "Setter" "used" (aA 0))))))
 (aT (fIf (aV (pQ (fB (f2 dLt (aA 2) (fC (.int 0)))) (fB (f2 dGe (aA 2) (aA 1)))))
  tU
  bO)
 (aT (iC 0 bK "Setter" "used" (f2 bQ (cH "Setter" "used" (aA 0)) (fC (.int 1))))
 (jQ 2)))))
abbrev gM:Stmt:=iQ (top 36) 1
abbrev fJ:List Str:=["self","count"]
theorem jN:FnScope ["self","count","number"] fJ (aS gM):=cM
theorem vE(bc:Mn K U "Setter" "choice_below" "Setter.choice_below" gM fJ f fd)
  (af:Cls K (U "Setter"))
  (fm:cD K (U "Setter") "used")
  (c7:cD K (U "Setter") "choices")
  (ae:mg "len"=none):
  FnOk P w K mg base CX0 (n+1) f fd fJ (SpE 2 K U (bE [true,false]) (gE 2 1 (bE [true,false]) (jP))):=
 lI bc.F jN (fun i hi=>fO hi) fun cdv A outer s H E hr=>
 (aN (cA (QT.e (bS yt4 (cT (C:="Setter") af fm (aC 0)) (QP.v (cY iK rfl ae ZY (aF (cT (C:="Setter") af c7 (aC 0)) aP))) (bH _)))
  (aK pK)
  bR)
 (aN (aZ 2 jN.nd (QV.p (bB (cT (C:="Setter") af c7 (aC 0)) (cT (C:="Setter") af fm (aC 0)))))
 (aN (cA (QT.e (mZ (zj8 (bS (sX (Room.units0 hr)) (aC 2) (QP.v aG) (bH _)) (zj7 (bS yt4 (aC 2) (aC 1) (bH _))))))
  (aK pK)
  bR)
 (aN (gO (C:="Setter") af fm rfl (bG eG (cT (C:="Setter") af fm (aC 0)) (QP.v aG)) (bN 0))
 (aK (jE 2 rfl))))))
def iZ(gd:(tz6))(bj:(tz6)):tz1:=
 (aT (aW 3 (aJ (aH gd (aB (aA 1) (aB (aA 2) (aB (cH "Setter" "column" (aA 0)) aE))))))
 (aT (fIf (aV (fB (f2 dIs (aA 3) (fC .non))))
  tU
  bO)
 (aT (cX (dI 0 (zz4 0 bK "Setter" "parts") (aB (aX (aA 3)) aE) eR))
 (iC 0 bK "Setter" "column" (aH bj (aB (cH "Setter" "column" (aA 0)) (aB (aA 3) aE)))))))
abbrev jA:Stmt:=iQ (top 36) 2
abbrev gB:List Str:=["self","piece","place"]
theorem lE:FnScope ["self","piece","place","wrote"] gB (aS jA):=cM
theorem zA(b8:Mn K U "Setter" "set_plain" "Setter.set_plain" jA gB f fd)
  (c6:Dn K mg "writing" mC iV lm kj) (ii:FnOk P w K mg base CX0 n lm kj iV (SpP 3 K U gd))
  (av:Dn K mg "column_behind" gY eU gj f9) (cg:FnOk P w K mg base CX0 n gj f9 eU (SpP 2 K U bj))
  (af:Cls K (U "Setter"))
  (gv:cD K (U "Setter") "column")
  (ia:cD K (U "Setter") "parts"):
  FnOk P w K mg base CX0 (n+1) f fd gB (SpE 3 K U (bE [true,false,false]) (gE 3 1 (bE [true,false,false]) (iZ gd bj))):=
 lI b8.F lE (fun i hi=>fO hi) fun cdv A outer s H E hr=>
 (aN (aZ 3 lE.nd (cE c6 ii hr rfl rfl (aF (aC 1) (aF (aC 2) (aF (cT (C:="Setter") af gv (aC 0)) aP))) (aM (aM (aM bA)))))
 (aN (cA (QT.e (bS yt5 (aC 3) (QP.v jG) (bH _)))
  (aK pK)
  bR)
 (aN (fH (nY (j:=0) rfl (zu6 (C:="Setter") af ia (bN 0)) (aR (QV.p (aC 3)) bD)))
 (aK (gO (C:="Setter") af gv rfl (cE av cg hr rfl rfl (aF (cT (C:="Setter") af gv (aC 0)) (aF (aC 3) aP)) (aM (aM bA))) (bN 0))))))
def iM(jo:(tz6))(bx:(tz6))(gn:(tz7))(b5:(tz7)):tz1:=
 (aT (aW 3 (aJ (aH jo (aB (aA 1) (aB (aA 2) aE)))))
 (aT (aW 4 (aJ (fC (.int 0))))
 (aT (fIf (aV (fT (aH bx (aB (aA 1) (aB (aA 2) aE)))))
  (aW 4 (dI 0 bK (cB [.im (aH dJ (aB (aA 3) aE))]) (dX "Setter" "choice_below" gn)))
  bO)
 (aT (aW 5 (aJ (aX (f2 dIx (aA 3) (aA 4)))))
 (cX (dI 0 bK (cB [.im (f2 dIx (aA 5) (fC (.int 0))),.im (f2 dIx (aA 5) (fC (.int 1)))]) (dX "Setter" "set_row" b5)))))))
abbrev iN:Stmt:=iQ (top 36) 3
abbrev fS:List Str:=["self","piece","place"]
theorem eV:FnScope ["self","piece","place","found","number","way"] fS (aS iN):=cM
theorem xD(bv:Mn K U "Setter" "set_holder" "Setter.set_holder" iN fS f fd)
  (gw:Dn K mg "ways" oA mB nq mq) (ku:FnOk P w K mg base CX0 n nq mq mB (SpP 2 K U jo))
  (ax:Dn K mg "takes_choice" iI fD gx gf) (cr:FnOk P w K mg base CX0 n gx gf fD (SpP 2 K U bx))
  (bc:Mn K U "Setter" "choice_below" "Setter.choice_below" gM fJ j7 jk) (gq:FnOk P w K mg base CX0 n j7 jk fJ (SpE 2 K U (bE [true,false]) gn))
  (ay:Mn K U "Setter" "set_row" "Setter.set_row" st_Setter_set_row ps_Setter_set_row gz gh) (eh:FnOk P w K mg base CX0 n gz gh ps_Setter_set_row (SpE 3 K U (bE [true,false,false]) b5))
  (ae:mg "len"=none):
  FnOk P w K mg base CX0 (n+1) f fd fS (SpE 3 K U (bE [true,false,false]) (gE 3 3 (bE [true,false,false]) (iM jo bx gn b5))):=
 lI bv.F eV (fun i hi=>fO hi) fun cdv A outer s H E hr=>
 (aN (aZ 3 eV.nd (cE gw ku hr rfl rfl (aF (aC 1) (aF (aC 2) aP)) (aM (aM bA))))
 (aN (aZ 4 eV.nd aG)
 (aN (cA (QT.e (fZ (QP.v (cE ax cr hr rfl rfl (aF (aC 1) (aF (aC 2) aP)) (aM (aM bA))))))
  (aK (zk0 4 eV.nd rfl (.inl rfl) rfl rfl (kZ bc gq hr rfl (bN 0) (bL (QP.v (cY iK rfl ae ZY (aF (aC 3) aP))) dA) rfl rfl (dD 1))))
  bR)
 (aN (aZ 5 eV.nd (QV.p (bB (aC 3) (aC 4))))
 (aK (fH (kZ ay eh hr rfl (bN 0) (bL (bB (aC 5) (QP.v aG)) (bL (bB (aC 5) (QP.v aG)) dA)) rfl rfl (dD 2))))))))
def jS(cu:(tz6))(iq:(tz7))(i5:(tz7)):tz1:=
 (gT 3 (eJ (aA 1))
  (fIf (aV (fT (aH cu (aB (aA 3) aE))))
  (cX (dI 0 bK (cB [.im (aA 3),.im (aA 2)]) (dX "Setter" "set_holder" iq)))
  (cX (dI 0 bK (cB [.im (aA 3),.im (aA 2)]) (dX "Setter" "set_plain" i5)))))
abbrev st_Setter_set_row:Stmt:=iQ (top 36) 4
abbrev ps_Setter_set_row:List Str:=["self","row","place"]
theorem nB:FnScope ["self","row","place","piece"] ps_Setter_set_row (aS st_Setter_set_row):=cM
theorem zf8(ay:Mn K U "Setter" "set_row" "Setter.set_row" st_Setter_set_row ps_Setter_set_row f fd)
  (bg:Dn K mg "holds_rows" jJ fR ja iu) (d6:FnOk P w K mg base CX0 n ja iu fR (SpP 1 K U cu))
  (bv:Mn K U "Setter" "set_holder" "Setter.set_holder" iN fS kr km) (ol:FnOk P w K mg base CX0 n kr km fS (SpE 3 K U (bE [true,false,false]) iq))
  (b8:Mn K U "Setter" "set_plain" "Setter.set_plain" jA gB lw kt) (i6:FnOk P w K mg base CX0 n lw kt gB (SpE 3 K U (bE [true,false,false]) i5)):
  FnOk P w K mg base CX0 (n+1) f fd ps_Setter_set_row (SpE 3 K U (bE [true,false,false]) (gE 3 1 (bE [true,false,false]) (jS cu iq i5))):=
 lI ay.F nB (fun i hi=>fO hi) fun cdv A outer s H E hr=>
 (aK (zq2 3 1 ZM rfl nB.nd rfl (.inl rfl) rfl rfl rfl
  (aK (cA (QT.e (fZ (QP.v (cE bg d6 hr rfl rfl (aF (aC 3) aP) (aM bA)))))
  (aK (fH (kZ bv ol hr rfl (bN 0) (bL (aC 3) (bL (aC 2) dA)) rfl rfl (dD 2))))
  (aK (fH (kZ b8 i6 hr rfl (bN 0) (bL (aC 3) (bL (aC 2) dA)) rfl rfl (dD 2))))))))
def kR:tz1:=
 (aT (fIf (aV (fB (f2 dLt (cH "Setter" "used" (aA 0)) (aH dJ (aB (cH "Setter" "choices" (aA 0)) aE)))))
  tU
  bO)
 (bX (aJ (fMt zn6 (fC (.str "")) (aB (cH "Setter" "parts" (aA 0)) aE)))))
abbrev st_Setter_whole_text:Stmt:=iQ (top 36) 5
abbrev ps_Setter_whole_text:List Str:=["self"]
theorem oO:FnScope ["self"] ps_Setter_whole_text (aS st_Setter_whole_text):=cM
theorem xE(bu:Mn K U "Setter" "whole_text" "Setter.whole_text" st_Setter_whole_text ps_Setter_whole_text f fd)
  (af:Cls K (U "Setter"))
  (fm:cD K (U "Setter") "used")
  (ia:cD K (U "Setter") "parts")
  (c7:cD K (U "Setter") "choices")
  (ae:mg "len"=none):
  FnOk P w K mg base CX0 (n+1) f fd ps_Setter_whole_text (SpP 1 K U (gP 1 0 (kR))):=
 cQ bu.F oO fun cdv A outer s H E B hr=>
 (aN (cA (QT.e (bS (sX (Room.units0 hr)) (cT (C:="Setter") af fm (aC 0)) (QP.v (cY iK rfl ae ZY (aF (cT (C:="Setter") af c7 (aC 0)) aP))) (bH _)))
  (aK pK)
  bR)
 (aK (bP (QP.e (zj9 PySem.F.slot_str_join PySem.F.type_str_join wg0 (QP.v bV) (aF (cT (C:="Setter") af ia (aC 0)) aP))))))
end L3
namespace My
open PySem PySem.Spec PyProof.Rows L2 L3
abbrev MxH(GM:List D->Option D)(S:D):Prop:=∀j s:Int,0<=j->j<1000->0<=s->s<1000->∃a,GM [S,.int j,.int s]=some (.int a)/\0<=a
def bC:Leaf->D
 | .word x=> .tup [.str "word",.str x]
 | .gap x=> .tup [.str "gap",.str x]
 | .stop c=> .tup [.str "stop",.int c]
 | .fin=> .tup [.str "end"]
mutual
def pcD:Pc->D
 | .leaf l=>bC l
 | .group r=> .tup [.str "group",.tup (pcsD r)]
 | .hang n r=> .tup [.str "hang",.int n,.tup (pcsD r)]
 | .either rs=> .tup [.str "either",.tup (rowsD rs)]
def pcsD:List Pc->List D
 |[]=>[]
 |p::r=>pcD p::pcsD r
def rowsD:List (List Pc)->List D
 |[]=>[]
 |r::rs=> .tup (pcsD r)::rowsD rs
end
theorem ye7(l:Leaf):(bC l).imm=true:=by cases l<;>rfl
mutual
theorem tI:∀p:Pc,(pcD p).imm=true
 | .leaf l=>ye7 l
 | .group r=>by show(D.imm (.str "group")&&(D.imm (.tup (pcsD r))&&D.imms []))=true;rw [show D.imm (.tup (pcsD r))=D.imms (pcsD r) from rfl,pcs_imm r];rfl
 | .hang n r=>by show(D.imm (.str "hang")&&(D.imm (.int n)&&(D.imm (.tup (pcsD r))&&D.imms [])))=true;rw [show D.imm (.tup (pcsD r))=D.imms (pcsD r) from rfl,pcs_imm r];rfl
 | .either rs=>by show(D.imm (.str "either")&&(D.imm (.tup (rowsD rs))&&D.imms []))=true;rw [show D.imm (.tup (rowsD rs))=D.imms (rowsD rs) from rfl,rows_imm rs];rfl
theorem pcs_imm:∀r:List Pc,D.imms (pcsD r)=true
 |[]=>rfl
 |p::r=>by show(D.imm (pcD p)&&D.imms (pcsD r))=true;rw [tI p,pcs_imm r];rfl
theorem rows_imm:∀rs:List (List Pc),D.imms (rowsD rs)=true
 |[]=>rfl
 |r::rs=>by show(D.imm (.tup (pcsD r))&&D.imms (rowsD rs))=true;rw [show D.imm (.tup (pcsD r))=D.imms (pcsD r) from rfl,pcs_imm r,rows_imm rs];rfl
end
theorem xF:∀a b:List Pc,pcsD (a++b)=pcsD a++pcsD b
 |[],b=>rfl
 |p::a,b=>by show pcD p::pcsD (a++b)=pcD p::(pcsD a++pcsD b);rw [xF a b]
theorem zX:∀a b:List (List Pc),rowsD (a++b)=rowsD a++rowsD b
 |[],b=>rfl
 |p::a,b=>by show D.tup (pcsD p)::rowsD (a++b)=D.tup (pcsD p)::(rowsD a++rowsD b);rw [zX a b]
theorem tJ:∀a:List Pc,(pcsD a).length=a.length
 |[]=>rfl
 |p::a=>by show(pcsD a).length+1=a.length+1;rw [tJ a]
theorem kE:∀a:List (List Pc),(rowsD a).length=a.length
 |[]=>rfl
 |p::a=>by show(rowsD a).length+1=a.length+1;rw [kE a]
theorem yo3{α β:Type}(f:α->β)(hf:∀a b,f a=f b->a=b):∀{l m:List α},l.map f=m.map f->l=m
 |[],[],_=>rfl
 |[],_::_,h=>by simp at h
 |_::_,[],h=>by simp at h
 |a::l,b::m,h=>by
  simp only [Z9,List.cons.injEq] at h
  rw [hf a b h.1,yo3 f hf h.2]
theorem fV(a b:String):(Str.ofString a=Str.ofString b)=(a=b):=by
 refine propext ⟨fun h=> ?_,fun h=>by rw [h]⟩
 rw [Str.ofString_eq_toList,Str.ofString_eq_toList] at h
 have h1:(a.toList.map Char.toNat).toArray=(b.toList.map Char.toNat).toArray:=(Str.mk.inj h)
 have h2:a.toList.map Char.toNat=b.toList.map Char.toNat:=by simpa using ZN Array.toList h1
 have h3:a.toList=b.toList:=yo3 _ (fun x y e=>by
  have:Char.ofNat x.toNat=Char.ofNat y.toNat:=by rw [e]
  simpa using this) h2
 exact String.toList_inj.mp h3
theorem nC{α:Type}(a:α)(l:List α):atI (a::l) 0=some a:=by simp [atI,ixN]
theorem gC{α:Type}(a b:α)(l:List α):atI (a::b::l) 1=some b:=by
 have h:ixN (a::b::l).length 1=some 1:=by unfold ixN;rw [if_pos (by decide),if_pos (by simp only [Z6];omega)];rfl
 simp only [atI,h];rfl
theorem yv4{α:Type}(a b c:α)(l:List α):atI (a::b::c::l) 2=some c:=by
 have h:ixN (a::b::c::l).length 2=some 2:=by unfold ixN;rw [if_pos (by decide),if_pos (by simp only [Z6];omega)];rfl
 simp only [atI,h];rfl
local macro_rules|`(tactic|simp! [$a,*] $[$l]?)=>`(tactic|simp [aB,aA,aE,aH,aJ,D.imm,D.imms,fT,aX,zs7,aV,cX,cB,kM,fY,dI,bK,fC,f2,aT,bX,fIf,bO,dIx,nC,gC,fB,dB,bQ,aW,fV,dJ,gP,pQ,dLt,dGe,cN,gE,eR,yC,bE,jQ,jB,cZ,cP,eZ,yv4,iC,zn7,wJ,cH,yi2,zn4,dIs,zz4,fP,dGt,fMt,dLe,eqB,dNe,dEq,$a,*] $[$l]?)
theorem sz{n:Nat}(h:n<=1000):n<=sizeLine:=zy8 h
theorem sz1{n:Nat}(h:n<=1000):n<sizeLine:=nW h
theorem yl1{rs:List (List Pc)}{r:List Pc}(h:r∈rs):(toksR r).length<=(toksMore rs).length:=by
 induction rs with
 |nil=>simp at h
 |cons q rs ih=>
  show _<=(Tk.orr::(toksR q++toksMore rs)).length
  rw [Z6,Z3]
  rcases Z4.mp h with e|e
  ·subst e;omega
  ·have:=ih e;omega
theorem vF{rs:List (List Pc)}{r:List Pc}(h:r∈rs):(toksR r).length<=(toksRows rs).length:=by
 cases rs with
 |nil=>simp at h
 |cons q rs=>
  show _<=(toksR q++toksMore rs).length
  rw [Z3]
  rcases Z4.mp h with e|e
  ·subst e;omega
  ·have:=yl1 e;omega
theorem gD(n:Nat):ixN (n+1) (-1)=some n:=by
 unfold ixN
 rw [if_neg (by decide),if_pos (by omega)]
 congr 1
 omega
theorem gF{α:Type}(l:List α)(a b:α):(l++[a]).set l.length b=l++[b]:=by
 induction l with
 |nil=>rfl
 |cons x l ih=>show x::(l++[a]).set l.length b=_;rw [ih];rfl
theorem rJ(n:Nat):ixN (n+1) 0=some 0:=by unfold ixN;rw [if_pos (by decide),if_pos (by omega)];rfl
theorem dG(i j:Int):eE (.int i) (.int j)=if 0<j then some (.int (i % j)) else none:=by simp [eE,dII]
theorem eW(i j:Int):nD (.int i) (.int j)=if 0<j/\j<1073741824 then some (.int (i/j)) else none:=by simp [nD,dII]
theorem bZ(x y:Str):(x++y).cps.toList=x.cps.toList++y.cps.toList:=by
 show(x.cps++y.cps).toList=_
 simp
theorem dL(x y:Str):(x++y).length=x.length+y.length:=by
 show(x.cps++y.cps).size=x.cps.size+y.cps.size
 simp
def sg:Str:=("abcdefghijklmnopqrstuvwxyzABCDEFGHIJKLMNOPQRSTUVWXYZ0123456789":Str)++("!\"#$&'()*+,-./:;<=>?\x40[\\]^_`{|}~":Str)
theorem xf4:sg.cps.toList.length=93:=by decide+kernel
theorem xz6:sg.cps.toList.all uS=true:=by decide+kernel
theorem xz7:sg.length<=sizeLine:=by
 have e:sg.length=sg.cps.toList.length:=by simp [Str.length]
 rw [e,xf4];exact sz (by decide)
theorem vX{α:Type}(xs:List α)(i:Int)(h0:0<=i)(h1:i<xs.length):∃v∈xs,atI xs i=some v:=by
 have hn:i.toNat<xs.length:=by omega
 obtain⟨v,hv⟩:∃v,xs[i.toNat]? =some v:=⟨_,Zp hn⟩
 refine⟨v,ZK hv,?_⟩
 have e:i=((i.toNat:Nat):Int):=by omega
 rw [e]
 exact zp7 hv
theorem wn2(i:Int)(h0:0<=i)(h1:i<93):∃c,atI sg.cps.toList i=some c/\uS c=true:=by
 obtain⟨c,hc,e⟩:=vX sg.cps.toList i h0 (by rw [xf4];omega)
 exact⟨c,e,List.all_eq_true.mp xz6 c hc⟩
theorem wg7(n:Nat):eS 0 n=((List.range n).map fun(k:Nat)=>(k:Int)).map .int:=by
 unfold eS
 rw [YA]
 refine List.map_congr_left fun k _=> ?_
 show D.int (0+(k:Int))=D.int (k:Int)
 rw [Int.zero_add]
theorem xz8(m:Int):∃s:Int,atI [D.int 1,.int 2,.int 3,.int 4,.int 5,.int 6,.int 7,.int 8,.int 10,.int 11,.int 9,.int 12] (m % 12)=some (.int s)/\1<=s/\s<=12:=by
 have h0:=ZF m (show(12:Int)≠0 by decide)
 have h1:=Zy m (show(0:Int)<12 by decide)
 obtain⟨d,hd,e⟩:=vX [D.int 1,.int 2,.int 3,.int 4,.int 5,.int 6,.int 7,.int 8,.int 10,.int 11,.int 9,.int 12] (m % 12) h0 (by simpa using h1)
 simp only [Z4,ZT,X9] at hd
 rcases hd with rfl|rfl|rfl|rfl|rfl|rfl|rfl|rfl|rfl|rfl|rfl|rfl<;>exact⟨_,e,by decide,by decide⟩
theorem wg8(k:Int):∃x:Str,atI [D.str (Str.ofString " "),.str (Str.ofString " "),.str (Str.ofString " "),.str (Str.ofString "")] (k % 4)=some (.str x)/\(x=""\/x=" "):=by
 have h0:=ZF k (show(4:Int)≠0 by decide)
 have h1:=Zy k (show(0:Int)<4 by decide)
 obtain⟨d,hd,e⟩:=vX [D.str (Str.ofString " "),.str (Str.ofString " "),.str (Str.ofString " "),.str (Str.ofString "")] (k % 4) h0 (by simpa using h1)
 simp only [Z4,ZT,X9] at hd
 rcases hd with rfl|rfl|rfl|rfl
 ·exact⟨_,e,.inr rfl⟩
 ·exact⟨_,e,.inr rfl⟩
 ·exact⟨_,e,.inr rfl⟩
 ·exact⟨_,e,.inl rfl⟩
theorem xz9(a b k:Int)(ha:0<=a/\a<=40)(hb:0<=b/\b<=40):∃c:Int,atI [D.int a,.int b] (k % 2)=some (.int c)/\0<=c/\c<=40:=by
 have h0:=ZF k (show(2:Int)≠0 by decide)
 have h1:=Zy k (show(0:Int)<2 by decide)
 obtain⟨d,hd,e⟩:=vX [D.int a,.int b] (k % 2) h0 (by simpa using h1)
 simp only [Z4,ZT,X9] at hd
 rcases hd with rfl|rfl
 ·exact⟨_,e,ha⟩
 ·exact⟨_,e,hb⟩
theorem wq0{α:Type}(a b c d:α):atI [a,b,c,d] 3=some d:=rfl
theorem wa0{i j:Int}(h1: -1000000<=i)(h2:i<=1000000)(h3: -1000000<=j)(h4:j<=1000000):zz3 [.int i,.int j]=some (eS i (j-i).toNat):=by
 rw [zz3]
 exact if_pos ⟨by omega,by omega,by omega,by omega⟩
theorem wa1{j:Int}(h3: -1000000<=j)(h4:j<=1000000):sA [.int j]=some (eS 0 j.toNat):=by
 rw [sA]
 exact if_pos ⟨by omega,by omega⟩
theorem wg9(a:Int)(n:Nat):eS a n=((List.range n).map fun(k:Nat)=>a+(k:Int)).map .int:=by
 unfold eS
 rw [YA];rfl
theorem aO{f g:tz1}{p p':PSt}(h:f p=some (.nx,p')):aT f g p=g p':=by unfold aT;rw [h];rfl
theorem cS{f g:tz1}{p p':PSt}{R:Fl}(h:f p=some (.nx,p'))(e:∃q,g p'=some (R,q)):∃q,aT f g p=some (R,q):=e.elim fun q e=>⟨q,(aO h).trans e⟩
theorem dS{f g:tz1}{p p':PSt}{d:D}(h:f p=some (.ret d,p')):aT f g p=some (.ret d,p'):=by unfold aT;rw [h];rfl
theorem zl4{c:PSt->Option (Bool×PSt)}{f g:tz1}{p p':PSt}(h:c p=some (true,p')):fIf c f g p=f p':=by unfold fIf;rw [h];rfl
theorem eI{c:PSt->Option (Bool×PSt)}{f g:tz1}{p p':PSt}(h:c p=some (false,p')):fIf c f g p=g p':=by unfold fIf;rw [h];rfl
theorem bF{i:Nat}{f:tz2}{p:PSt}{d:D}(h:f p=some d):aW i (aJ f) p=some (.nx,p.set i (some d)):=by unfold aW aJ;rw [h];rfl
theorem cF{f:tz2}{p:PSt}{d:D}(h:f p=some d):bX (aJ f) p=some (.ret d,p):=by unfold bX aJ;rw [h];rfl
theorem jW{np n:Nat}{f:tz1}{ds:List D}{d:D}{p:PSt}(hl:ds.length=np)(h:f (ds.map some++List.replicate n none)=some (.ret d,p)):gP np n f ds=some d:=by
 unfold gP;rw [if_pos hl,h];rfl
theorem aQ{g:D->D->Option D}{fa fb:tz2}{p:PSt}{x y d:D}(h1:fa p=some x)(h2:fb p=some y)(h3:g x y=some d):f2 g fa fb p=some d:=by unfold f2;rw [h1,h2];exact h3
theorem aU{h:tz6}{g:tz3}{p:PSt}{ds:List D}{d:D}(h1:g p=some ds)(h2:h ds=some d):aH h g p=some d:=by unfold aH;rw [h1];exact h2
theorem xf5{o o':Bool}{ys zs:List D}(h1:D.imms ys=true)(h2:D.imms zs=true)(h:ys.length+zs.length<=1000):bQ (.lst o ys) (.lst o' zs)=some (.lst true (ys++zs)):=by
 rw [bQ]
 exact if_pos (by rw [h1,h2];simpa using sz h)
theorem aD{f:tz2}{g:tz3}{p:PSt}{d:D}{ds:List D}(h1:f p=some d)(h2:g p=some ds):aB f g p=some (d::ds):=by unfold aB;rw [h1,h2];rfl
def eY(ws:List Str):List D:=ws.map .str
theorem xf6(a b:List Str):eY (a++b)=eY a++eY b:=by simp [eY]
theorem xf7(a:List Str):(eY a).length=a.length:=by simp [eY]
theorem iA{g:tz3}{p:PSt}{ds:List D}(h:g p=some ds)(hl:ds.length<=1000):cZ g p=some (.lst true ds):=by unfold cZ;rw [h];exact if_pos hl
theorem wa2(a:Int)(b c:Nat)(hc:0<c):∃n:Nat,(b:Int)+a % (c:Int)=(n:Int)/\n<b+c:=by
 have h1:=ZF a (show(c:Int)≠0 by omega)
 have h2:=Zy a (show(0:Int)<c by omega)
 exact⟨(b+a % c).toNat,by omega,by omega⟩
theorem zl5(k:Nat)(n:Nat):eS (k:Int) (n+1)= .int k::eS ((k+1:Nat):Int) n:=by
 unfold eS
 rw [List.range_succ_eq_map,Z9,YA]
 congr 1
 ·simp
  intro j _
  omega
theorem wq1{n:Nat}(h:n<=1000):sA [.int (n:Int)]=some (eS ((0:Nat):Int) n):=wa1 (j:=(n:Int)) (by omega) (by omega)
theorem eX{g:tz3}{p:PSt}{ds:List D}(h:g p=some ds)(hi:D.imms ds=true)(hl:ds.length<=1000):cP g p=some (.tup ds):=by
 unfold cP
 rw [h]
 exact if_pos (by rw [hi];simpa using hl)
theorem mT{i:Nat}{p:PSt}{d:D}(h:p[i]? =some (some d)):aA i p=some d:=by unfold aA;rw [h];rfl
theorem cW{f:tz4}{p:PSt}{b:Bool}(h:f p=some b):aV f p=some (b,p):=by unfold aV;rw [h];rfl
theorem dO{f:tz2}{p:PSt}{b:Bool}(h:f p=some (.bl b)):fB f p=some b:=by unfold fB;rw [h];rfl
theorem kK{f:tz2}{p:PSt}{b:Bool}(h:f p=some (.bl b)):fT f p=some b:=by unfold fT;rw [h];rfl
theorem fA{f g:tz4}{p:PSt}(h:f p=some false):cJ f g p=some false:=by unfold cJ;rw [h];rfl
theorem gR{f g:tz4}{p:PSt}{b:Bool}(h:f p=some true)(h2:g p=some b):cJ f g p=some b:=by unfold cJ;rw [h];exact h2
theorem wn3{f g:tz4}{p:PSt}(h:f p=some true):pQ f g p=some true:=by unfold pQ;rw [h];rfl
theorem pZ{f g:tz4}{p:PSt}{b:Bool}(h:f p=some false)(h2:g p=some b):pQ f g p=some b:=by unfold pQ;rw [h];exact h2
theorem jF{f:tz4}{p:PSt}{b:Bool}(h:f p=some b):eB f p=some (!b):=by unfold eB;rw [h];rfl
theorem aY{c:tz4}{F:tz1}{p:PSt}(h:c p=some false):fIf (aV c) F bO p=some (.nx,p):=(eI (cW h)).trans rfl
theorem bM{c:tz4}{F G:tz1}{p:PSt}(h:c p=some true):fIf (aV c) F G p=F p:=zl4 (cW h)
def kdT(i:Nat)(w:String):tz4:=fB (f2 dEq (f2 dIx (aA i) (fC (.int 0))) (fC (.str w)))
theorem gA{i:Nat}{p:PSt}{k w:String}{ds:List D}{b:Bool}(hp:p[i]? =some (some (.tup (.str k::ds))))(h:decide (k=w)=b):kdT i w p=some b:=by
 refine dO (aQ (aQ (mT hp) rfl (nC _ _)) rfl ?_)
 show some (D.bl (decide ((k:Str)=(w:Str))))=_
 rw [<-h]
 congr 2
 exact YH.mpr (by rw [fV])
theorem tK{f:tz8}{p p':PSt}{d:D}(h:f p=some (d,p')):cX f p=some (.nx,p'):=by unfold cX;rw [h];rfl
theorem zY{as:List L2.Arg}{g:tz7}{p:PSt}{ds ds':List D}{d:D}(h1:cB as p=some ds)(h2:g ds=some (d,ds'))(h3:ds'.length=as.length):fIO as g p=some (d,eC p as ds'):=by unfold fIO;rw [h1,Z2,h2,Z2,if_pos h3]
theorem cL{f:tz2}{p:PSt}{d:D}(h:f p=some d)(hi:d.imm=true):aX f p=some d:=by unfold aX;rw [h];exact if_pos hi
theorem jO{p:PSt}:cB [] p=some []:=rfl
theorem eL{f:tz2}{as:List L2.Arg}{p:PSt}{d:D}{ds:List D}(h:f p=some d)(hi:d.imm=true)(h2:cB as p=some ds):cB (.im f::as) p=some (d::ds):=by
 show(aX f p).bind _=_
 rw [cL h hi,Z2,h2];rfl
theorem vY{j:Nat}{as:List L2.Arg}{p:PSt}{d:D}{ds:List D}(h:p[j]? =some (some d))(h2:cB as p=some ds):cB (.io j::as) p=some (d::ds):=by
 show((p[j]?).join).bind _=_
 rw [h,YY,Z2,h2];rfl
theorem xf8(c:Nat):∀(a b u v:List Nat),c∉a->c∉b->a++c::u=b++c::v->a=b/\u=v
 |[],[],u,v,_,_,e=>⟨rfl,(Xk e).2⟩
 |[],y::b,u,v,_,hb,e=>absurd (Xk e).1 (fun z=>hb (z▸Z0))
 |x::a,[],u,v,ha,_,e=>absurd (Xk e).1 (fun z=>ha (z▸Z0))
 |x::a,y::b,u,v,ha,hb,e=>by
  obtain⟨e1,e2⟩:=Xk e
  obtain⟨e3,e4⟩:=xf8 c a b u v (fun z=>ha (Z1 _ z)) (fun z=>hb (Z1 _ z)) e2
  exact⟨by rw [e1,e3],e4⟩
theorem sO{x y:Str}(h:x.cps.toList=y.cps.toList):x=y:=by
 cases x;cases y
 congr
 exact Xy.mp h
section
variable{c:Nat}
theorem lU(x y:Str)(r:List Str):(Str.join ⟨#[c]⟩ (x::y::r)).cps.toList=x.cps.toList++c::(Str.join ⟨#[c]⟩ (y::r)).cps.toList:=by
 show((x++⟨#[c]⟩)++Str.join ⟨#[c]⟩ (y::r)).cps.toList=_
 rw [bZ,bZ]
 show(x.cps.toList++[c])++_=_
 simp
theorem ye8:∀xs ys:List Str,xs≠[]->ys≠[]->(∀p∈xs,c∉p.cps.toList)->(∀p∈ys,c∉p.cps.toList)->Str.join ⟨#[c]⟩ xs=Str.join ⟨#[c]⟩ ys->xs=ys
 |[],_,h,_,_,_,_=>absurd rfl h
 |_,[],_,h,_,_,_=>absurd rfl h
 |[x],[y],_,_,_,_,e=>by rw [show x=y from e]
 |[x],y::y'::r,_,_,hx,_,e=>by
  have e':=ZN (fun z=>z.cps.toList) (show x=Str.join ⟨#[c]⟩ (y::y'::r) from e)
  rw [lU] at e'
  exact absurd (by rw [e'];simp) (hx x Z0)
 |x::x'::r,[y],_,_,_,hy,e=>by
  have e':=ZN (fun z=>z.cps.toList) (show Str.join ⟨#[c]⟩ (x::x'::r)=y from e)
  rw [lU] at e'
  exact absurd (by rw [<-e'];simp) (hy y Z0)
 |x::x'::r,y::y'::s,_,_,hx,hy,e=>by
  have e':=ZN (fun z=>z.cps.toList) e
  rw [lU,lU] at e'
  obtain⟨e1,e2⟩:=xf8 c _ _ _ _ (hx x Z0) (hy y Z0) e'
  have ih:=ye8 (x'::r) (y'::s) (by simp) (by simp) (fun p hp=>hx p (Z1 _ hp)) (fun p hp=>hy p (Z1 _ hp)) (sO e2)
  rw [sO e1,ih]
end
structure Gm where
 kd:Nat
 n:Int
 full:List (List Pc)
 parts:List Pc
def kdS:Nat->String
 |0=>"top"
 |1=>"group"
 |2=>"hang"
 |_=>"either"
def gmD(f:Gm):D:= .lst true [.str (kdS f.kd),.int f.n,.lst true (rowsD f.full),.lst true (pcsD f.parts)]
def bY:List Gm->List D
 |[]=>[]
 |f::fs=>bY fs++[gmD f]
theorem pN:∀fs,(bY fs).length=fs.length
 |[]=>rfl
 |f::fs=>by rw [bY,Z3,pN fs];rfl
def uZ:List Pc:=[.leaf (.word "or")]
def qF(f:Gm):List (List Pc):=if f.full=[] then [f.parts,uZ] else f.full++[f.parts]
def gN(f:Gm):Pc:=match f.kd with
 |1=> .group f.parts
 |2=> .hang f.n f.parts
 |_=> .either (qF f)
def lH(g:Gm)(p:Pc):Gm:={g with parts:=g.parts++[p]}
mutual
def okP:Pc->Prop
 | .leaf l=>fI l
 | .group r=>okR r
 | .hang n r=>(0<=n/\n<=12)/\okR r
 | .either rs=>(2<=rs.length/\rs.length<=4)/\okRs rs
def okR:List Pc->Prop
 |[]=>True
 |p::r=>okP p/\okR r
def okRs:List (List Pc)->Prop
 |[]=>True
 |r::rs=>okR r/\okRs rs
end
theorem zd3:∀a b:List Pc,okR (a++b)↔okR a/\okR b
 |[],b=>by simp [okR]
 |p::a,b=>by rw [ZU,okR,okR,zd3 a b,and_assoc]
theorem zh9:∀a b:List (List Pc),okRs (a++b)↔okRs a/\okRs b
 |[],b=>by simp [okRs]
 |p::a,b=>by rw [ZU,okRs,okRs,zh9 a b,and_assoc]
theorem yo4(p:Pc):okR [p]↔okP p:=by simp [okR]
theorem ye9(r:List Pc):okRs [r]↔okR r:=by simp [okRs]
theorem tL:∀a b:List (List Pc),toksMore (a++b)=toksMore a++toksMore b
 |[],b=>rfl
 |r::a,b=>by
  show Tk.orr::(toksR r++toksMore (a++b))=(Tk.orr::(toksR r++toksMore a))++toksMore b
  rw [tL a b];simp
def wF(f:Gm):Nat:=(toksMore f.full).length+(toksR f.parts).length+4
def wG:List Gm->Nat
 |[]=>0
 |f::fs=>wF f+wG fs
def wl3(f:Gm):Prop:=okRs f.full/\okR f.parts/\f.full.length<=3/\(f.kd≠3->f.full=[])/\0<=f.n/\f.n<=12
def yj2:List Gm->Prop
 |[]=>False
 |[f]=>f.kd=0
 |f::g::fs=>(1<=f.kd/\f.kd<=3)/\yj2 (g::fs)
def xv0(m:Nat):List Gm->Prop
 |[]=>True
 |f::fs=>depR f.parts+fs.length<=m/\depRs f.full+fs.length<=m/\xv0 m fs
structure GInv(nest k:Nat)(fs:List Gm):Prop where
 len:fs.length<=nest+1
 wt:wG fs<=4*k+4
 each:∀f∈fs,wl3 f
 kinds:yj2 fs
 deep:xv0 nest fs
theorem yv5{f:Gm}(h:f.kd≠3->f.full=[])(hk:1<=f.kd/\f.kd<=3):(cC (gN f)).length<=wF f:=by
 have e:f.kd=1\/f.kd=2\/f.kd=3:=by omega
 unfold wF gN
 rcases e with e|e|e
 ·rw [e];show(Tk.opn::(toksR f.parts++[.cls])).length<=_;rw [Z6,Z3];simp;omega
 ·rw [e];show(Tk.hng f.n::(toksR f.parts++[.bck])).length<=_;rw [Z6,Z3];simp;omega
 ·rw [e]
  show(Tk.eit::(toksRows (qF f)++[.don])).length<=_
  rw [Z6,Z3]
  unfold qF
  cases hf:f.full with
  |nil=>
   rw [if_pos rfl]
   show(toksR f.parts++(Tk.orr::(toksR uZ++[]))).length+1+1<=_
   simp [uZ,toksR,cC,toksMore]
  |cons r rs=>
   rw [if_neg (by simp)]
   show(toksR r++toksMore (rs++[f.parts])).length+1+1<=(Tk.orr::(toksR r++toksMore rs)).length+_+4
   rw [tL]
   simp [toksMore];omega
theorem xp0{f:Gm}(h:wl3 f)(hk:1<=f.kd/\f.kd<=3):okP (gN f):=by
 obtain⟨h1,h2,h3,h4,h5,h6⟩:=h
 have e:f.kd=1\/f.kd=2\/f.kd=3:=by omega
 unfold gN
 rcases e with e|e|e
 ·rw [e];exact h2
 ·rw [e];exact⟨⟨h5,h6⟩,h2⟩
 ·rw [e]
  show(2<=(qF f).length/\(qF f).length<=4)/\okRs (qF f)
  unfold qF
  by_cases c:f.full=[]
  ·rw [if_pos c]
   refine⟨⟨by simp,by simp⟩,h2,?_,trivial⟩
   exact⟨⟨by decide+kernel,by decide+kernel,by decide+kernel⟩,trivial⟩
  ·rw [if_neg c]
   have hp:1<=f.full.length:=by cases hf:f.full with|nil=>exact absurd hf c|cons a l=>simp
   refine⟨⟨by rw [Z3];simp;omega,by rw [Z3];simp;omega⟩,?_⟩
   rw [zh9,ye9];exact⟨h1,h2⟩
theorem xf9{f:Gm}{m k:Nat}(h1:depR f.parts+(k+1)<=m)(h2:depRs f.full+(k+1)<=m):dY (gN f)+k<=m:=by
 unfold gN
 split
 ·show depR f.parts+1+k<=m;omega
 ·show depR f.parts+1+k<=m;omega
 ·show depRs (qF f)+1+k<=m
  unfold qF
  split
  ·show max (depR f.parts) (max (depR uZ) 0)+1+k<=m
   have:depR uZ=0:=rfl
   omega
  ·rw [xA];omega
theorem GInv.leaf{nest k:Nat}{f:Gm}{fs:List Gm}{l:Leaf}(h:GInv nest k (f::fs))(hl:fI l):GInv nest (k+1) (lH f (.leaf l)::fs):=by
 obtain⟨h1,h2,h3,h4,h5⟩:=h
 have hf:=h3 f Z0
 refine⟨h1,?_,?_,?_,?_⟩
 ·have h2':wF f+wG fs<=4*k+4:=h2
  show(toksMore f.full).length+(toksR (f.parts++[.leaf l])).length+4+wG fs<=_
  rw [oM,Z3]
  unfold wF at h2'
  show _+(_+1)+4+_<=_
  omega
 ·intro x hx
  rcases Z4.mp hx with rfl|hx
  ·obtain⟨a1,a2,a3,a4,a5⟩:=hf
   exact⟨a1,(zd3 _ _).mpr ⟨a2,(yo4 _).mpr hl⟩,a3,a4,a5⟩
  ·exact h3 x (Z1 _ hx)
 ·cases fs with
  |nil=>exact h4
  |cons g fs=>exact⟨h4.1,h4.2⟩
 ·refine⟨?_,h5.2.1,h5.2.2⟩
  show depR (f.parts++[.leaf l])+fs.length<=nest
  rw [zO]
  have:=h5.1
  show max _ 0+_<=_
  omega
theorem GInv.opener{nest k:Nat}{fs:List Gm}{kd:Nat}{n:Int}(h:GInv nest k fs)(hk:1<=kd/\kd<=3)(hn:0<=n/\n<=12)(hl:fs.length<=nest):GInv nest (k+1) (⟨kd,n,[],[]⟩::fs):=by
 obtain⟨h1,h2,h3,h4,h5⟩:=h
 refine⟨by simp;omega,?_,?_,?_,?_⟩
 ·show 0+0+4+wG fs<=_;omega
 ·intro x hx
  rcases Z4.mp hx with rfl|hx
  ·exact⟨trivial,trivial,ZJ _,fun _=>rfl,hn⟩
  ·exact h3 x hx
 ·cases fs with
  |nil=>exact h4.elim
  |cons g fs=>exact⟨hk,h4⟩
 ·exact⟨by show 0+_<=_;omega,by show 0+_<=_;omega,h5⟩
theorem GInv.orr{nest k:Nat}{f:Gm}{fs:List Gm}(h:GInv nest k (f::fs))(hf3:f.full.length<3)(hk:f.kd=3):GInv nest (k+1) ({f with full:=f.full++[f.parts],parts:=[]}::fs):=by
 obtain⟨h1,h2,h3,h4,h5⟩:=h
 have hf:=h3 f Z0
 refine⟨h1,?_,?_,?_,?_⟩
 ·have h2':wF f+wG fs<=4*k+4:=h2
  show(toksMore (f.full++[f.parts])).length+0+4+wG fs<=_
  rw [tL,Z3]
  unfold wF at h2'
  simp [toksMore];omega
 ·intro x hx
  rcases Z4.mp hx with rfl|hx
  ·obtain⟨a1,a2,a3,a4,a5⟩:=hf
   exact⟨(zh9 _ _).mpr ⟨a1,(ye9 _).mpr a2⟩,trivial,by show(f.full++[f.parts]).length<=3;rw [Z3];simp;omega,fun z=>absurd hk z,a5⟩
  ·exact h3 x (Z1 _ hx)
 ·cases fs with
  |nil=>exact h4
  |cons g fs=>exact⟨h4.1,h4.2⟩
 ·refine⟨?_,?_,h5.2.2⟩
  ·show 0+_<=_
   have:=h5.1;omega
  ·show depRs (f.full++[f.parts])+fs.length<=nest
   rw [xA]
   have a1:=h5.1;have a2:=h5.2.1
   omega
theorem GInv.shut{nest k:Nat}{f g:Gm}{fs:List Gm}(h:GInv nest k (f::g::fs)):GInv nest k (lH g (gN f)::fs):=by
 obtain⟨h1,h2,h3,h4,h5⟩:=h
 have hf:=h3 f Z0
 have hg:=h3 g (Z1 _ Z0)
 have hk:=h4.1
 refine⟨by simp at h1|-;omega,?_,?_,?_,?_⟩
 ·have h2':wF f+(wF g+wG fs)<=4*k+4:=h2
  have t:=yv5 hf.2.2.2.1 hk
  show(toksMore g.full).length+(toksR (g.parts++[gN f])).length+4+wG fs<=_
  rw [oM,Z3,xe7]
  unfold wF at h2' t
  omega
 ·intro x hx
  rcases Z4.mp hx with rfl|hx
  ·obtain⟨a1,a2,a3,a4,a5⟩:=hg
   exact⟨a1,(zd3 _ _).mpr ⟨a2,(yo4 _).mpr (xp0 hf hk)⟩,a3,a4,a5⟩
  ·exact h3 x (Z1 _ (Z1 _ hx))
 ·cases fs with
  |nil=>exact h4.2
  |cons g' fs=>exact⟨h4.2.1,h4.2.2⟩
 ·obtain⟨d1,d2,d3,d4,d5⟩:=h5
  refine⟨?_,d4,d5⟩
  show depR (g.parts++[gN f])+fs.length<=nest
  rw [zO]
  have:=xf9 (f:=f) (m:=nest) (k:=fs.length) d1 d2
  omega
theorem GInv.more{nest k k':Nat}{fs:List Gm}(h:GInv nest k fs)(hk:k<=k'):GInv nest k' fs:=⟨h.len,by have:=h.wt;omega,h.each,h.kinds,h.deep⟩
theorem xg0:∀{fs:List Gm} {f:Gm},f∈fs->wF f<=wG fs
 |[],_,h=>by simp at h
 |g::fs,f,h=>by
  show wF f<=wF g+wG fs
  rcases Z4.mp h with rfl|h
  ·omega
  ·have:=xg0 h;omega
theorem yv6(p:Pc):1<=(cC p).length:=by cases p<;>simp [cC]
theorem zl6:∀r:List Pc,r.length<=(toksR r).length
 |[]=>Zc _
 |p::r=>by
  show r.length+1<=(cC p++toksR r).length
  rw [Z3]
  have:=zl6 r;have:=yv6 p;omega
theorem GInv.parts{nest k:Nat}{fs:List Gm}{f:Gm}(h:GInv nest k fs)(hf:f∈fs):f.parts.length<=4*k+4:=by
 have h1:=xg0 hf;have h2:=h.wt;have h3:=zl6 f.parts
 unfold wF at h1;omega
theorem zl7:("\n":Str)=⟨#[10]⟩:=by decide+kernel
theorem xt9:(" ":Str)=⟨#[32]⟩:=by decide+kernel
theorem tM{x y:Str}(h:x.cps.toList=y.cps.toList):x=y:=by
 cases x;cases y
 simp only at h
 rw [Xy.mp h]
theorem lV(x:Str):x.length=x.cps.toList.length:=by simp [Str.length]
theorem zv9:∀(n:Nat) (a b:Array Nat),((List.replicate n a).foldl (·++·) b).toList=b.toList++(List.replicate n a.toList).flatten
 |0,a,b=>by simp
 |n+1,a,b=>by
  rw [Ye,List.foldl_cons,zv9 n a (b++a),Ye,Yz]
  simp
theorem xG(n:Int):(Txt.mul " " n).cps.toList=List.replicate n.toNat 32:=by
 rw [xt9]
 unfold Txt.mul
 by_cases h:n<1
 ·rw [if_pos h,show n.toNat=0 by omega];rfl
 ·rw [if_neg h]
  by_cases h1:n=1
  ·subst h1;rfl
  ·rw [if_neg]
   ·show((List.replicate n.toNat #[32]).foldl (·++·) #[]).toList=_
    rw [zv9]
    simp
   ·simp [h1,Str.length]
theorem lB(n:Int):(Txt.mul " " n).length=n.toNat:=by rw [lV,xG,X5]
theorem zl8(n:Int):(10:Nat)∉(Txt.mul " " n).cps.toList:=by rw [xG];simp
def col(t:Str):Nat:=(t.cps.toList.reverse.takeWhile (· !=10)).length
theorem xg1{l:List Nat}(h:(10:Nat)∉l):∀a∈l,(a !=10)=true:=fun a ha=>by
 simp only [bne_iff_ne,ne_eq]
 intro e;subst e;exact h ha
theorem zr6{t w:Str}(h:(10:Nat)∉w.cps.toList):col (t++w)=col t+w.length:=by
 unfold col
 rw [bZ,Xg,XH (xg1 (by simpa using h)),Z3,Xh,lV]
 omega
theorem yf0{t w:Str}(h:(10:Nat)∉w.cps.toList):col (t++((⟨#[10]⟩:Str)++w))=w.length:=by
 unfold col
 rw [bZ,bZ,Xg,Xg,Zl,XH (xg1 (by simpa using h)),Z3,Xh,lV]
 simp
theorem wh0(t:Str):col t<=t.length:=by
 unfold col
 rw [lV,<-Xh (as:=t.cps.toList)]
 exact(List.takeWhile_sublist _).length_le
theorem zz0{t:Str}{i:Nat}:StrLaws.At t ⟨#[10]⟩ t.length i↔t.cps.toList[i]? =some 10:=by
 unfold StrLaws.At Builtin.Str.subAt
 show i+1<=t.length/\(t.cps.extract i (i+1)== #[10])=true↔_
 rw [YF,<-Xy]
 have e:(t.cps.extract i (i+1)).toList=(t.cps.toList.drop i).take 1:=by simp [Array.toList_extract,List.extract]
 rw [e,lV]
 constructor
 ·intro ⟨h1,h2⟩
  rw [Zp (by omega)]
  rw [ZP (by omega)] at h2
  simpa using h2
 ·intro h
  obtain⟨hi,h2⟩:=Z5.mp h
  refine⟨by omega,?_⟩
  rw [ZP hi,h2]
  rfl
theorem xg2(t:Str):(t.length:Int)-1-Txt.rfind t ⟨#[10]⟩=(col t:Int):=by
 rcases rfind_whole t ⟨#[10]⟩ with ⟨e,h⟩|⟨i,e,h1,h2⟩
 ·have hn:(10:Nat)∉t.cps.toList:=fun hm=>by
   obtain⟨i,hi⟩:=Xa hm
   exact h i (zz0.mpr hi)
  have:=zr6 (t:=⟨#[]⟩) hn
  have e0:(⟨#[]⟩:Str)++t=t:=tM (by rw [bZ];rfl)
  rw [e0,show col ⟨#[]⟩=0 from rfl] at this
  rw [e,this];omega
 ·rw [zz0] at h1
  obtain⟨hi,h3⟩:=Z5.mp h1
  have hs:t.cps.toList=t.cps.toList.take i++10::t.cps.toList.drop (i+1):=by
   rw [<-h3,<-ZP hi,List.take_append_drop]
  have hn:(10:Nat)∉t.cps.toList.drop (i+1):=fun hm=>by
   obtain⟨j,hj⟩:=Xa hm
   rw [List.getElem?_drop] at hj
   exact h2 (i+1+j) (by omega) (zz0.mpr hj)
  have e1:t=(⟨(t.cps.toList.take i).toArray⟩:Str)++((⟨#[10]⟩:Str)++(⟨(t.cps.toList.drop (i+1)).toArray⟩:Str)):=tM (by
   rw [bZ,bZ]
   exact hs)
  have e2:=yf0 (t:=⟨(t.cps.toList.take i).toArray⟩) (w:=⟨(t.cps.toList.drop (i+1)).toArray⟩) hn
  rw [<-e1] at e2
  rw [e,e2,lV,lV]
  show((t.cps.toList.length:Nat):Int)-1-(i:Int)=(((t.cps.toList.drop (i+1)).length:Nat):Int)
  rw [Xu]
  omega
def nlw(m:Int):Str:=(⟨#[10]⟩:Str)++Txt.mul " " m
def wr(b:Bool)(m:Int)(k:Nat):Leaf->Option Str
 | .word x=>some x
 | .gap x=>if b then some (nlw m) else some x
 | .stop c=>if (k:Int)<=c then some (Txt.mul " " (c-k)) else if b then some (nlw c) else none
 | .fin=>if b then some (nlw m) else none
def Wr(w:Str):Prop:=(10:Nat)∉w.cps.toList\/∃m:Int,w=nlw m
theorem wa3{x:Str}(h:yi5 x):(10:Nat)∉x.cps.toList:=fun hm=>by
 have:=List.all_eq_true.mp h.2.2 _ hm
 simp [uS] at this
theorem wh1{x:Str}(h:x=""\/x=" "):(10:Nat)∉x.cps.toList:=by
 rcases h with rfl|rfl
 ·simp [show("":Str)=⟨#[]⟩ from by decide+kernel]
 ·simp [xt9]
theorem zd4{b:Bool}{m:Int}{k:Nat}{l:Leaf}{w:Str}(hl:fI l)(h0:0<=m)(h1:m<=200)(h:wr b m k l=some w):Wr w/\w.length<=201:=by
 have nl:∀c:Int,0<=c->c<=200->Wr (nlw c)/\(nlw c).length<=201:=fun c c0 c1=>⟨.inr ⟨c,rfl⟩,by unfold nlw;rw [dL,lB];show 1+_<=_;omega⟩
 cases l with
 |word x=>cases h;exact⟨.inl (wa3 hl),by have:=hl.2.1;omega⟩
 | gap x=>
  cases b with
  |true=>cases h;exact nl m h0 h1
  |false=>
   have e:x=w:=by simpa [wr] using h
   subst e
   have hl':x=""\/x=" ":=hl
   refine⟨.inl (wh1 hl'),?_⟩
   rcases hl' with e|e<;>subst e
   ·show(0:Nat)<=201;decide
   ·show(1:Nat)<=201;decide
 | stop c=>
  have hc:0<=c/\c<=40:=hl
  change (if (k:Int)<=c then some (Txt.mul " " (c-k)) else if b=true then some (nlw c) else none)=some w at h
  by_cases hk:(k:Int)<=c
  ·rw [if_pos hk] at h;cases h
   exact⟨.inl (zl8 _),by rw [lB];omega⟩
  ·rw [if_neg hk] at h
   cases b with
   |true=>cases h;exact nl c hc.1 (by omega)
   |false=>cases h
 |fin=>
  cases b with
  |true=>cases h;exact nl m h0 h1
  |false=>cases h
mutual
def cK:Bool->Int->Pc->List Int->Str->Option (List Int×Str)
 |b,m,.leaf l,cs,t=>(wr b m (col t) l).map fun w=>(cs,t++w)
 | b,m,.group r,cs,t=>if b=true then(match cs with
   |[]=>none
   |c::cs=>if c=0 then setR false m r cs t else if c=1 then setR true m r cs t else none) else setR false m r cs t
 |b,m,.hang n r,cs,t=>setR b (m+n) r cs t
 | b,m,.either rs,cs,t=>match cs with
   |[]=>none
   |c::cs=>if 0<=c then setAt b m rs c.toNat cs t else none
def setR:Bool->Int->List Pc->List Int->Str->Option (List Int×Str)
 |_,_,[],cs,t=>some (cs,t)
 |b,m,p::r,cs,t=>(cK b m p cs t).bind fun s=>setR b m r s.1 s.2
def setAt:Bool->Int->List (List Pc)->Nat->List Int->Str->Option (List Int×Str)
 |_,_,[],_,_,_=>none
 |b,m,r::_,0,cs,t=>setR b m r cs t
 |b,m,_::rs,i+1,cs,t=>setAt b m rs i cs t
end
theorem qN:∀{rs:List (List Pc)} {i:Nat} {b:Bool} {m:Int} {cs:List Int} {t:Str} {r:List Pc},rs[i]? =some r->setAt b m rs i cs t=setR b m r cs t
 |[],i,_,_,_,_,_,h=>by simp at h
 |q::rs,0,_,_,_,_,_,h=>by simp at h;subst h;rw [setAt]
 |q::rs,i+1,_,_,_,_,_,h=>by rw [setAt];exact qN (by simpa using h)
theorem xH:∀{rs:List (List Pc)} {i:Nat} {b:Bool} {m:Int} {cs:List Int} {t:Str},rs[i]? =none->setAt b m rs i cs t=none
 |[],i,_,_,_,_,h=>by rw [setAt]
 |q::rs,0,_,_,_,_,h=>by simp at h
 |q::rs,i+1,_,_,_,_,h=>by rw [setAt];exact xH (by simpa using h)
mutual
theorem uK:∀{p:Pc} {b:Bool} {m:Int} {cs cs':List Int} {t t':Str} (x:List Int),cK b m p cs t=some (cs',t')->cK b m p (cs++x) t=some (cs'++x,t')
 | .leaf l,b,m,cs,cs',t,t',x,h=>by
  rw [cK] at h|-
  cases e:wr b m (col t) l with
  |none=>rw [e] at h;cases h
  |some w=>rw [e] at h;cases h;rfl
 | .group r,b,m,cs,cs',t,t',x,h=>by
  rw [cK.eq_def] at h|-
  simp only at h|-
  cases b with
  |false=>simp only [ZS,Yy] at h|-;exact setR_more x h
  | true=>
   cases cs with
   |nil=>simp at h
   | cons c cs=>
    simp only [Y2,ZU] at h|-
    by_cases c0:c=0
    ·simp only [c0,Y2] at h|-;exact setR_more x h
    ·by_cases c1:c=1
     ·simp only [c1,Y2] at h|-;exact setR_more x h
     ·simp [c0,c1] at h
 | .hang n r,b,m,cs,cs',t,t',x,h=>by rw [cK] at h|-;exact setR_more x h
 | .either rs,b,m,cs,cs',t,t',x,h=>by
  rw [cK.eq_def] at h|-
  cases cs with
  |nil=>cases h
  |cons c cs=>
   simp only [ZU] at h|-
   by_cases c0:0<=c
   ·simp only [c0,Y2] at h|-;exact setAt_more x h
   ·simp [c0] at h
theorem setR_more:∀{r:List Pc} {b:Bool} {m:Int} {cs cs':List Int} {t t':Str} (x:List Int),setR b m r cs t=some (cs',t')->setR b m r (cs++x) t=some (cs'++x,t')
 |[],b,m,cs,cs',t,t',x,h=>by rw [setR] at h|-;cases h;rfl
 | p::r,b,m,cs,cs',t,t',x,h=>by
  rw [setR] at h|-
  cases e:cK b m p cs t with
  |none=>rw [e] at h;cases h
  |some s=>
   obtain⟨c1,t1⟩:=s
   rw [e] at h
   rw [uK x e]
   exact setR_more x h
theorem setAt_more:∀{rs:List (List Pc)} {i:Nat} {b:Bool} {m:Int} {cs cs':List Int} {t t':Str} (x:List Int),setAt b m rs i cs t=some (cs',t')->setAt b m rs i (cs++x) t=some (cs'++x,t')
 |[],i,b,m,cs,cs',t,t',x,h=>by rw [setAt] at h;cases h
 |r::rs,0,b,m,cs,cs',t,t',x,h=>by rw [setAt] at h|-;exact setR_more x h
 |r::rs,i+1,b,m,cs,cs',t,t',x,h=>by rw [setAt] at h|-;exact setAt_more x h
end
abbrev nsP:List Str:=["broken","margin"]
def aL(b:Bool)(m:Int):D:= .obj false "Place" nsP [.bl b,.int m]
abbrev iO:tz7:=gE 3 0 (bE [true,false,false]) yY
theorem yv7(b:Bool)(m:Int):iO [.obj true "Place" [] [],.bl b,.int m]=some (.non,[.obj true "Place" nsP [.bl b,.int m],.bl b,.int m]):=by
 kernel_rfl
abbrev zb8:tz6:=gP 0 0 (tY iO)
abbrev kX:tz6:=gP 1 0 uT
def nL:Pc->Bool
 | .leaf _=>false
 |_=>true
theorem zi0(p:Pc):kX [pcD p]=some (.bl (nL p)):=by
 cases p with
 |leaf l=>cases l<;>kernel_rfl
 |_=>kernel_rfl
abbrev mI:tz6:=gP 2 0 rQ
def cU(b:Bool):Pc->Bool
 | .either _=>true
 | .group _=>b
 |_=>false
theorem yf1(p:Pc)(b:Bool)(m:Int)(hp:nL p=true):mI [pcD p,aL b m]=some (.bl (cU b p)):=by
 cases p with
 |leaf l=>cases hp
 |group r=>cases b<;>kernel_rfl
 |_=>kernel_rfl
def cO(b:Bool)(m:Int):Pc->List (List Pc×Bool×Int)
 | .leaf _=>[]
 | .group r=>if b=true then [(r,false,m),(r,true,m)] else [(r,false,m)]
 | .hang n r=>[(r,b,m+n)]
 | .either rs=>rs.map fun r=>(r,b,m)
def dZ(x:List Pc×Bool×Int):D:= .tup [.tup (pcsD x.1),aL x.2.1 x.2.2]
abbrev vA:tz6:=gP 2 2 (lZ iO)
theorem qO(b:Bool)(m:Int):(aL b m).imm=true:=rfl
theorem zd5(x:List Pc×Bool×Int):(dZ x).imm=true:=by
 show(D.imm (.tup (pcsD x.1))&&(D.imm (aL x.2.1 x.2.2)&&D.imms []))=true
 rw [show D.imm (.tup (pcsD x.1))=D.imms (pcsD x.1) from rfl,pcs_imm];rfl
theorem zw0(b:Bool)(m:Int):∀(rs:List (List Pc)) (x:Option D),fQ [x,some (aL b m)] gU (cP (aB (aX (aA 0)) (aB (aX (aA 1)) aE))) (rowsD rs)=some ((rs.map fun r=>(r,b,m)).map dZ)
 |[],_=>rfl
 | r::rs,x=>by
  have ih:=zw0 b m rs x
  have hi:=qO b m
  have hp:=pcs_imm r
  show fQ _ _ _ (.tup (pcsD r)::rowsD rs)=_
  rw [fQ]
  show(gU [some (.tup (pcsD r)),some (aL b m)]).bind _=_
  rw [Z9,Z9]
  have e:cP (aB (aX (aA 0)) (aB (aX (aA 1)) aE)) [some (.tup (pcsD r)),some (aL b m)]=some (dZ (r,b,m)):=by
   unfold dZ
   generalize aL b m=q at hi|-
   simp! [dM,dIn,inB,rZ,D.flat,D.flats,inV,eqV,eB,cJ,rL,fOr,nF,eJ,lY,hp,hi]
  show((cP (aB (aX (aA 0)) (aB (aX (aA 1)) aE)) [some (.tup (pcsD r)),some (aL b m)]).bind _)=_
  rw [e,Z2,ih];rfl
def zf0:Pc->Nat
 | .either rs=>rs.length
 |_=>0
theorem kd2{p:PSt}{k w:String}{b:Bool}(hp:p[2]? =some (some (.str k)))(h:decide (k=w)=b):fB (f2 dEq (aA 2) (fC (.str w))) p=some b:=by
 refine dO (aQ (mT hp) rfl ?_)
 show some (D.bl (decide ((k:Str)=(w:Str))))=_
 rw [<-h]
 congr 2
 exact YH.mpr (by rw [fV])
theorem zi1{p:PSt}{f g:tz2}{b:Bool}{m:Int}(h1:f p=some (.bl b))(h2:g p=some (.int m)):nF (eZ "Place" (cB [.im f,.im g]) iO) p=some (aL b m):=by
 have q:=yv7 b m
 have e:eZ "Place" (cB [.im f,.im g]) iO p=some (.obj true "Place" nsP [.bl b,.int m]):=by
  unfold eZ
  rw [eL h1 rfl (eL h2 rfl jO),Z2,q];rfl
 unfold nF
 rw [e];rfl
theorem yf2:zb8 []=some (aL true 0):=jW (p:=[]) rfl (cF (zi1 rfl rfl))
theorem zr7{p:PSt}{f g:tz2}{r:List Pc}{b:Bool}{m:Int}(h1:f p=some (.tup (pcsD r)))(h2:g p=some (aL b m)):cP (aB f (aB g aE)) p=some (dZ (r,b,m)):=by
 unfold cP
 rw [aD h1 (aD h2 rfl)]
 refine(if_pos ?_).trans rfl
 have:=zd5 (r,b,m)
 rw [show D.imms [.tup (pcsD r),aL b m]=true from this];rfl
theorem yo5(p:Pc)(b:Bool)(m:Int)(hp:nL p=true)(hl:zf0 p<=1000):vA [pcD p,aL b m]=some (.lst true ((cO b m p).map dZ)):=by
 show gP 2 2 (lZ iO) _=_
 cases p with
 |leaf l=>cases hp
 | group r=>
  have s1:aW 2 (aJ (aX (f2 dIx (aA 0) (fC (.int 0))))) [some (pcD (.group r)),some (aL b m),none,none]=some (.nx,[some (pcD (.group r)),some (aL b m),some (.str "group"),none]):=bF (cL (aQ rfl rfl (nC _ _)) rfl)
  have s4:aW 3 (aJ (cP (aB (aX (f2 dIx (aA 0) (fC (.int 1)))) (aB (nF (eZ "Place" (cB [.im (fC (.bl false)),.im (cH "Place" "margin" (aA 1))]) iO)) aE)))) [some (pcD (.group r)),some (aL b m),some (.str "group"),none]=some (.nx,[some (pcD (.group r)),some (aL b m),some (.str "group"),some (dZ (r,false,m))]):=bF (zr7 (cL (aQ rfl rfl (gC _ _ _)) (pcs_imm r)) (zi1 rfl (by kernel_rfl)))
  have w3:aX (aA 3) [some (pcD (.group r)),some (aL b m),some (.str "group"),some (dZ (r,false,m))]=some (dZ (r,false,m)):=cL rfl (zd5 _)
  have br:fT (cH "Place" "broken" (aA 1)) [some (pcD (.group r)),some (aL b m),some (.str "group"),some (dZ (r,false,m))]=some b:=kK (by kernel_rfl)
  suffices h:∃q,lZ iO [some (pcD (.group r)),some (aL b m),none,none]=some (.ret (.lst true ((cO b m (.group r)).map dZ)),q) from by
   obtain⟨q,hq⟩:=h;exact jW rfl hq
  unfold lZ
  rw [aO s1,aO (aY (kd2 rfl (by decide))),aO (aY (kd2 rfl (by decide))),aO s4]
  cases b with
  |true=>exact⟨_,dS ((bM br).trans (cF (iA (aD w3 (aD (zr7 (cL (aQ rfl rfl (gC _ _ _)) (pcs_imm r)) (cL rfl rfl)) rfl)) (Zg rfl))))⟩
  |false=>exact⟨_,(aO (aY br)).trans (cF (iA (aD w3 rfl) (Zg rfl)))⟩
 |hang n r=>
  have s1:aW 2 (aJ (aX (f2 dIx (aA 0) (fC (.int 0))))) [some (pcD (.hang n r)),some (aL b m),none,none]=some (.nx,[some (pcD (.hang n r)),some (aL b m),some (.str "hang"),none]):=bF (cL (aQ rfl rfl (nC _ _)) rfl)
  refine jW (p:=[some (pcD (.hang n r)),some (aL b m),some (.str "hang"),none]) rfl ?_
  unfold lZ
  exact(aO s1).trans (dS ((bM (kd2 rfl (by decide))).trans (cF (iA (aD (zr7 (cL (aQ rfl rfl (yv4 _ _ _ _)) (pcs_imm r)) (zi1 (by kernel_rfl) (aQ (x:= .int m) (by kernel_rfl) (aQ rfl rfl (gC _ _ _)) rfl))) rfl) (Zg rfl)))))
 | either rs=>
  generalize iO=G
  have hz:(rowsD rs).length<=sizeLine:=by rw [kE];exact sz hl
  have e:=zw0 b m rs none
  have e2:iB [none,some 1] (eJ (f2 dIx (aA 0) (fC (.int 1)))) gU (cP (aB (aX (aA 0)) (aB (aX (aA 1)) aE))) [some (pcD (.either rs)),some (aL b m),some (.str "either"),none]=some (.lst true ((cO b m (.either rs)).map dZ)):=by
   unfold iB
   have e3:eJ (f2 dIx (aA 0) (fC (.int 1))) [some (pcD (.either rs)),some (aL b m),some (.str "either"),none]=some (rowsD rs):=by simp! [dM,dIn,inB,rZ,D.flat,D.flats,inV,eqV,eB,cJ,rL,fOr,nF,eJ,lY,pcD]
   rw [e3,Z2,if_pos hz]
   have e4:fQ (rN [none,some 1] [some (pcD (.either rs)),some (aL b m),some (.str "either"),none]) gU (cP (aB (aX (aA 0)) (aB (aX (aA 1)) aE))) (rowsD rs)=some ((rs.map fun r=>(r,b,m)).map dZ):=e
   rw [e4];rfl
  have s1:aW 2 (aJ (aX (f2 dIx (aA 0) (fC (.int 0))))) [some (pcD (.either rs)),some (aL b m),none,none]=some (.nx,[some (pcD (.either rs)),some (aL b m),some (.str "either"),none]):=by simp! [dM,dIn,inB,rZ,D.flat,D.flats,inV,eqV,eB,cJ,rL,fOr,nF,eJ,lY,pcD]
  have s2:∀F:tz1,fIf (aV (fB (f2 dEq (aA 2) (fC (.str "hang"))))) F bO [some (pcD (.either rs)),some (aL b m),some (.str "either"),none]=some (.nx,[some (pcD (.either rs)),some (aL b m),some (.str "either"),none]):=fun F=>by simp! [dM,dIn,inB,rZ,D.flat,D.flats,inV,eqV,eB,cJ,rL,fOr,nF,eJ,lY]
  have s3:∀F:tz1,fIf (aV (fB (f2 dEq (aA 2) (fC (.str "either"))))) F bO [some (pcD (.either rs)),some (aL b m),some (.str "either"),none]=F [some (pcD (.either rs)),some (aL b m),some (.str "either"),none]:=fun F=>by simp! [dM,dIn,inB,rZ,D.flat,D.flats,inV,eqV,eB,cJ,rL,fOr,nF,eJ,lY]
  refine jW rfl ?_ (p:=[some (pcD (.either rs)),some (aL b m),some (.str "either"),none])
  unfold lZ
  exact(aO s1).trans ((aO (s2 _)).trans (dS ((s3 _).trans (cF e2))))
abbrev gNl:tz6:=gP 1 0 yV
theorem zz1(m:Int)(h0: -1000<=m)(h1:m<=1000):jC (.str " ") (.int m)=some (.str (Txt.mul " " m)):=by
 rw [jC,if_pos]
 simp only [Zx,ZX]
 exact⟨⟨by decide+kernel,by omega⟩,by omega⟩
theorem xu0(m:Int)(h0:0<=m)(h1:m<=200):gNl [.int m]=some (.str (nlw m)):=by
 have q:=zz1 m (by omega) (by omega)
 have hl:1+(Txt.mul " " m).length<=sizeLine:=by rw [lB];exact sz (by omega)
 have e:((⟨#[10]⟩:Str)++Txt.mul " " m)=nlw m:=rfl
 have e1:bQ (.str "\n") (.str (Txt.mul " " m))=some (.str (nlw m)):=by
  rw [zl7,bQ,if_pos (by exact hl)];rfl
 exact jW rfl (cF (aQ rfl (aQ rfl rfl q) e1))
abbrev pU:tz6:=gP 3 1 (oX gNl)
def wrD:Option Str->D
 |some w=> .str w
 |none=> .non
theorem kd3{p:PSt}{k w:String}{b:Bool}(hp:p[3]? =some (some (.str k)))(h:decide (k=w)=b):fB (f2 dEq (aA 3) (fC (.str w))) p=some b:=by
 refine dO (aQ (mT hp) rfl ?_)
 show some (D.bl (decide ((k:Str)=(w:Str))))=_
 rw [<-h]
 congr 2
 exact YH.mpr (by rw [fV])
theorem zl9(l:Leaf)(b:Bool)(m:Int)(k:Nat)(hl:fI l)(h0:0<=m)(h1:m<=200)(hk:k<=1000000):pU [bC l,aL b m,.int k]=some (wrD (wr b m k l)):=by
 suffices h:∃q,oX gNl [some (bC l),some (aL b m),some (.int k),none]=some (.ret (wrD (wr b m k l)),q) from by
  obtain⟨q,hq⟩:=h;exact jW rfl hq
 have br:∀d x,fT (cH "Place" "broken" (aA 1)) [some d,some (aL b m),some (.int k),x]=some b:=fun d x=>kK (by kernel_rfl)
 have mg:∀d x,aH gNl (aB (cH "Place" "margin" (aA 1)) aE) [some d,some (aL b m),some (.int k),x]=some (.str (nlw m)):=fun d x=>aU (ds:=[.int m]) (aD (by kernel_rfl) rfl) (xu0 m h0 h1)
 have s1:∀(w:String) (ds:List D),aW 3 (aJ (aX (f2 dIx (aA 0) (fC (.int 0))))) [some (.tup (.str w::ds)),some (aL b m),some (.int k),none]=some (.nx,[some (.tup (.str w::ds)),some (aL b m),some (.int k),some (.str w)]):=fun w ds=>bF (cL (aQ rfl rfl (nC _ _)) rfl)
 unfold oX
 cases l with
 |word x=>exact⟨_,(aO (s1 "word" [.str x])).trans (dS ((bM (kd3 rfl (by decide))).trans (cF (cL (aQ rfl rfl (gC _ _ _)) rfl))))⟩
 |gap x=>
  show ∃q,aT _ _ [some (.tup [.str "gap",.str x]),some (aL b m),some (.int k),none]=_
  rw [aO (s1 "gap" [.str x]),aO (aY (kd3 rfl (by decide)))]
  cases b with
  |false=>exact⟨_,dS ((bM (gR (kd3 rfl (by decide)) (jF (br _ _)))).trans (cF (cL (aQ rfl rfl (gC _ _ _)) rfl)))⟩
  |true=>exact⟨_,(aO (aY (gR (kd3 rfl (by decide)) (jF (br _ _))))).trans ((aO (aY (fA (kd3 rfl (by decide))))).trans ((aO (aY (jF (br _ _)))).trans ((aO (aY (kd3 rfl (by decide)))).trans (cF (mg _ _)))))⟩
 |fin=>
  show ∃q,aT _ _ [some (.tup [.str "end"]),some (aL b m),some (.int k),none]=_
  rw [aO (s1 "end" []),aO (aY (kd3 rfl (by decide))),aO (aY (fA (kd3 rfl (by decide)))),aO (aY (fA (kd3 rfl (by decide))))]
  cases b with
  |false=>exact⟨_,dS ((bM (jF (br _ _))).trans (cF rfl))⟩
  |true=>exact⟨_,(aO (aY (jF (br _ _)))).trans ((aO (aY (kd3 rfl (by decide)))).trans (cF (mg _ _)))⟩
 | stop c=>
  have hc:0<=c/\c<=40:=hl
  show ∃q,aT _ _ [some (.tup [.str "stop",.int c]),some (aL b m),some (.int k),none]=_
  have le:fB (f2 dLe (aA 2) (f2 dIx (aA 0) (fC (.int 1)))) [some (.tup [.str "stop",.int c]),some (aL b m),some (.int k),some (.str "stop")]=some (decide ((k:Int)<=c)):=dO (aQ rfl (aQ rfl rfl (gC _ _ _)) rfl)
  rw [aO (s1 "stop" [.int c]),aO (aY (kd3 rfl (by decide))),aO (aY (fA (kd3 rfl (by decide))))]
  by_cases hkc:(k:Int)<=c
  ·rw [Zq hkc] at le
   rw [show wr b m k (.stop c)=some (Txt.mul " " (c-k)) from if_pos hkc]
   exact⟨_,dS ((bM (gR (kd3 rfl (by decide)) le)).trans (cF (aQ rfl (aQ (aQ rfl rfl (gC _ _ _)) rfl rfl) (zz1 (c-k) (by omega) (by omega)))))⟩
  ·rw [Zd hkc] at le
   rw [aO (aY (gR (kd3 rfl (by decide)) le))]
   cases b with
   |false=>
    rw [show wr false m k (.stop c)=none from(if_neg hkc).trans rfl]
    exact⟨_,dS ((bM (jF (br _ _))).trans (cF rfl))⟩
   |true=>
    rw [show wr true m k (.stop c)=some (nlw c) from(if_neg hkc).trans rfl]
    exact⟨_,(aO (aY (jF (br _ _)))).trans (dS ((bM (kd3 rfl (by decide))).trans (cF (aU (aD (aQ rfl rfl (gC _ _ _)) rfl) (xu0 c hc.1 (by omega))))))⟩
theorem xg3{w:Str}:Txt.startswith w ⟨#[10]⟩=decide (w.cps.toList[0]? =some 10):=by
 rw [YJ,ZX,<-zz0 (t:=w) (i:=0)]
 unfold Txt.startswith StrLaws.At
 simp only [Zx,ZX]
abbrev sF:tz6:=gP 1 0 pS
theorem zr8(w:Str):sF [.str w]=some (.bl (decide (w.cps.toList[0]? =some 10))):=by
 rw [<-xg3,<-zl7]
 simp! [pS,qA,zn5]
abbrev pV:tz6:=gP 2 0 (eA sF)
theorem xg4{t w:Str}(hw:Wr w)(hz:w.length<=1000):pV [.int (col t),.str w]=some (.int (col (t++w))):=by
 have q:=zr8 w
 have hz':w.length<=sizeLine:=sz hz
 show gP 2 0 (eA sF) _=_
 rcases hw with h|⟨m,rfl⟩
 ·have e:decide (w.cps.toList[0]? =some 10)=false:=Zd fun h'=>h (ZK h')
  rw [e] at q
  rw [zr6 h]
  generalize sF=G at q|-
  simp! [eA,q,hz']
 ·have e:decide ((nlw m).cps.toList[0]? =some 10)=true:=Zq (by unfold nlw;rw [bZ];rfl)
  rw [e] at q
  have e2:col (t++nlw m)=(nlw m).length-1:=by
   unfold nlw
   rw [yf0 (zl8 m),dL];show _=1+_-1;omega
  have e3:1<=(nlw m).length:=by unfold nlw;rw [dL];show 1<=1+_;omega
  rw [e2]
  generalize sF=G at q|-
  generalize nlw m=w at hz' q e3|-
  simp! [eA,q,hz']
  omega
def cat:List Str->Str
 |[]=>⟨#[]⟩
 |x::xs=>x++cat xs
theorem zr9(t:Str):t++(⟨#[]⟩:Str)=t:=tM (by rw [bZ];simp! [Yr])
theorem yo6(t:Str):(⟨#[]⟩:Str)++t=t:=tM (by rw [bZ];simp! [Yr])
theorem yo7(a b c:Str):(a++b)++c=a++(b++c):=tM (by simp only [bZ,Zl])
theorem xI:∀(ps:List Str) (w:Str),cat (ps++[w])=cat ps++w
 |[],w=>by show w++(⟨#[]⟩:Str)=(⟨#[]⟩:Str)++w;rw [zr9,yo6]
 |x::ps,w=>by show x++cat (ps++[w])=(x++cat ps)++w;rw [xI ps w,yo7]
abbrev nsS:List Str:=["choices","used","column","parts"]
def cI(C:List Int):List D:=C.map .int
theorem zw1(a b:List Int):cI (a++b)=cI a++cI b:=by simp! [cI]
theorem zZ(a:List Int):(cI a).length=a.length:=by simp! [cI]
theorem zm0:∀C:List Int,D.ints (cI C)=some C
 |[]=>rfl
 |c::C=>by show D.ints (.int c::cI C)=_;rw [D.ints,zm0 C];rfl
def stD(C:List Int)(u:Nat)(ps:List Str):D:= .obj true "Setter" nsS [.tup (cI C),.int u,.int (col (cat ps)),.lst true (eY ps)]
theorem iP:∀C,D.imms (cI C)=true
 |[]=>rfl
 |c::C=>by show(D.imm (.int c)&&D.imms (cI C))=true;rw [iP C];rfl
abbrev kY:tz7:=gE 3 1 (bE [true,false,false]) (iZ pU pV)
theorem xp1{C:List Int}{u:Nat}{ps:List Str}{l:Leaf}{b:Bool}{m:Int}{w:Str}(hl:fI l)(h0:0<=m)(h1:m<=200)(hw:wr b m (col (cat ps)) l=some w)(hp:ps.length<=900)(hc:(cat ps).length<=1000000):
  kY [stD C u ps,bC l,aL b m]=some (.non,[stD C u (ps++[w]),bC l,aL b m]):=by
 obtain⟨hW,hz⟩:=zd4 hl h0 h1 hw
 have q1:=zl9 l b m (col (cat ps)) hl h0 h1 (Zt (wh0 _) hc)
 rw [hw] at q1
 have q2:=xg4 (t:=cat ps) hW (by omega)
 have hi:(eY ps).length<sizeLine:=by rw [xf7];exact sz1 (by omega)
 have es:eY (ps++[w])=eY ps++[.str w]:=by rw [xf6];rfl
 show gE 3 1 _ (iZ pU pV) _=_
 unfold stD
 rw [xI,es]
 generalize bC l=dl at q1|-
 generalize aL b m=dp at q1|-
 generalize pU=G1 at q1|-
 generalize pV=G2 at q2|-
 simp only [wrD] at q1
 simp! [iZ,q1,q2,hi]
abbrev pE:tz7:=gE 2 1 (bE [true,false]) jP
theorem pJ{α:Type}{xs:List α}{n:Nat}{v:α}(h:xs[n]? =some v):atI xs (n:Int)=some v:=zp7 h
theorem xp2{C:List Int}{u n:Nat}{c:Int}{ps:List Str}(hc:C[u]? =some c)(h0:0<=c)(h1:c<n):pE [stD C u ps,.int n]=some (.int c,[stD C (u+1) ps,.int n]):=by
 obtain⟨hu,_⟩:=Z5.mp hc
 have hl:(cI C).length=C.length:=Zb _
 have e:atI (cI C) (u:Int)=some (.int c):=pJ (by unfold cI;rw [Ze,hc];rfl)
 have g1:¬((C.length:Int)<=(u:Int)):=by omega
 have g2:¬(c<0):=by omega
 have g3:¬((n:Int)<=c):=by omega
 unfold stD
 simp! [jP,hl,e,g1,g2,g3]
abbrev yI(GR:tz7):tz7:=gE 3 3 (bE [true,false,false]) (iM vA mI pE GR)
theorem zd6{GR:tz7}{p:Pc}{b:Bool}{m:Int}{C:List Int}{u u1 i:Nat}{ps:List Str}{x:List Pc×Bool×Int}{N:D}(hp:nL p=true)(hn:zf0 p<=1000)(hi:(cO b m p)[i]? =some x)
  (hc:(cU b p=true/\C[u]? =some (i:Int)/\u1=u+1)\/(cU b p=false/\i=0/\u1=u)) (hR:GR [stD C u1 ps,.tup (pcsD x.1),aL x.2.1 x.2.2]=some (.non,[N,.tup (pcsD x.1),aL x.2.1 x.2.2])):
  yI GR [stD C u ps,pcD p,aL b m]=some (.non,[N,pcD p,aL b m]):=by
 have q1:=yo5 p b m hp hn
 have q2:=yf1 p b m hp
 have hil:i<((cO b m p).map dZ).length:=by rw [Zb];exact(Z5.mp hi).1
 have e1:atI ((cO b m p).map dZ) (i:Int)=some (dZ x):=pJ (by rw [Ze,hi];rfl)
 have hw:=zd5 x
 have p1:=pcs_imm x.1
 have p2:=qO x.2.1 x.2.2
 generalize hW:(cO b m p).map dZ=W at q1 hil e1
 have st1:∀v ps',stD C v ps'= .obj true "Setter" nsS [.tup (cI C),.int v,.int (col (cat ps')),.lst true (eY ps')]:=fun _ _=>rfl
 have hm:∀v,dX "Setter" "set_row" GR [.tup (pcsD x.1),aL x.2.1 x.2.2] (stD C v ps)=(GR [stD C v ps,.tup (pcsD x.1),aL x.2.1 x.2.2]).bind fun r=>match r.2 with
   |d'::ds=>if ds.length=2 then some (r.1,d') else none
   |[]=>none:=fun v=>by
  rw [st1]
  show(if (("Setter":Str)="Setter"/\cN nsS "set_row"=none) then _ else none)=_
  exact if_pos ⟨rfl,by simp! [Yr]⟩
 have hm1:dX "Setter" "set_row" GR [.tup (pcsD x.1),aL x.2.1 x.2.2] (stD C u1 ps)=some (.non,N):=by rw [hm,hR];rfl
 have body:∀f4:Int,aT (aW 5 (aJ (aX (f2 dIx (aA 3) (aA 4))))) (cX (dI 0 bK (cB [.im (f2 dIx (aA 5) (fC (.int 0))),.im (f2 dIx (aA 5) (fC (.int 1)))]) (dX "Setter" "set_row" GR))) [some (stD C u1 ps),some (pcD p),some (aL b m),some (.lst true W),some (.int (i:Int)),none]=some (.nx,[some N,some (pcD p),some (aL b m),some (.lst true W),some (.int (i:Int)),some (dZ x)]):=fun _=>by
  have s1:aW 5 (aJ (aX (f2 dIx (aA 3) (aA 4)))) [some (stD C u1 ps),some (pcD p),some (aL b m),some (.lst true W),some (.int (i:Int)),none]=some (.nx,[some (stD C u1 ps),some (pcD p),some (aL b m),some (.lst true W),some (.int (i:Int)),some (dZ x)]):=by
   refine bF ?_
   simp! [e1,hw]
  refine(aO s1).trans ?_
  unfold dZ at*
  generalize aL x.2.1 x.2.2=PX at*
  generalize stD C u1 ps=ST at*
  simp! [p1,p2,hm1]
 show gE 3 3 _ (iM vA mI pE GR) _=_
 have s1:aW 3 (aJ (aH vA (aB (aA 1) (aB (aA 2) aE)))) [some (stD C u ps),some (pcD p),some (aL b m),none,none,none]=some (.nx,[some (stD C u ps),some (pcD p),some (aL b m),some (.lst true W),none,none]):=bF (aU (aD rfl (aD rfl rfl)) q1)
 have s2:aW 4 (aJ (fC (.int 0))) [some (stD C u ps),some (pcD p),some (aL b m),some (.lst true W),none,none]=some (.nx,[some (stD C u ps),some (pcD p),some (aL b m),some (.lst true W),some (.int 0),none]):=rfl
 have t1:∀B,cU b p=B->aV (fT (aH mI (aB (aA 1) (aB (aA 2) aE)))) [some (stD C u ps),some (pcD p),some (aL b m),some (.lst true W),some (.int 0),none]=some (B,[some (stD C u ps),some (pcD p),some (aL b m),some (.lst true W),some (.int 0),none]):=fun B hB=>by
  have e:aH mI (aB (aA 1) (aB (aA 2) aE)) [some (stD C u ps),some (pcD p),some (aL b m),some (.lst true W),some (.int 0),none]=some (.bl B):=aU (aD rfl (aD rfl rfl)) (hB▸q2)
  unfold aV fT
  rw [e];rfl
 have s3:fIf (aV (fT (aH mI (aB (aA 1) (aB (aA 2) aE))))) (aW 4 (dI 0 bK (cB [.im (aH dJ (aB (aA 3) aE))]) (dX "Setter" "choice_below" pE))) bO [some (stD C u ps),some (pcD p),some (aL b m),some (.lst true W),some (.int 0),none]=some (.nx,[some (stD C u1 ps),some (pcD p),some (aL b m),some (.lst true W),some (.int (i:Int)),none]):=by
  rcases hc with ⟨hT,hC,rfl⟩|⟨hT,rfl,rfl⟩
  ·refine(zl4 (t1 _ hT)).trans ?_
   have qb:=xp2 (ps:=ps) hC (by omega) (show(i:Int)<(W.length:Nat) by omega)
   have hb:dX "Setter" "choice_below" pE [.int (W.length:Nat)] (stD C u ps)=some (.int (i:Int),stD C (u+1) ps):=by
    have e:dX "Setter" "choice_below" pE [.int (W.length:Nat)] (stD C u ps)=(pE [stD C u ps,.int (W.length:Nat)]).bind fun r=>match r.2 with
      |d'::ds=>if ds.length=1 then some (r.1,d') else none
      |[]=>none:=by
     rw [st1]
     show(if (("Setter":Str)="Setter"/\cN nsS "choice_below"=none) then _ else none)=_
     exact if_pos ⟨rfl,by simp! [Yr]⟩
    rw [e,qb];rfl
   generalize pE=G at hb|-
   generalize stD C u ps=S0 at hb|-
   generalize stD C (u+1) ps=S1 at hb|-
   generalize pcD p=d1
   generalize aL b m=d2
   simp! [hb]
  ·exact(eI (t1 _ hT)).trans rfl
 have z:=(aO s1).trans ((aO s2).trans ((aO s3).trans (body 0)))
 unfold gE
 refine(if_pos rfl).trans ?_
 have z':iM vA mI pE GR ([stD C u ps,pcD p,aL b m].map some++List.replicate 3 none)=some (.nx,[some N,some (pcD p),some (aL b m),some (.lst true W),some (.int (i:Int)),some (dZ x)]):=z
 rw [z']
 rfl
def yJ(GH GPl:tz7):tz1:=
   (fIf (aV (fT (aH kX (aB (aA 3) aE))))
   (cX (dI 0 bK (cB [.im (aA 3),.im (aA 2)]) (dX "Setter" "set_holder" GH)))
   (cX (dI 0 bK (cB [.im (aA 3),.im (aA 2)]) (dX "Setter" "set_plain" GPl))))
theorem zs0{g:tz7}{m:Str}{C:List Int}{u:Nat}{ps:List Str}{d1 d2 N v:D}(hm:cN nsS m=none)(h:g [stD C u ps,d1,d2]=some (v,[N,d1,d2])):dX "Setter" m g [d1,d2] (stD C u ps)=some (v,N):=by
 show(if (("Setter":Str)="Setter"/\cN nsS m=none) then(g [stD C u ps,d1,d2]).bind _ else none)=_
 rw [if_pos ⟨rfl,hm⟩,h];rfl
theorem zd7{GH:tz7}{C:List Int}{u:Nat}{ps:List Str}{p:Pc}{b:Bool}{m:Int}{R:Option D}{N:D}(hp:nL p=true)(h:GH [stD C u ps,pcD p,aL b m]=some (.non,[N,pcD p,aL b m])):
  yJ GH kY [some (stD C u ps),R,some (aL b m),some (pcD p)]=some (.nx,[some N,R,some (aL b m),some (pcD p)]):=by
 have q:=zi0 p
 rw [hp] at q
 have hm:=zs0 (m:="set_holder") (by simp! [Yr]) h
 have i1:=tI p
 have i2:=qO b m
 unfold yJ
 generalize kX=G1 at q|-
 generalize kY=G2
 generalize stD C u ps=S at hm|-
 generalize pcD p=d1 at*
 generalize aL b m=d2 at*
 refine(zl4 (p':=[some S,R,some d2,some d1]) (by simp! [q])).trans ?_
 simp! [i1,i2,hm]
theorem xp3{GH:tz7}{C:List Int}{u:Nat}{ps:List Str}{l:Leaf}{b:Bool}{m:Int}{R:Option D}{N:D}(h:kY [stD C u ps,bC l,aL b m]=some (.non,[N,bC l,aL b m])):
  yJ GH kY [some (stD C u ps),R,some (aL b m),some (bC l)]=some (.nx,[some N,R,some (aL b m),some (bC l)]):=by
 have q:kX [bC l]=some (.bl false):=zi0 (.leaf l)
 have hm:=zs0 (m:="set_plain") (by simp! [Yr]) h
 have i1:=ye7 l
 have i2:=qO b m
 unfold yJ
 generalize kX=G1 at q|-
 generalize kY=G2 at hm|-
 generalize stD C u ps=S at hm|-
 generalize bC l=d1 at*
 generalize aL b m=d2 at*
 refine(eI (p':=[some S,R,some d2,some d1]) (by simp! [q])).trans ?_
 simp! [i1,i2,hm]
def sG:Nat->tz7
 |0=>fun _=>none
 |n+1=>gE 3 1 (bE [true,false,false]) (jS kX (yI (sG n)) kY)
def yK(a l w:Nat):Prop:=a+w<=900/\l+201*w<=1000000
def lM(a a' l l' w:Nat):Prop:=a'<=a+w/\l'<=l+201*w
theorem zd8{a l w w':Nat}(h:yK a l w)(hw:w'<=w):yK a l w':=by unfold yK at*;omega
theorem xJ{a a' l l' w w':Nat}(h:lM a a' l l' w)(hw:w<=w'):lM a a' l l' w':=by unfold lM at*;omega
theorem xg5{a a' l l' v w:Nat}(h:yK a l (v+w))(g:lM a a' l l' v):yK a' l' w:=by unfold yK lM at*;omega
theorem yl2{a a1 a2 l l1 l2 v w:Nat}(g:lM a a1 l l1 v)(h:lM a1 a2 l1 l2 w):lM a a2 l l2 (v+w):=by unfold lM at*;omega
theorem za0{m:Int}{x:Nat}(h:m+12*((x+1:Nat):Int)<=200):m+12*(x:Int)<=200:=by omega
theorem zd9{m:Int}{x y:Nat}(h:m+12*(y:Int)<=200)(hx:x<=y):m+12*(x:Int)<=200:=by omega
theorem xg6{m k:Int}{x:Nat}(h:m+12*((x+1:Nat):Int)<=200)(hk:k<=12):m+k+12*(x:Int)<=200:=by omega
theorem xp4{ps:List Str}{w:Str}(hw:w.length<=201):lM ps.length (ps++[w]).length (cat ps).length (cat (ps++[w])).length 1:=by
 rw [xI,dL,Z3]
 unfold lM
 show _+1<=_/\_
 omega
def yx7(GR:tz7)(r:List Pc):Prop:=∀(b:Bool) (m:Int) (C:List Int) (u:Nat) (ps:List Str) (cs':List Int) (t':Str),0<=m->m+12*depR r<=200->setR b m r (C.drop u) (cat ps)=some (cs',t')->u<=C.length->
 yK ps.length (cat ps).length (toksR r).length->
 ∃u' ps',GR [stD C u ps,.tup (pcsD r),aL b m]=some (.non,[stD C u' ps',.tup (pcsD r),aL b m])/\C.drop u'=cs'/\cat ps'=t'/\u'<=C.length/\lM ps.length ps'.length (cat ps).length (cat ps').length (toksR r).length
theorem zw2{C:List Int}{u:Nat}{c:Int}{cs:List Int}(h:C.drop u=c::cs):C[u]? =some c/\C.drop (u+1)=cs/\u+1<=C.length:=by
 have hu:u<C.length:=by
  rcases Nat.lt_or_ge u C.length with h1|h1
  ·exact h1
  ·rw [List.drop_eq_nil_of_le h1] at h;cases h
 rw [ZP hu] at h
 cases h
 exact⟨Zp hu,rfl,hu⟩
theorem uL:∀{rs:List (List Pc)} {i:Nat} {r:List Pc},rs[i]? =some r->depR r<=depRs rs
 |[],i,_,h=>by simp! [Yr] at h
 |q::rs,0,_,h=>by simp! [Yr] at h;subst h;rw [depRs];omega
 |q::rs,i+1,_,h=>by have:=uL (rs:=rs) (i:=i) (by simpa using h);rw [depRs];omega
theorem xK:∀{rs:List (List Pc)} {i:Nat} {r:List Pc},okRs rs->rs[i]? =some r->okR r
 |[],i,_,_,h=>by simp! [Yr] at h
 |q::rs,0,_,o,h=>by simp! [Yr] at h;subst h;rw [okRs] at o;exact o.1
 |q::rs,i+1,_,o,h=>by rw [okRs] at o;exact xK (rs:=rs) (i:=i) o.2 (by simpa using h)
def zi8(GR:tz7)(p:Pc)(b:Bool)(m:Int)(C:List Int)(u:Nat)(ps:List Str)(cs':List Int)(t':Str)(R:Option D):Prop:=∃u' ps',yJ (yI GR) kY [some (stD C u ps),R,some (aL b m),some (pcD p)]=some (.nx,[some (stD C u' ps'),R,some (aL b m),some (pcD p)])/\C.drop u'=cs'/\cat ps'=t'/\u'<=C.length/\lM ps.length ps'.length (cat ps).length (cat ps').length (cC p).length
theorem xg7{GR:tz7}{p:Pc}{k:Nat}(hG:∀r,depR r<k->okR r->yx7 GR r)(hd:dY p<=k)(ho:okP p){b:Bool}{m:Int}{C:List Int}{u:Nat}{ps:List Str}{cs':List Int}{t':Str}{R:Option D}(h0:0<=m)(h1:m+12*dY p<=200)
  (h:cK b m p (C.drop u) (cat ps)=some (cs',t')) (hu:u<=C.length) (hp:yK ps.length (cat ps).length (cC p).length):zi8 GR p b m C u ps cs' t' R:=by
 cases p with
 | leaf l=>
  rw [cK] at h
  cases e:wr b m (col (cat ps)) l with
  |none=>rw [e] at h;cases h
  |some w=>
   rw [e] at h
   cases h
   have hl:fI l:=ho
   have h1':m<=200:=by rw [dY] at h1;omega
   obtain⟨_,hz⟩:=zd4 hl h0 h1' e
   rw [show(cC (.leaf l)).length=1 from rfl] at hp
   have q:=xp1 (C:=C) (u:=u) hl h0 h1' e (by have:=hp.1;omega) (by have:=hp.2;omega)
   delta zi8
   exact⟨u,ps++[w],xp3 q,rfl,xI ps w,hu,(show(cC (.leaf l)).length=1 from rfl)▸xp4 hz⟩
 | group r=>
  have ho':okR r:=ho
  rw [dY] at hd h1
  have hd':depR r<k:=hd
  have h1':m+12*depR r<=200:=za0 h1
  have ht:(cC (.group r)).length=(toksR r).length+2:=by simp! [cC]
  rw [ht] at hp
  have hp':=zd8 hp (ZV _ 2)
  rw [cK.eq_def] at h
  simp only at h
  cases b with
  |false=>
   simp only [ZS,Yy] at h
   obtain⟨u',ps',q,e1,e2,e3,e4⟩:=hG r hd' ho' false m C u ps cs' t' h0 h1' h hu hp'
   delta zi8
   exact⟨u',ps',zd7 rfl (zd6 (i:=0) (x:=(r,false,m)) rfl (by simp! [zf0]) rfl (.inr ⟨rfl,rfl,rfl⟩) q),e1,e2,e3,ht▸xJ e4 (ZV _ 2)⟩
  | true=>
   cases hC:C.drop u with
   |nil=>rw [hC] at h;simp! [Yr] at h
   | cons c cs=>
    obtain⟨g1,g2,g3⟩:=zw2 hC
    rw [hC] at h
    simp only [Y2] at h
    have go:∀(i:Nat) (bb:Bool),(i:Int)=c->(cO true m (.group r))[i]? =some (r,bb,m)->setR bb m r cs (cat ps)=some (cs',t')->zi8 GR (.group r) true m C u ps cs' t' R:=fun i bb hi hw hs=>by
     rw [<-g2] at hs
     obtain⟨u',ps',q,e1,e2,e3,e4⟩:=hG r hd' ho' bb m C (u+1) ps cs' t' h0 h1' hs g3 hp'
     delta zi8
     exact⟨u',ps',zd7 rfl (zd6 (i:=i) (x:=(r,bb,m)) rfl (by simp! [zf0]) hw (.inl ⟨rfl,by rw [hi];exact g1,rfl⟩) q),e1,e2,e3,ht▸xJ e4 (ZV _ 2)⟩
    by_cases c0:c=0
    ·subst c0
     rw [if_pos rfl] at h
     exact go 0 false rfl rfl h
    ·rw [if_neg c0] at h
     by_cases c1:c=1
     ·subst c1
      rw [if_pos rfl] at h
      exact go 1 true rfl rfl h
     ·rw [if_neg c1] at h;cases h
 |hang n r=>
  have ho':(0<=n/\n<=12)/\okR r:=ho
  rw [dY] at hd h1
  have ht:(cC (.hang n r)).length=(toksR r).length+2:=by simp! [cC]
  rw [ht] at hp
  rw [cK] at h
  obtain⟨u',ps',q,e1,e2,e3,e4⟩:=hG r hd ho'.2 b (m+n) C u ps cs' t' (Int.add_nonneg h0 ho'.1.1) (xg6 h1 ho'.1.2) h hu (zd8 hp (ZV _ 2))
  delta zi8
  exact⟨u',ps',zd7 rfl (zd6 (i:=0) (x:=(r,b,m+n)) rfl (by simp! [zf0]) rfl (.inr ⟨rfl,rfl,rfl⟩) q),e1,e2,e3,ht▸xJ e4 (ZV _ 2)⟩
 | either rs=>
  have ho':(2<=rs.length/\rs.length<=4)/\okRs rs:=ho
  rw [cK.eq_def] at h
  simp only at h
  cases hC:C.drop u with
  |nil=>rw [hC] at h;cases h
  | cons c cs=>
   obtain⟨g1,g2,g3⟩:=zw2 hC
   rw [hC] at h
   simp only at h
   by_cases c0:0<=c
   ·rw [if_pos c0] at h
    cases hr:rs[c.toNat]? with
    |none=>rw [xH hr] at h;cases h
    |some r=>
     rw [qN hr,<-g2] at h
     have hdr:=uL hr
     have hor:=xK ho'.2 hr
     have htr:=vF (ZK hr)
     have ht:(cC (.either rs)).length=(toksRows rs).length+2:=by simp! [cC]
     rw [dY] at hd h1
     rw [ht] at hp
     obtain⟨u',ps',q,e1,e2,e3,e4⟩:=hG r (Y4 hdr hd) hor b m C (u+1) ps cs' t' h0 (zd9 (za0 h1) hdr) h g3 (zd8 hp (Zt htr (ZV _ 2)))
     delta zi8
     refine⟨u',ps',zd7 rfl (zd6 (i:=c.toNat) (x:=(r,b,m)) rfl (Zt ho'.1.2 (by decide)) (by show(rs.map _)[c.toNat]? =_;rw [Ze,hr];rfl) (.inl ⟨rfl,by rw [Int.toNat_of_nonneg c0];exact g1,rfl⟩) q),e1,e2,e3,ht▸xJ e4 (Zt htr (ZV _ 2))⟩
   ·rw [if_neg c0] at h;cases h
theorem yf3{GR:tz7}{k:Nat}(hG:∀r,depR r<k->okR r->yx7 GR r){b:Bool}{m:Int}{C:List Int}{R:Option D}(h0:0<=m):∀(r:List Pc) (u:Nat) (ps:List Str) (cs':List Int) (t':Str) (x:Option D),depR r<=k->okR r->m+12*depR r<=200->
  setR b m r (C.drop u) (cat ps)=some (cs',t')->u<=C.length->yK ps.length (cat ps).length (toksR r).length->
  ∃u' ps' y,dE 3 (yJ (yI GR) kY) (pcsD r) [some (stD C u ps),R,some (aL b m),x]=some (.nx,[some (stD C u' ps'),R,some (aL b m),y])/\C.drop u'=cs'/\cat ps'=t'/\u'<=C.length/\lM ps.length ps'.length (cat ps).length (cat ps').length (toksR r).length
 |[],u,ps,cs',t',x,_,_,_,h,hu,_=>by
  rw [setR] at h;cases h
  exact⟨u,ps,x,rfl,rfl,rfl,hu,⟨Zc _,Zc _⟩⟩
 | p::r,u,ps,cs',t',x,hd,ho,h1,h,hu,hp=>by
  rw [okR] at ho
  rw [depR] at hd h1
  have ht:(toksR (p::r)).length=(cC p).length+(toksR r).length:=by rw [toksR,Z3]
  rw [ht] at hp|-
  rw [setR] at h
  cases e:cK b m p (C.drop u) (cat ps) with
  |none=>rw [e] at h;cases h
  |some s=>
   obtain⟨c1,t1⟩:=s
   rw [e] at h
   obtain⟨u1,ps1,q1,a1,a2,a3,a4⟩:=xg7 (R:=R) hG (Zt (Nat.le_max_left _ _) hd) ho.1 h0 (zd9 h1 (Nat.le_max_left _ _)) e hu (zd8 hp (ZV _ _))
   have h':setR b m r (C.drop u1) (cat ps1)=some (cs',t'):=by rw [a1,a2];exact h
   obtain⟨u2,ps2,y,q2,b1,b2,b3,b4⟩:=yf3 hG h0 r u1 ps1 cs' t' (some (pcD p)) (Zt (Nat.le_max_right _ _) hd) ho.2 (zd9 h1 (Nat.le_max_right _ _)) h' a3 (xg5 hp a4)
   refine⟨u2,ps2,y,?_,b1,b2,b3,yl2 a4 b4⟩
   show dE 3 _ (pcD p::pcsD r) _=_
   rw [dE]
   show((yJ (yI GR) kY [some (stD C u ps),R,some (aL b m),some (pcD p)]).bind _)=_
   rw [q1];exact q2
theorem zs1:∀(n:Nat) (r:List Pc),depR r<n->okR r->yx7 (sG n) r
 |0,_,h,_=>absurd h (Ys _)
 |n+1,r,hd,ho=>fun b m C u ps cs' t' h0 h1 h hu hp=>by
  obtain⟨u',ps',y,q,e1,e2,e3,e4⟩:=yf3 (GR:=sG n) (k:=n) (R:=some (.tup (pcsD r))) (fun s hs hk=>zs1 n s hs hk) h0 r u ps cs' t' none (Nat.le_of_lt_succ hd) ho h1 h hu hp
  refine⟨u',ps',?_,e1,e2,e3,e4⟩
  show gE 3 1 _ (jS kX (yI (sG n)) kY) _=_
  unfold gE
  refine(if_pos rfl).trans ?_
  have z:jS kX (yI (sG n)) kY ([stD C u ps,.tup (pcsD r),aL b m].map some++List.replicate 1 none)=some (.nx,[some (stD C u' ps'),some (.tup (pcsD r)),some (aL b m),y]):=q
  rw [z];rfl
abbrev zo5:tz6:=gP 1 0 kR
theorem yf4:∀ps:List Str,(Str.join "" ps)=cat ps
 |[]=>by decide+kernel
 |[x]=>by show x=x++(⟨#[]⟩:Str);rw [zr9]
 |x::y::r=>by
  have ih:=yf4 (y::r)
  show(x++("":Str))++Str.join "" (y::r)=x++cat (y::r)
  rw [ih,show("":Str)=⟨#[]⟩ from by decide+kernel,zr9]
theorem yo8:∀ps:List Str,(ps.map (·.length)).sum=(cat ps).length
 |[]=>rfl
 |x::ps=>by rw [Z9,List.sum_cons,yo8 ps];show _=(x++cat ps).length;rw [dL]
theorem vR:∀ps:List Str,D.strs (eY ps)=some ps
 |[]=>rfl
 |x::ps=>by show D.strs (.str x::eY ps)=_;rw [D.strs,vR ps];rfl
theorem xp5{C:List Int}{u:Nat}{ps:List Str}(hu:C.length<=u)(hp:ps.length<=1000)(hc:(cat ps).length<=1000000):zo5 [stD C u ps]=some (.str (cat ps)):=by
 have hl:(cI C).length=C.length:=Zb _
 have g:¬((u:Int)<(C.length:Int)):=by omega
 have e:zn6 (.str "") [.lst true (eY ps)]=some (.str (cat ps)):=by
  rw [zn6,vR,Z2,if_pos]
  ·rw [show Txt.join ("":Str) ps=Str.join "" ps from StrLaws.glued_eq_join _ _,yf4]
  ·rw [yo8]
   exact⟨by decide+kernel,by omega⟩
 unfold stD
 simp! [kR,hl,g,e,zn5]
abbrev zo6:tz7:=gE 2 0 (bE [true,false]) pT
theorem wh2(C:List Int):zo6 [.obj true "Setter" [] [],.tup (cI C)]=some (.non,[stD C 0 [],.tup (cI C)]):=by
 have hi:=iP C
 have e:stD C 0 []= .obj true "Setter" nsS [.tup (cI C),.int 0,.int 0,.lst true []]:=rfl
 rw [e]
 simp! [pT,hi]
abbrev xk5(n:Nat):tz6:=gP 2 1 (vL zo6 (sG n) zb8 zo5)
theorem xg8{n:Nat}{r:List Pc}{C:List Int}{t:Str}(hd:depR r<n)(h8:depR r<=16)(ho:okR r)(hl:(toksR r).length<=800)(h:setR true 0 r C ⟨#[]⟩=some ([],t)):xk5 n [.tup (pcsD r),.tup (cI C)]=some (.str t):=by
 obtain⟨u',ps',q,e1,e2,e3,e4,e5⟩:=zs1 n r hd ho true 0 C 0 [] [] t (Yg _) (by omega) h (ZJ _) ⟨by show 0+_<=_;omega,by show 0+_<=_;omega⟩
 have e5':(cat ps').length<=0+201*(toksR r).length:=e5
 have e4':ps'.length<=0+(toksR r).length:=e4
 have hu:C.length<=u':=by
  have:=ZN List.length e1
  rw [Xu] at this
  simp! [Yr] at this;omega
 have w:=xp5 (C:=C) (ps:=ps') hu (by omega) (by omega)
 rw [e2] at w
 have i:=wh2 C
 have f:=yf2
 have hm:=zs0 (m:="set_row") (by simp! [Yr]) q
 have p1:=pcs_imm r
 have p2:=iP C
 have p3:=qO true 0
 have w':zn7 "Setter" "whole_text" (aA 2) [some (.tup (pcsD r)),some (.tup (cI C)),some (stD C u' ps')]=some (stD C u' ps'):=by
  unfold stD
  simp! [Yr]
 show gP 2 1 (vL zo6 (sG n) zb8 zo5) _=_
 generalize zo6=G1 at i|-
 generalize sG n=G2 at hm|-
 generalize zb8=G3 at f|-
 generalize zo5=G4 at w|-
 generalize stD C u' ps'=S1 at*
 generalize stD C 0 []=S0 at*
 generalize aL true 0=pl at*
 have s1:aW 2 (aJ (eZ "Setter" (cB [.im (aA 1)]) G1)) [some (.tup (pcsD r)),some (.tup (cI C)),none]=some (.nx,[some (.tup (pcsD r)),some (.tup (cI C)),some S0]):=by
  refine bF ?_
  simp! [p2,i]
 have s2:cX (dI 2 bK (cB [.im (aA 0),.im (aH G3 aE)]) (dX "Setter" "set_row" G2)) [some (.tup (pcsD r)),some (.tup (cI C)),some S0]=some (.nx,[some (.tup (pcsD r)),some (.tup (cI C)),some S1]):=by
  simp! [p1,p3,f,hm]
 exact jW rfl ((aO s1).trans ((aO s2).trans (cF (aU (aD w' rfl) w))))
def lns(t:Str):List Str:=Txt.split t ⟨#[10]⟩
theorem za1(t:Str):lns t≠[]:=fun z=>by
 have:=split_pos t ⟨#[10]⟩
 rw [show Txt.split t ⟨#[10]⟩=[] from z] at this
 exact absurd this (by decide)
theorem xL(t:Str):∀p∈lns t,(10:Nat)∉p.cps.toList:=StrLaws.split_free _ 10
theorem pO(t:Str):Str.join ⟨#[10]⟩ (lns t)=t:=StrLaws.join_split _ _
theorem yf5{t:Str}{ys:List Str}(hne:ys≠[])(hy:∀p∈ys,(10:Nat)∉p.cps.toList)(e:Str.join ⟨#[10]⟩ ys=t):lns t=ys:=
 ye8 _ _ (za1 t) hne (xL t) hy ((pO t).trans e.symm)
theorem yf6(t:Str):∃xs y,lns t=xs++[y]:=⟨(lns t).dropLast,(lns t).getLast (za1 t),(List.dropLast_concat_getLast _).symm⟩
theorem qP:∀(x:Str) (xs:List Str) (y:Str),Str.join ⟨#[10]⟩ (x::xs++[y])=Str.join ⟨#[10]⟩ (x::xs)++((⟨#[10]⟩:Str)++y)
 |x,[],y=>sO (by rw [ZU,Yq,lU,bZ,bZ];rfl)
 |x,x'::xs,y=>sO (by
  rw [ZU,ZU,lU,bZ,lU,<-ZU,qP x' xs y,bZ]
  simp [bZ])
theorem xg9:∀(xs:List Str) (y w:Str),Str.join ⟨#[10]⟩ (xs++[y++w])=Str.join ⟨#[10]⟩ (xs++[y])++w
 |[],y,w=>rfl
 |x::xs,y,w=>sO (by
  rw [qP,qP]
  simp [bZ])
theorem yo9{t w y:Str}{xs:List Str}(h:lns t=xs++[y])(hw:(10:Nat)∉w.cps.toList):lns (t++w)=xs++[y++w]:=by
 have hf:=xL t
 rw [h] at hf
 refine yf5 (by simp) (fun p hp=> ?_) (by rw [xg9,<-h,pO])
 rcases Zn.mp hp with z|z
 ·exact hf p (Zi _ z)
 ·rw [Za.mp z,bZ]
  exact fun m=>(Zn.mp m).elim (hf y (by simp)) hw
theorem xh0{t w:Str}(hw:(10:Nat)∉w.cps.toList):lns (t++((⟨#[10]⟩:Str)++w))=lns t++[w]:=by
 obtain⟨x,xs,h⟩:=List.exists_cons_of_ne_nil (za1 t)
 refine yf5 (by simp) (fun p hp=> ?_) ?_
 ·rcases Zn.mp hp with z|z
  ·exact xL t p z
  ·rw [Za.mp z];exact hw
 ·rw [h,qP,<-h,pO]
theorem yf7{t y:Str}{xs:List Str}(h:lns t=xs++[y]):col t=y.length:=by
 have hf:=xL t
 rw [h] at hf
 have hy:=hf y (by simp)
 cases xs with
 |nil=>
  have e:y=t:=by have:=pO t;rw [h] at this;exact this
  have:=zr6 (t:=⟨#[]⟩) hy
  rw [yo6] at this
  rw [<-e,this]
  show 0+_=_
  omega
 |cons x xs=>
  have:=pO t
  rw [h,qP] at this
  rw [<-this,yf0 hy]
def zs8(W:Int)(ls:List Str):Int:=(ls.map fun l=>(W-(l.length:Int))*(W-(l.length:Int))).sum
def kA(W:Int)(t:Str)(k:Nat)(ln rg:Int):Prop:=∃xs y,lns t=xs++[y]/\(∀l∈xs++[y],((l:Str).length:Int)<=W)/\k=y.length/\ln=(xs.length:Int)+1/\rg=zs8 W xs
theorem kA.col{W:Int}{t:Str}{k:Nat}{ln rg:Int}(h:kA W t k ln rg):My.col t=k:=by
 obtain⟨xs,y,h1,_,h3,_⟩:=h
 rw [yf7 h1,h3]
theorem zi2{W:Int}(h:0<=W):kA W ⟨#[]⟩ 0 1 0:=⟨[],⟨#[]⟩,yf5 (by simp) (fun p hp=>by rw [Za.mp hp];simp) rfl,fun l hl=>by
 rw [Yq] at hl
 rw [Za.mp hl];exact h,rfl,rfl,rfl⟩
theorem xp6{W:Int}{t w:Str}{k:Nat}{ln rg:Int}(h:kA W t k ln rg)(hw:(10:Nat)∉w.cps.toList)(hk:((k+w.length:Nat):Int)<=W):kA W (t++w) (k+w.length) ln rg:=by
 obtain⟨xs,y,h1,h2,h3,h4,h5⟩:=h
 refine⟨xs,y++w,yo9 h1 hw,fun l hl=> ?_,by rw [dL,h3],h4,h5⟩
 rcases Zn.mp hl with z|z
 ·exact h2 l (Zi _ z)
 ·rw [Za.mp z,dL,<-h3];exact hk
theorem yp0{W:Int}{t:Str}{k:Nat}{ln rg m:Int}(h:kA W t k ln rg)(h0:0<=m)(hm:m<=W):kA W (t++nlw m) m.toNat (ln+1) (rg+(W-(k:Int))*(W-(k:Int))):=by
 obtain⟨xs,y,h1,h2,h3,h4,h5⟩:=h
 refine⟨xs++[y],Txt.mul " " m,?_,fun l hl=> ?_,by rw [lB],by rw [Z3,h4];simp,?_⟩
 ·unfold nlw
  rw [xh0 (zl8 m),h1]
 ·rcases Zn.mp hl with z|z
  ·exact h2 l z
  ·rw [Za.mp z,lB];omega
 ·unfold zs8
  rw [Y9,List.sum_append,h5,h3]
  simp [zs8]
abbrev Way:=(Int×Int)×List Int
abbrev Frt:=List (Nat×Way)
def ltW(x y:Way):Bool:=L2.zb1 [[x.1.1,x.1.2],x.2] [[y.1.1,y.1.2],y.2]
def mJ:Frt->Nat->Option Way
 |[],_=>none
 |p::F,j=>if p.1=j then some p.2 else mJ F j
def mK:Frt->Nat->Way->Frt
 |[],_,_=>[]
 |p::F,j,y=>(if p.1=j then(p.1,y) else p)::mK F j y
def iF(F:Frt)(k:Nat)(x:Way):Frt:=match mJ F k with
 |none=>F++[(k,x)]
 |some y=>if ltW x y=true then mK F k x else F
def kB(F G:Frt):Frt:=G.foldl (fun F p=>iF F p.1 p.2) F
def yj3(n:Int)(p:Nat×Way):Nat×Way:=(p.1,(p.2.1,p.2.2++[n]))
def kS(F:Frt)(n:Int):Frt:=kB [] (F.map (yj3 n))
def lfB(w:Str):Bool:=decide (w.cps.toList[0]? =some 10)
def jL(W:Int)(b:Bool)(m:Int)(l:Leaf)(k:Nat)(c:Int×Int):Option (Nat×(Int×Int)):=(wr b m k l).bind fun w=>
 if W<((if lfB w=true then w.length-1 else k+w.length:Nat):Int) then none
 else some (if lfB w=true then w.length-1 else k+w.length,if lfB w=true then(c.1+1,c.2+(W-(k:Int))*(W-(k:Int))) else c)
def kC(W:Int)(b:Bool)(m:Int)(l:Leaf)(F G:Frt):Frt:=F.foldl (fun G p=>match jL W b m l p.1 p.2.1 with
 |none=>G
 |some s=>iF G s.1 (s.2,p.2.2)) G
def frW(GR:Bool->Int->List Pc->Frt->Frt)(tk:Bool)(F:Frt):Nat->List (List Pc×Bool×Int)->Frt->Frt
 |_,[],A=>A
 |n,x::xs,A=>frW GR tk F (n+1) xs (kB A (GR x.2.1 x.2.2 x.1 (if tk=true then kS F n else F)))
def frP(W:Int)(GR:Bool->Int->List Pc->Frt->Frt)(b:Bool)(m:Int)(F:Frt):Pc->Frt
 | .leaf l=>kC W b m l F []
 |p=>frW GR (cU b p) F 0 (cO b m p) []
def frN(W:Int):Nat->Bool->Int->List Pc->Frt->Frt
 |0,_,_,_,F=>F
 |n+1,b,m,r,F=>r.foldl (fun F p=>frP W (frN W n) b m F p) F
def Hit(W:Int)(R:List Int->Str->Prop)(p:Nat×Way):Prop:=∃t,R p.2.2 t/\kA W t p.1 p.2.1.1 p.2.1.2
structure Good(W:Int)(R:List Int->Str->Prop)(F:Frt):Prop where
 nd:(F.map (·.1)).Nodup
 hit:∀p∈F,Hit W R p
theorem Good.nil{W:Int}{R:List Int->Str->Prop}:Good W R []:=⟨Zm,fun _ h=>nomatch h⟩
theorem Good.mono{W:Int}{R R':List Int->Str->Prop}{F:Frt}(h:Good W R F)(k:∀c t,R c t->R' c t):Good W R' F:=⟨h.nd,fun p hp=>by
 obtain⟨t,h1,h2⟩:=h.hit p hp
 exact⟨t,k _ _ h1,h2⟩⟩
theorem za2:∀{F:Frt} {k:Nat},mJ F k=none->k∉F.map (·.1)
 |[],_,_=>by simp
 | p::F,k,h=>by
  rw [mJ] at h
  by_cases e:p.1=k
  ·rw [if_pos e] at h;cases h
  ·rw [if_neg e] at h
   simp only [Z9,Z4,not_or]
   exact⟨fun z=>e z.symm,za2 h⟩
theorem uM:∀(F:Frt) (k:Nat) (y:Way),(mK F k y).map (·.1)=F.map (·.1)
 |[],_,_=>rfl
 |p::F,k,y=>by
  rw [mK,Z9,Z9,uM F]
  by_cases e:p.1=k
  ·rw [if_pos e]
  ·rw [if_neg e]
theorem yf8:∀{F:Frt} {k:Nat} {y:Way} {p:Nat×Way},p∈mK F k y->p=(k,y)\/p∈F
 |[],_,_,_,h=>by cases h
 | q::F,k,y,p,h=>by
  rw [mK] at h
  rcases Z4.mp h with e|e
  ·by_cases z:q.1=k
   ·rw [if_pos z,z] at e;exact .inl e
   ·rw [if_neg z] at e;exact .inr (by rw [e];exact Z0)
  ·exact(yf8 e).imp id (Z1 _)
theorem zw3{W:Int}{R:List Int->Str->Prop}{F:Frt}{k:Nat}{x:Way}(h:Good W R F)(hx:Hit W R (k,x)):Good W R (iF F k x):=by
 unfold iF
 cases e:mJ F k with
 | none=>
  simp only
  refine⟨?_,fun p hp=> ?_⟩
  ·rw [Y9,ZC]
   refine⟨h.nd,by simp,fun a ha b hb z=> ?_⟩
   simp only [Z9,Xo,Za] at hb
   subst hb
   subst z
   exact za2 e ha
  ·rcases Zn.mp hp with z|z
   ·exact h.hit p z
   ·rw [Za.mp z];exact hx
 | some y=>
  simp only
  by_cases c:ltW x y=true
  ·rw [if_pos c]
   refine⟨by rw [uM];exact h.nd,fun p hp=> ?_⟩
   rcases yf8 hp with z|z
   ·rw [z];exact hx
   ·exact h.hit p z
  ·rw [if_neg c];exact h
theorem vG{W:Int}{R:List Int->Str->Prop}:∀{G F:Frt},Good W R F->(∀p∈G,Hit W R p)->Good W R (kB F G)
 |[],F,h,_=>h
 |p::G,F,h,hG=>vG (G:=G) (zw3 h (hG p Z0)) fun q hq=>hG q (Z1 _ hq)
def ya0(R:List Int->Str->Prop)(n:Int):List Int->Str->Prop:=fun cs t=>∃c0,R c0 t/\cs=c0++[n]
theorem xM{W:Int}{R:List Int->Str->Prop}{F:Frt}(h:Good W R F)(n:Int):Good W (ya0 R n) (kS F n):=vG .nil fun p hp=>by
 obtain⟨q,hq,rfl⟩:=Ya.mp hp
 obtain⟨t,h1,h2⟩:=h.hit q hq
 exact⟨t,⟨_,h1,rfl⟩,h2⟩
def Aft(R:List Int->Str->Prop)(set:List Int->Str->Option (List Int×Str)):List Int->Str->Prop:=fun cs t=>∃c0 t0 c1,R c0 t0/\cs=c0++c1/\set c1 t0=some ([],t)
theorem xh1(m:Int):lfB (nlw m)=true:=by
 unfold lfB nlw
 rw [bZ]
 exact Zq rfl
theorem xu1{w:Str}(h:(10:Nat)∉w.cps.toList):lfB w=false:=by
 unfold lfB
 refine Zd fun e=>h (ZK e)
theorem yp1(m:Int):(nlw m).length-1=m.toNat:=by
 unfold nlw
 rw [dL,lB]
 show 1+m.toNat-1=_
 omega
theorem xp7{W:Int}{b:Bool}{m:Int}{l:Leaf}{k:Nat}{c:Int×Int}{s:Nat×(Int×Int)}{t:Str}(hl:fI l)(h0:0<=m)(h1:m<=200)(hc:kA W t k c.1 c.2)(h:jL W b m l k c=some s):∃w,wr b m (col t) l=some w/\kA W (t++w) s.1 s.2.1 s.2.2:=by
 unfold jL at h
 rw [hc.col]
 cases e:wr b m k l with
 |none=>rw [e] at h;cases h
 | some w=>
  rw [e,Z2] at h
  refine⟨w,rfl,?_⟩
  rcases(zd4 hl h0 h1 e).1 with hw|⟨m',hw⟩
  ·rw [xu1 hw] at h
   simp only [ZS,Yy] at h
   by_cases z:W<((k+w.length:Nat):Int)
   ·rw [if_pos z] at h;cases h
   ·rw [if_neg z] at h
    cases h
    exact xp6 hc hw (by omega)
  ·subst hw
   rw [xh1] at h
   simp only [Y2] at h
   rw [yp1] at h
   by_cases z:W<((m'.toNat:Nat):Int)
   ·rw [if_pos z] at h;cases h
   ·rw [if_neg z] at h
    cases h
    by_cases hm:0<=m'
    ·exact yp0 hc hm (by omega)
    ·have e0:nlw m'=nlw 0:=by unfold nlw;rw [sO (x:=Txt.mul " " m') (y:=Txt.mul " " 0) (by rw [xG,xG];congr 1;omega)]
     have:=yp0 hc (m:=0) (Yg _) (by omega)
     rw [e0,show m'.toNat=(0:Int).toNat by omega]
     exact this
theorem zm1{W:Int}{R:List Int->Str->Prop}{b:Bool}{m:Int}{l:Leaf}(hl:fI l)(h0:0<=m)(h1:m<=200):∀{F G:Frt},(∀p∈F,Hit W R p)->Good W (Aft R (cK b m (.leaf l))) G->Good W (Aft R (cK b m (.leaf l))) (kC W b m l F G)
 |[],G,_,hG=>hG
 | p::F,G,hF,hG=>by
  have key:Good W (Aft R (cK b m (.leaf l))) (match jL W b m l p.1 p.2.1 with|none=>G|some s=>iF G s.1 (s.2,p.2.2)):=by
   cases e:jL W b m l p.1 p.2.1 with
   |none=>exact hG
   |some s=>
    obtain⟨t,r1,r2⟩:=hF p Z0
    obtain⟨w,e1,e2⟩:=xp7 hl h0 h1 r2 e
    exact zw3 (x:=(s.2,p.2.2)) hG ⟨t++w,⟨_,t,[],r1,by simp,by rw [cK,e1];rfl⟩,e2⟩
  exact zm1 (F:=F) hl h0 h1 (fun q hq=>hF q (Z1 _ hq)) key
theorem wa4{b:Bool}{m:Int}{p:Pc}{i:Nat}{x:List Pc×Bool×Int}(hx:(cO b m p)[i]? =some x)(c:List Int)(t:Str):cK b m p ((if cU b p=true then [(i:Int)] else [])++c) t=setR x.2.1 x.2.2 x.1 c t:=by
 cases p with
 |leaf l=>simp [cO] at hx
 | group r=>
  rw [cK.eq_def]
  cases b with
  | false=>
   have e:i=0:=by
    cases i with
    |zero=>rfl
    |succ i=>simp [cO] at hx
   subst e
   simp [cO] at hx
   subst hx
   simp [cU]
  |true=>
   match i,hx with
   |0,hx=>simp [cO] at hx;subst hx;simp [cU]
   |1,hx=>simp [cO] at hx;subst hx;simp [cU]
   |i+2,hx=>simp [cO] at hx
 | hang n r=>
  have e:i=0:=by
   cases i with
   |zero=>rfl
   |succ i=>simp [cO] at hx
  subst e
  simp [cO] at hx
  subst hx
  simp [cU,cK]
 |either rs=>
  have hx':(rs.map fun r=>(r,b,m))[i]? =some x:=hx
  rw [Ze] at hx'
  obtain⟨r,hr,rfl⟩:=Zr.mp hx'
  rw [cK.eq_def]
  simp only [cU,Y2,ZU,Yq]
  rw [if_pos (by omega)]
  exact qN (by simpa using hr)
def pW(W:Int)(GR:Bool->Int->List Pc->Frt->Frt)(r:List Pc):Prop:=∀(b:Bool) (m:Int) (R:List Int->Str->Prop) (F:Frt),0<=m->m+12*depR r<=200->Good W R F->Good W (Aft R (setR b m r)) (GR b m r F)
theorem zw4{W:Int}{GR:Bool->Int->List Pc->Frt->Frt}{R:List Int->Str->Prop}{b:Bool}{m:Int}{p:Pc}{F:Frt}(hF:Good W R F):∀(xs:List (List Pc×Bool×Int)) (n:Nat) (A:Frt),(∀(i:Nat) x,xs[i]? =some x->(cO b m p)[n+i]? =some x)->(∀x∈xs,0<=x.2.2/\x.2.2+12*depR x.1<=200/\pW W GR x.1)->
  Good W (Aft R (cK b m p)) A->Good W (Aft R (cK b m p)) (frW GR (cU b p) F n xs A)
 |[],n,A,_,_,hA=>hA
 | x::xs,n,A,hi,hx,hA=>by
  rw [frW]
  refine zw4 hF xs (n+1) _ (fun i y hy=>by have:=hi (i+1) y (by simpa using hy);rwa [show n+1+i=n+(i+1) by omega]) (fun y hy=>hx y (Z1 _ hy)) (vG hA ?_)
  obtain⟨h0,h1,hG⟩:=hx x Z0
  have hw:=fun c t=>wa4 (hi 0 x rfl) c t
  rw [Xq] at hw
  by_cases tk:cU b p=true
  ·rw [if_pos tk]
   simp only [tk,Y2] at hw
   intro q hq
   obtain⟨t,⟨c0,t0,c1,⟨c,r1,rfl⟩,e1,e2⟩,hc⟩:=(hG x.2.1 x.2.2 _ _ h0 h1 (xM hF n)).hit q hq
   exact⟨t,⟨c,t0,n::c1,r1,by rw [e1];simp,by rw [<-e2,<-hw];rfl⟩,hc⟩
  ·rw [if_neg tk]
   simp only [tk,ZS,Yy,Yq] at hw
   intro q hq
   obtain⟨t,⟨c0,t0,c1,r1,e1,e2⟩,hc⟩:=(hG x.2.1 x.2.2 _ _ h0 h1 hF).hit q hq
   exact⟨t,⟨c0,t0,c1,r1,e1,by rw [<-e2,<-hw]⟩,hc⟩
theorem zi3{b:Bool}{m:Int}{p:Pc}{x:List Pc×Bool×Int}{k:Nat}(ho:okP p)(h0:0<=m)(h1:m+12*dY p<=200)(hk:dY p<=k)(hx:x∈cO b m p):0<=x.2.2/\x.2.2+12*depR x.1<=200/\depR x.1<k/\okR x.1:=by
 cases p with
 |leaf l=>simp [cO] at hx
 | group r=>
  rw [dY] at h1 hk
  have hr:okR r:=ho
  have:x.1=r/\x.2.2=m:=by
   cases b<;>simp [cO] at hx
   ·subst hx;exact⟨rfl,rfl⟩
   ·rcases hx with e|e<;>subst e<;>exact⟨rfl,rfl⟩
  rw [this.1,this.2]
  exact⟨h0,by omega,by omega,hr⟩
 |hang n r=>
  rw [dY] at h1 hk
  have hr:(0<=n/\n<=12)/\okR r:=ho
  simp [cO] at hx
  subst hx
  exact⟨by show 0<=m+n;omega,by show m+n+12*(depR r:Int)<=200;omega,by show depR r<k;omega,hr.2⟩
 |either rs=>
  rw [dY] at h1 hk
  have hr:(2<=rs.length/\rs.length<=4)/\okRs rs:=ho
  obtain⟨r,hm,rfl⟩:=Ya.mp (show x∈rs.map fun r=>(r,b,m) from hx)
  obtain⟨i,hi⟩:=Xa hm
  have:=uL hi
  exact⟨h0,by show m+12*(depR r:Int)<=200;omega,by show depR r<k;omega,xK hr.2 hi⟩
theorem xN{W:Int}{GR:Bool->Int->List Pc->Frt->Frt}{k:Nat}(hG:∀r,depR r<k->okR r->pW W GR r){R:List Int->Str->Prop}{b:Bool}{m:Int}{p:Pc}{F:Frt}(hk:dY p<=k)(ho:okP p)(h0:0<=m)(h1:m+12*dY p<=200)(hF:Good W R F):Good W (Aft R (cK b m p)) (frP W GR b m F p):=by
 have hold:Good W (Aft R (cK b m p)) (frW GR (cU b p) F 0 (cO b m p) []):=zw4 hF _ 0 [] (fun i x h=>by rwa [YM]) (fun x hx=>by
  obtain⟨a1,a2,a3,a4⟩:=zi3 ho h0 h1 hk hx
  exact⟨a1,a2,hG x.1 a3 a4⟩) .nil
 cases p with
 |leaf l=>exact zm1 ho h0 (by rw [dY] at h1;omega) hF.hit .nil
 |group r=>exact hold
 |hang n r=>exact hold
 |either rs=>exact hold
theorem zw5{W:Int}{GR:Bool->Int->List Pc->Frt->Frt}{k:Nat}(hG:∀r,depR r<k->okR r->pW W GR r){b:Bool}{m:Int}(h0:0<=m):∀{r:List Pc} {R:List Int->Str->Prop} {F:Frt},depR r<=k->okR r->m+12*depR r<=200->Good W R F->Good W (Aft R (setR b m r)) (r.foldl (fun F p=>frP W GR b m F p) F)
 |[],R,F,_,_,_,hF=>hF.mono fun c t h=>⟨c,t,[],h,by simp,by rw [setR]⟩
 |p::r,R,F,hk,ho,h1,hF=>by
  rw [depR] at hk h1
  have hp:=xN hG (b:=b) (show dY p<=k by omega) ho.1 h0 (by omega) hF
  refine(zw5 hG h0 (r:=r) (by omega) ho.2 (by omega) hp).mono fun c t=> ?_
  rintro⟨c0,t0,c2,⟨d0,s0,c1,r1,rfl,e1⟩,rfl,e2⟩
  refine⟨d0,s0,c1++c2,r1,by simp,?_⟩
  rw [setR,uK c2 e1]
  exact e2
theorem xO{W:Int}:∀(n:Nat) (r:List Pc),depR r<n->okR r->pW W (frN W n) r
 |0,_,h,_=>absurd h (Ys _)
 |n+1,r,h,ho=>fun b m R F h0 h1 hF=>by
  rw [frN]
  exact zw5 (fun q h1 h2=>xO n q h1 h2) h0 (by omega) ho h1 hF
theorem xP{W:Int}{n:Nat}{r:List Pc}(hW:0<=W)(hd:depR r<n)(ho:okR r)(h1:12*(depR r:Int)<=200):Good W (fun cs t=>setR true 0 r cs ⟨#[]⟩=some ([],t)) (frN W n true 0 r [(0,((1,0),[]))]):=by
 have g0:Good W (fun cs t=>cs=[]/\t=⟨#[]⟩) [(0,((1,0),[]))]:=⟨by simp,fun p hp=>by
  rw [Za.mp hp];exact⟨_,⟨rfl,rfl⟩,zi2 hW⟩⟩
 refine(xO n r hd ho true 0 _ _ (Yg _) (by omega) g0).mono fun c t=> ?_
 rintro⟨c0,t0,c1,⟨rfl,rfl⟩,rfl,e⟩
 exact e
abbrev nsF:List Str:=["steps","best"]
def bW(W:Int):D:= .obj false "WithinWidth" ["width"] [.int W]
def wyD(x:Way):D:= .tup [.tup [.int x.1.1,.int x.1.2],.tup (cI x.2)]
def dC(F:Frt):List Key:=F.map fun p=> .inl (p.1:Int)
def dP(F:Frt):List D:=F.map fun p=>wyD p.2
def aI(o:Bool)(W:Int)(F:Frt):D:= .obj o "Front" nsF [bW W,.dic o (dC F) (dP F)]
theorem tN(x:Way):(wyD x).imm=true:=by
 have:=iP x.2
 simp! [lD,gW,D.key,sC,qB,sB,wyD,this]
theorem tR:∀F:Frt,D.imms (dP F)=true
 |[]=>rfl
 |p::F=>by
  show(D.imm (wyD p.2)&&D.imms (dP F))=true
  rw [tN,tR F];rfl
theorem za3(W:Int)(F:Frt):(aI false W F).imm=true:=by
 have:=tR F
 simp! [lD,gW,D.key,sC,qB,sB,aI,bW,this]
theorem xp8(F:Frt):(dC F).length=F.length:=Zb _
theorem rY:∀(F:Frt) (k:Nat),oU (dC F) (dP F) (.inl (k:Int))=(mJ F k).map wyD
 |[],_=>rfl
 |p::F,k=>by
  show oU (.inl (p.1:Int)::dC F) (wyD p.2::dP F) _=_
  rw [oU,mJ]
  by_cases e:p.1=k
  ·rw [if_pos e,if_pos (by rw [e])];rfl
  ·rw [if_neg e,if_neg (fun z=>e (by have:=Wh z;omega)),rY F k]
theorem zm2:∀(F:Frt) (k:Nat) (x:Way),yE (dC F) (dP F) (.inl (k:Int)) (wyD x)=dP (mK F k x)
 |[],_,_=>rfl
 |p::F,k,x=>by
  show yE (.inl (p.1:Int)::dC F) (wyD p.2::dP F) _ _=_
  rw [yE,zm2 F,mK]
  by_cases e:p.1=k
  ·rw [if_pos e,if_pos (by rw [e])];rfl
  ·rw [if_neg e,if_neg (fun z=>e (by have:=Wh z;omega))];rfl
theorem xh2(F:Frt)(k:Nat)(x:Way):dC (mK F k x)=dC F:=by
 unfold dC
 have:=ZN (List.map fun(k:Nat)=>(Sum.inl (k:Int):Key)) (uM F k x)
 rw [YA,YA] at this
 exact this
theorem wa5(x y:Way):yi4 (wyD x) (wyD y)=some (.bl (ltW x y)):=by
 unfold wyD yi4 ltW
 simp! [lD,gW,D.key,sC,qB,sB,D.intss,D.ints,zm0]
abbrev mL:tz7:=gE 2 0 (bE [true,false]) rO
theorem wh3(W:Int):mL [.obj true "Front" [] [],bW W]=some (.non,[aI true W [],bW W]):=by
 have e:aI true W []= .obj true "Front" nsF [bW W,.dic true [] []]:=rfl
 have h:(bW W).imm=true:=rfl
 rw [e]
 generalize bW W=w at h|-
 simp! [lD,gW,D.key,sC,qB,sB,rO,h]
theorem xQ{p:PSt}{f:tz2}{W:Int}(h:f p=some (bW W)):eZ "Front" (cB [.im f]) mL p=some (aI true W []):=by
 have hi:(bW W).imm=true:=rfl
 have i:=wh3 W
 generalize mL=G at i|-
 generalize aI true W []=X at i|-
 generalize bW W=w at h hi i|-
 unfold eZ
 rw [eL h hi jO,Z2,i]
 rfl
abbrev nQ:tz7:=gE 3 0 (bE [true,false,false]) mH
theorem wh4{W:Int}{F:Frt}{k:Nat}{x:Way}(hl:F.length<=900):nQ [aI true W F,.int (k:Int),wyD x]=some (.non,[aI true W (iF F k x),.int (k:Int),wyD x]):=by
 have g:=rY F k
 have hx:=tN x
 have hv:=tR F
 have hz:(dC F).length<sizeLine:=by rw [xp8];exact sz1 (by omega)
 unfold iF
 cases e:mJ F k with
 | none=>
  rw [e] at g
  have e1:aI true W (F++[(k,x)])= .obj true "Front" nsF [bW W,.dic true (dC F++[.inl (k:Int)]) (dP F++[wyD x])]:=by
   unfold aI dC dP
   rw [Y9,Y9];rfl
  simp only
  rw [e1]
  unfold aI
  generalize dC F=ks at*
  generalize dP F=vs at*
  generalize wyD x=X at*
  generalize bW W=w at*
  simp only [Option.map_none] at g
  simp! [lD,gW,D.key,sC,qB,sB,mH,g,hx,hv,hz]
 | some y=>
  rw [e] at g
  have l:=wa5 x y
  have pv:=zm2 F k x
  have ks:=xh2 F k x
  simp only [Option.map_some] at g
  by_cases c:ltW x y=true
  ·rw [c] at l
   simp only [c,Y2]
   have e1:aI true W (mK F k x)= .obj true "Front" nsF [bW W,.dic true (dC F) (dP (mK F k x))]:=by unfold aI;rw [ks]
   rw [e1,<-pv]
   unfold aI
   generalize dC F=ks at*
   generalize dP F=vs at*
   generalize wyD x=X at*
   generalize wyD y=Y at*
   generalize bW W=w at*
   simp! [lD,gW,D.key,sC,qB,sB,mH,g,hx,hv,hz,l]
  ·rw [Xx] at c
   rw [c] at l
   simp only [c,ZS,Yy]
   unfold aI
   generalize dC F=ks at*
   generalize dP F=vs at*
   generalize wyD x=X at*
   generalize wyD y=Y at*
   generalize bW W=w at*
   simp! [lD,gW,D.key,sC,qB,sB,mH,g,hx,hv,hz,l]
theorem xh3{g:tz7}{m:Str}{W:Int}{F:Frt}{ys:List D}{N v:D}(hm:cN nsF m=none)(h:g (aI true W F::ys)=some (v,N::ys)):dX "Front" m g ys (aI true W F)=some (v,N):=by
 show(if (("Front":Str)="Front"/\cN nsF m=none) then(g (aI true W F::ys)).bind _ else none)=_
 rw [if_pos ⟨rfl,hm⟩,h]
 show(if ys.length=ys.length then some (v,N) else none)=_
 rw [if_pos rfl]
theorem yf9:∀(F:Frt) (k:Nat) (x:Way),(mK F k x).length=F.length
 |[],_,_=>rfl
 |p::F,k,x=>by rw [mK,Z6,Z6,yf9 F]
theorem xR(F:Frt)(k:Nat)(x:Way):(iF F k x).length<=F.length+1:=by
 unfold iF
 cases mJ F k with
 |none=>simp
 |some y=>
  simp only
  split
  ·rw [yf9];omega
  ·omega
theorem zm3:∀(G F:Frt),(kB F G).length<=F.length+G.length
 |[],F=>Zc _
 |p::G,F=>by
  have h1:=zm3 G (iF F p.1 p.2)
  have h2:=xR F p.1 p.2
  show(kB (iF F p.1 p.2) G).length<=_
  rw [Z6];omega
theorem lW:∀{F:Frt} {p:Nat×Way},(F.map (·.1)).Nodup->p∈F->mJ F p.1=some p.2
 |[],_,_,h=>by cases h
 | q::F,p,nd,h=>by
  rw [Z9,Zs] at nd
  rw [mJ]
  rcases Z4.mp h with e|e
  ·rw [e,if_pos rfl]
  ·rw [if_neg (fun z=>nd.1 (by rw [z];exact Yf e))]
   exact lW nd.2 e
theorem xS{p:PSt}{f:tz2}{o:Bool}{W:Int}{F:Frt}(h:f p=some (aI o W F)):cH "Front" "best" f p=some (.dic o (dC F) (dP F)):=by
 unfold cH
 rw [h,Z2]
 unfold aI
 generalize bW W=w
 simp [yi2,cN,fV]
theorem uN{p:PSt}{f:tz2}{o:Bool}{W:Int}{F:Frt}(h:f p=some (aI o W F)):cH "Front" "steps" f p=some (bW W):=by
 unfold cH
 rw [h,Z2]
 unfold aI
 generalize bW W=w
 simp [yi2,cN,fV]
def zo7(F:Frt):List D:=F.map fun q=> .int (q.1:Int)
theorem xh4(F:Frt):(dC F).map yx3=zo7 F:=by
 unfold dC zo7
 rw [YA];rfl
theorem yp2(F:Frt):(D.dic false (dC F) (dP F)).imm=true:=by
 have:=tR F
 simp [D.imm,this]
theorem zs2{p:PSt}{f:tz2}{W:Int}{F:Frt}(h:f p=some (aI false W F)):wK (aX (cH "Front" "best" f)) p=some (zo7 F):=by
 unfold wK
 rw [cL (xS h) (yp2 F),Z2,<-xh4];rfl
theorem yg0{p:PSt}{f g:tz2}{W:Int}{F:Frt}{k:Nat}{x:Way}(h:f p=some (aI false W F))(hg:g p=some (.int (k:Int)))(hx:mJ F k=some x):f2 gW (cH "Front" "best" f) g p=some (wyD x):=by
 refine aQ (xS h) hg ?_
 show(some (Sum.inl (k:Int):Key)).bind _=_
 rw [Z2,rY,hx];rfl
theorem yp3{j:Nat}{g:tz3}{h:List D->D->Option (D×D)}{p:PSt}{d0 d0' r:D}{ys:List D}(h0:p[j]? =some (some d0))(hg:g p=some ys)(hh:h ys d0=some (r,d0')):dI j bK g h p=some (r,p.set j (some d0')):=by
 unfold dI bK
 rw [h0]
 simp only [YY,Z2,hg,fY,hh]
theorem ze0{j:Nat}{p:PSt}{f g:tz2}{W:Int}{F:Frt}{k:Nat}{x:Way}(h0:p[j]? =some (some (aI true W F)))(hf:f p=some (.int (k:Int)))(hg:g p=some (wyD x))(hl:F.length<=900):
  cX (dI j bK (cB [.im f,.im g]) (dX "Front" "add" nQ)) p=some (.nx,p.set j (some (aI true W (iF F k x)))):=
 tK (yp3 h0 (eL hf rfl (eL hg (tN x) jO)) (xh3 (by simp [cN,fV]) (wh4 hl)))
theorem ze1{i N:Nat}{f:tz1}(S:Nat->Frt->PSt->Prop)(st:Frt->Nat×Way->Frt):∀{L:Frt} {p:PSt} {n:Nat} {A:Frt},n+L.length<=N->S n A p->(∀n A p q,n<N->q∈L->S n A p->∃p',f (p.set i (some (.int (q.1:Int))))=some (.nx,p')/\S (n+1) (st A q) p')->∃p',dE i f (zo7 L) p=some (.nx,p')/\S (n+L.length) (L.foldl st A) p'
 |[],p,n,A,_,h,_=>⟨p,rfl,h⟩
 |q::L,p,n,A,hn,h,hs=>by
  rw [Z6] at hn
  obtain⟨p1,e1,h1⟩:=hs n A p q (by omega) Z0 h
  obtain⟨p2,e2,h2⟩:=ze1 S st (L:=L) (n:=n+1) (by omega) h1 fun n A p r h1 hr=>hs n A p r h1 (Z1 _ hr)
  refine⟨p2,?_,by rw [Z6,show n+(L.length+1)=n+1+L.length by omega];exact h2⟩
  show dE i f (.int (q.1:Int)::zo7 L) p=_
  rw [dE,e1]
  exact e2
theorem vZ{i:Nat}{fi:tz3}{f:tz1}{p p':PSt}{ds:List D}(h:fi p=some ds)(e:dE i f ds p=some (.nx,p')):gT i fi f p=some (.nx,p'):=by
 unfold gT
 rw [h];exact e
abbrev yx8:tz7:=gE 2 1 (bE [true,false]) (kQ nQ)
theorem wh5{W:Int}{F G:Frt}(nd:(G.map (·.1)).Nodup)(hl:F.length+G.length<=800):yx8 [aI true W F,aI false W G]=some (.non,[aI true W (kB F G),aI false W G]):=by
 obtain⟨p',e,_,z,rfl⟩:=ze1 (i:=2) (N:=G.length) (f:=cX (dI 0 bK (cB [.im (aA 2),.im (f2 gW (cH "Front" "best" (aA 1)) (aA 2))]) (dX "Front" "add" nQ)))
  (fun n A p=>A.length<=F.length+n/\∃z,p=[some (aI true W A),some (aI false W G),z]) (fun A q=>iF A q.1 q.2) (L:=G) (p:=[some (aI true W F),some (aI false W G),none]) (n:=0) (A:=F) (by omega) ⟨Zc _,none,rfl⟩
  (by
   rintro n A p q hn hq ⟨hA,z,rfl⟩
   refine⟨_,ze0 (j:=0) (F:=A) (W:=W) (k:=q.1) (x:=q.2) rfl rfl (yg0 (F:=G) (W:=W) rfl rfl (lW nd hq)) (by omega),?_,_,rfl⟩
   have:=xR A q.1 q.2
   omega)
 have e2:=vZ (i:=2) (zs2 (f:=aA 1) (W:=W) (F:=G) (p:=[some (aI true W F),some (aI false W G),none]) rfl) e
 show gE 2 1 _ (kQ nQ) _=_
 have e3:kQ nQ ([aI true W F,aI false W G].map some++List.replicate 1 none)=some (.nx,[some (aI true W (kB F G)),some (aI false W G),z]):=e2
 unfold gE
 rw [if_pos (show [aI true W F,aI false W G].length=2 from rfl),e3]
 rfl
theorem gL{np n:Nat}{f:tz1}{ds:List D}{d:D}(hl:ds.length=np)(h:∃q,f (ds.map some++List.replicate n none)=some (.ret d,q)):gP np n f ds=some d:=h.elim fun _ e=>jW hl e
theorem wA{f g:tz1}{p:PSt}{d:D}(h:∃q,f p=some (.ret d,q)):∃q,aT f g p=some (.ret d,q):=h.elim fun q e=>⟨q,dS e⟩
theorem yv8(F:Frt)(n:Int):kS F n=F.foldl (fun A q=>iF A q.1 (q.2.1,q.2.2++[n])) []:=by
 unfold kS kB
 rw [List.foldl_map];rfl
theorem yp4{p:PSt}{i:Nat}{x:Way}(h:p[i]? =some (some (wyD x))):f2 dIx (aA i) (fC (.int 0)) p=some (.tup [.int x.1.1,.int x.1.2]):=aQ (mT h) rfl (nC _ _)
theorem yp5{p:PSt}{i:Nat}{x:Way}(h:p[i]? =some (some (wyD x))):f2 dIx (aA i) (fC (.int 1)) p=some (.tup (cI x.2)):=aQ (mT h) rfl (gC _ _ _)
theorem zi4{p:PSt}{f g:tz2}{x:Way}(h1:f p=some (.tup [.int x.1.1,.int x.1.2]))(h2:g p=some (.tup (cI x.2))):cP (aB f (aB g aE)) p=some (wyD x):=
 eX (aD h1 (aD h2 rfl)) (tN x) (by simp)
theorem xp9{p:PSt}{i j:Nat}{x:Way}{n:Int}(h:p[i]? =some (some (wyD x)))(hn:p[j]? =some (some (.int n)))(hl:x.2.length<=900):cP (aB (aX (f2 dIx (aA i) (fC (.int 0)))) (aB (f2 bQ (f2 dIx (aA i) (fC (.int 1))) (cP (aB (aX (aA j)) aE))) aE)) p=some (wyD (x.1,x.2++[n])):=by
 refine zi4 (x:=(x.1,x.2++[n])) (cL (yp4 (x:=x) h) rfl) (aQ (yp5 (x:=x) h) (eX (aD (cL (mT hn) rfl) rfl) rfl (by simp)) ?_)
 show(if (cI x.2).length+[D.int n].length<=sizeLine then some (D.tup (cI x.2++[.int n])) else none)=_
 rw [if_pos (by rw [zZ];exact sz (by show x.2.length+1<=1000;omega)),zw1];rfl
abbrev zo8:tz6:=gP 2 3 (tZ mL nQ)
theorem xq0{W:Int}{F:Frt}{n:Int}(nd:(F.map (·.1)).Nodup)(hl:F.length<=800)(hc:∀q∈F,q.2.2.length<=900):zo8 [aI false W F,.int n]=some (aI true W (kS F n)):=by
 have s1:aW 2 (aJ (eZ "Front" (cB [.im (cH "Front" "steps" (aA 0))]) mL)) [some (aI false W F),some (.int n),none,none,none]=some (.nx,[some (aI false W F),some (.int n),some (aI true W []),none,none]):=bF (xQ (uN (f:=aA 0) (F:=F) rfl))
 obtain⟨p',e,_,y,z,rfl⟩:=ze1 (i:=3) (N:=F.length) (f:=aT (aW 4 (aJ (aX (f2 gW (cH "Front" "best" (aA 0)) (aA 3))))) (cX (dI 2 bK (cB [.im (aA 3),.im (cP (aB (aX (f2 dIx (aA 4) (fC (.int 0)))) (aB (f2 bQ (f2 dIx (aA 4) (fC (.int 1))) (cP (aB (aX (aA 1)) aE))) aE)))]) (dX "Front" "add" nQ))))
  (fun k A p=>A.length<=k/\∃y z,p=[some (aI false W F),some (.int n),some (aI true W A),y,z]) (fun A q=>iF A q.1 (q.2.1,q.2.2++[n])) (L:=F) (p:=[some (aI false W F),some (.int n),some (aI true W []),none,none]) (n:=0) (A:=[]) (by omega) ⟨Zc _,none,none,rfl⟩
  (by
   rintro k A p q hk hq ⟨hA,y,z,rfl⟩
   refine⟨_,(aO (bF (cL (yg0 (F:=F) (W:=W) (k:=q.1) rfl rfl (lW nd hq)) (tN q.2)))).trans (ze0 (j:=2) (F:=A) (W:=W) (k:=q.1) (x:=(q.2.1,q.2.2++[n])) rfl rfl (xp9 rfl rfl (hc q hq)) (by omega)),?_,_,_,rfl⟩
   have:=xR A q.1 (q.2.1,q.2.2++[n])
   omega)
 refine gL rfl (cS s1 (cS (vZ (i:=3) (zs2 (f:=aA 0) (W:=W) (F:=F) rfl) e) ?_))
 rw [yv8]
 exact⟨_,rfl⟩
theorem wh6{i j:Int}(h1: -100000<=i)(h2:i<=100000):L2.qR i j=true:=by
 unfold L2.qR
 rw [Zq (show-(2^64)<i by omega),Zq (show i<2^64 by omega)];rfl
abbrev xs7:tz6:=gP 2 0 oB
theorem zw6{p:PSt}{f:tz2}{W:Int}(h:f p=some (bW W)):cH "WithinWidth" "width" f p=some (.int W):=by
 unfold cH
 rw [h,Z2]
 simp [bW,yi2,cN]
theorem wh7{W:Int}{k:Nat}(hW0:0<=W)(hW:W<=40)(hk:k<=1000):xs7 [bW W,.int (k:Int)]=some (.int ((W-k)*(W-k))):=by
 have e:f2 jB (cH "WithinWidth" "width" (aA 0)) (aA 1) [some (bW W),some (.int (k:Int))]=some (.int (W-k)):=aQ (zw6 rfl) rfl rfl
 exact jW (p:=[some (bW W),some (.int (k:Int))]) rfl (cF (aQ e e (if_pos (wh6 (by omega) (by omega)))))
theorem xq1(k:Nat)(w:Str)(hz:w.length<=1000):pV [.int (k:Int),.str w]=some (.int ((if lfB w=true then w.length-1 else k+w.length:Nat):Int)):=by
 have q:=zr8 w
 have hs:w.length<=sizeLine:=sz hz
 show gP 2 0 (eA sF) _=_
 unfold lfB
 generalize sF=G at q|-
 by_cases c:w.cps.toList[0]? =some 10
 ·rw [Zq c] at q|-
  have h1:1<=w.length:=by
   rw [lV]
   have:=(Z5.mp c).1
   omega
  rw [if_pos rfl,show((w.length-1:Nat):Int)=(w.length:Int)-1 by omega]
  simp! [eA,q,hs]
 ·rw [Zd c] at q|-
  rw [if_neg Z7]
  simp! [eA,q,hs]
def ya1:Option (Nat×(Int×Int))->D
 |none=> .non
 |some s=> .tup [.int (s.1:Int),.tup [.int s.2.1,.int s.2.2]]
abbrev ya2:tz6:=gP 5 2 (kF pU pV sF xs7)
theorem wa6{W:Int}{b:Bool}{m:Int}{l:Leaf}{k:Nat}{c:Int×Int}(hW0:0<=W)(hW1:W<=40)(hl:fI l)(h0:0<=m)(h1:m<=200)(hk:k<=1000):ya2 [bW W,.int (k:Int),.tup [.int c.1,.int c.2],bC l,aL b m]=some (ya1 (jL W b m l k c)):=by
 have q1:=zl9 l b m k hl h0 h1 (by omega)
 have s1:∀P5 P6,aW 5 (aJ (aH pU (aB (aA 3) (aB (aA 4) (aB (aA 1) aE))))) [some (bW W),some (.int (k:Int)),some (.tup [.int c.1,.int c.2]),some (bC l),some (aL b m),P5,P6]=some (.nx,[some (bW W),some (.int (k:Int)),some (.tup [.int c.1,.int c.2]),some (bC l),some (aL b m),some (wrD (wr b m k l)),P6]):=fun _ _=>bF (aU (aD rfl (aD rfl (aD rfl rfl))) q1)
 unfold jL
 cases e:wr b m k l with
 |none=>
  rw [e] at s1
  exact gL rfl (cS (s1 none none) (wA ⟨_,(bM (dO (aQ rfl rfl rfl))).trans (cF rfl)⟩))
 | some w=>
  rw [e] at s1
  obtain⟨_,hz⟩:=zd4 hl h0 h1 e
  have q2:=xq1 k w (by omega)
  have q3:=zr8 w
  have q4:=wh7 hW0 hW1 hk
  rw [Z2]
  generalize hK:(if lfB w=true then w.length-1 else k+w.length:Nat)=K at q2|-
  have s2:∀P6,fIf (aV (fB (f2 dIs (aA 5) (fC .non)))) (bX (aJ (fC .non))) bO [some (bW W),some (.int (k:Int)),some (.tup [.int c.1,.int c.2]),some (bC l),some (aL b m),some (.str w),P6]=some (.nx,[some (bW W),some (.int (k:Int)),some (.tup [.int c.1,.int c.2]),some (bC l),some (aL b m),some (.str w),P6]):=fun _=>aY (dO (aQ rfl rfl rfl))
  have s3:aW 6 (aJ (aH pV (aB (aA 1) (aB (aA 5) aE)))) [some (bW W),some (.int (k:Int)),some (.tup [.int c.1,.int c.2]),some (bC l),some (aL b m),some (.str w),none]=some (.nx,[some (bW W),some (.int (k:Int)),some (.tup [.int c.1,.int c.2]),some (bC l),some (aL b m),some (.str w),some (.int (K:Int))]):=bF (aU (aD rfl (aD rfl rfl)) q2)
  refine gL rfl (cS (s1 none none) (cS (s2 none) (cS s3 ?_)))
  ·have c1:fB (f2 dGt (aA 6) (cH "WithinWidth" "width" (aA 0))) [some (bW W),some (.int (k:Int)),some (.tup [.int c.1,.int c.2]),some (bC l),some (aL b m),some (.str w),some (.int (K:Int))]=some (decide (W<(K:Int))):=dO (aQ rfl (zw6 rfl) rfl)
   by_cases hW:W<(K:Int)
   ·rw [if_pos hW]
    rw [Zq hW] at c1
    exact wA ⟨_,(bM c1).trans (cF rfl)⟩
   ·rw [if_neg hW]
    rw [Zd hW] at c1
    refine cS (aY c1) ?_
    have c2:fT (aH sF (aB (aA 5) aE)) [some (bW W),some (.int (k:Int)),some (.tup [.int c.1,.int c.2]),some (bC l),some (aL b m),some (.str w),some (.int (K:Int))]=some (lfB w):=kK (aU (aD rfl rfl) q3)
    have x0:f2 dIx (aA 2) (fC (.int 0)) [some (bW W),some (.int (k:Int)),some (.tup [.int c.1,.int c.2]),some (bC l),some (aL b m),some (.str w),some (.int (K:Int))]=some (.int c.1):=aQ rfl rfl (nC _ _)
    have x1:f2 dIx (aA 2) (fC (.int 1)) [some (bW W),some (.int (k:Int)),some (.tup [.int c.1,.int c.2]),some (bC l),some (aL b m),some (.str w),some (.int (K:Int))]=some (.int c.2):=aQ rfl rfl (gC _ _ _)
    cases lf:lfB w with
    | true=>
     rw [lf] at c2
     have x2:qT "WithinWidth" "rag_of" (aA 0) [some (bW W),some (.int (k:Int)),some (.tup [.int c.1,.int c.2]),some (bC l),some (aL b m),some (.str w),some (.int (K:Int))]=some (bW W):=by
      show ze7 "WithinWidth" "rag_of" (bW W)=_
      unfold ze7 bW
      exact if_pos ⟨rfl,by simp [cN,fV]⟩
     have x3:=aU (h:=xs7) (aD x2 (aD (f:=aA 1) (g:=aE) (d:= .int (k:Int)) rfl rfl)) q4
     refine wA ⟨_,(bM c2).trans (cF (eX (aD (cL rfl rfl) (aD (eX (aD (aQ x0 rfl rfl) (aD (aQ x1 x3 rfl) rfl)) rfl (by simp)) rfl)) rfl (by simp)))⟩
    |false=>
     rw [lf] at c2
     exact cS (aY c2) ⟨_,cF (eX (aD (cL rfl rfl) (aD (cL rfl rfl) rfl)) rfl (by simp))⟩
abbrev zf1:tz6:=gP 3 4 (rR mL ya2 nQ)
theorem xh5{W:Int}{F:Frt}{b:Bool}{m:Int}{l:Leaf}(hW0:0<=W)(hW1:W<=40)(hl:fI l)(h0:0<=m)(h1:m<=200)(nd:(F.map (·.1)).Nodup)(hF:F.length<=800)(hk:∀q∈F,q.1<=1000):
  zf1 [aI false W F,bC l,aL b m]=some (aI true W (kC W b m l F [])):=by
 have s1:aW 3 (aJ (eZ "Front" (cB [.im (cH "Front" "steps" (aA 0))]) mL)) [some (aI false W F),some (bC l),some (aL b m),none,none,none,none]=some (.nx,[some (aI false W F),some (bC l),some (aL b m),some (aI true W []),none,none,none]):=bF (xQ (uN (f:=aA 0) (F:=F) rfl))
 obtain⟨p',e,_,x,y,z,rfl⟩:=ze1 (i:=4) (N:=F.length) (f:=aT (aW 5 (aJ (aX (f2 gW (cH "Front" "best" (aA 0)) (aA 4)))))
  (aT (aW 6 (aJ (aH ya2 (aB (qT "WithinWidth" "state_behind" (cH "Front" "steps" (aA 0))) (aB (aA 4) (aB (f2 dIx (aA 5) (fC (.int 0))) (aB (aA 1) (aB (aA 2) aE))))))))
  (fIf (aV (fB (f2 qS (aA 6) (fC .non)))) (cX (dI 3 bK (cB [.im (f2 dIx (aA 6) (fC (.int 0))),.im (cP (aB (aX (f2 dIx (aA 6) (fC (.int 1)))) (aB (aX (f2 dIx (aA 5) (fC (.int 1)))) aE)))]) (dX "Front" "add" nQ))) bO)))
  (fun k A p=>A.length<=k/\∃x y z,p=[some (aI false W F),some (bC l),some (aL b m),some (aI true W A),x,y,z]) (fun G p=>match jL W b m l p.1 p.2.1 with
   |none=>G
   |some s=>iF G s.1 (s.2,p.2.2)) (L:=F) (p:=[some (aI false W F),some (bC l),some (aL b m),some (aI true W []),none,none,none]) (n:=0) (A:=[]) (by omega) ⟨Zc _,none,none,none,rfl⟩
  (by
   rintro k A p q hn hq ⟨hA,x,y,z,rfl⟩
   have t1:aW 5 (aJ (aX (f2 gW (cH "Front" "best" (aA 0)) (aA 4)))) [some (aI false W F),some (bC l),some (aL b m),some (aI true W A),some (.int (q.1:Int)),y,z]=some (.nx,[some (aI false W F),some (bC l),some (aL b m),some (aI true W A),some (.int (q.1:Int)),some (wyD q.2),z]):=bF (cL (yg0 (F:=F) (W:=W) (k:=q.1) rfl rfl (lW nd hq)) (tN q.2))
   have r1:qT "WithinWidth" "state_behind" (cH "Front" "steps" (aA 0)) [some (aI false W F),some (bC l),some (aL b m),some (aI true W A),some (.int (q.1:Int)),some (wyD q.2),z]=some (bW W):=by
    unfold qT
    rw [uN (f:=aA 0) (o:=false) (W:=W) (F:=F) rfl,Z2]
    unfold ze7 bW
    exact if_pos ⟨rfl,by simp [cN,fV]⟩
   have t2:aW 6 (aJ (aH ya2 (aB (qT "WithinWidth" "state_behind" (cH "Front" "steps" (aA 0))) (aB (aA 4) (aB (f2 dIx (aA 5) (fC (.int 0))) (aB (aA 1) (aB (aA 2) aE))))))) [some (aI false W F),some (bC l),some (aL b m),some (aI true W A),some (.int (q.1:Int)),some (wyD q.2),z]=some (.nx,[some (aI false W F),some (bC l),some (aL b m),some (aI true W A),some (.int (q.1:Int)),some (wyD q.2),some (ya1 (jL W b m l q.1 q.2.1))]):=
    bF (aU (aD r1 (aD rfl (aD (yp4 rfl) (aD rfl (aD rfl rfl))))) (wa6 hW0 hW1 hl h0 h1 (hk q hq)))
   cases es:jL W b m l q.1 q.2.1 with
   |none=>
    rw [es] at t2
    exact⟨_,(aO t1).trans ((aO t2).trans (aY (dO (aQ rfl rfl rfl)))),Wz hA,_,_,_,rfl⟩
   |some s=>
    rw [es] at t2
    have w0:f2 dIx (aA 6) (fC (.int 0)) [some (aI false W F),some (bC l),some (aL b m),some (aI true W A),some (.int (q.1:Int)),some (wyD q.2),some (ya1 (some s))]=some (.int (s.1:Int)):=aQ rfl rfl (nC _ _)
    have w1:f2 dIx (aA 6) (fC (.int 1)) [some (aI false W F),some (bC l),some (aL b m),some (aI true W A),some (.int (q.1:Int)),some (wyD q.2),some (ya1 (some s))]=some (.tup [.int s.2.1,.int s.2.2]):=aQ rfl rfl (gC _ _ _)
    refine⟨_,(aO t1).trans ((aO t2).trans ((bM (dO (aQ rfl rfl rfl))).trans (ze0 (j:=3) (F:=A) (W:=W) (k:=s.1) (x:=(s.2,q.2.2)) rfl w0 (zi4 (x:=(s.2,q.2.2)) (cL w1 rfl) (cL (yp5 (x:=q.2) rfl) (iP q.2.2))) (by omega)))),?_,_,_,_,rfl⟩
    have:=xR A s.1 (s.2,q.2.2)
    show(iF A s.1 (s.2,q.2.2)).length<=_
    omega)
 exact gL rfl (cS s1 (cS (vZ (i:=4) (zs2 (f:=aA 0) (W:=W) (F:=F) rfl) e) ⟨_,rfl⟩))
mutual
theorem yg1:∀{p:Pc} {b:Bool} {m:Int} {cs cs':List Int} {t t':Str},cK b m p cs t=some (cs',t')->cs.length<=cs'.length+(cC p).length
 | .leaf l,b,m,cs,cs',t,t',h=>by
  rw [cK] at h
  cases e:wr b m (col t) l with
  |none=>rw [e] at h;cases h
  |some w=>rw [e] at h;cases h;omega
 | .group r,b,m,cs,cs',t,t',h=>by
  rw [cK.eq_def] at h
  simp only at h
  have hl:(cC (.group r)).length=(toksR r).length+2:=by simp [cC]
  cases b with
  |false=>
   simp only [ZS,Yy] at h
   have:=setR_len h
   omega
  | true=>
   cases cs with
   |nil=>simp at h
   | cons c cs=>
    simp only [Y2] at h
    rw [Z6]
    by_cases c0:c=0
    ·simp only [c0,Y2] at h;have:=setR_len h;omega
    ·by_cases c1:c=1
     ·simp only [c1,Y2] at h;have:=setR_len h;omega
     ·simp [c0,c1] at h
 | .hang n r,b,m,cs,cs',t,t',h=>by
  rw [cK] at h
  have hl:(cC (.hang n r)).length=(toksR r).length+2:=by simp [cC]
  have:=setR_len h
  omega
 | .either rs,b,m,cs,cs',t,t',h=>by
  rw [cK.eq_def] at h
  have hl:(cC (.either rs)).length=(toksRows rs).length+2:=by simp [cC]
  cases cs with
  |nil=>cases h
  |cons c cs=>
   simp only at h
   rw [Z6]
   by_cases c0:0<=c
   ·simp only [c0,Y2] at h;have:=setAt_len h;omega
   ·simp [c0] at h
theorem setR_len:∀{r:List Pc} {b:Bool} {m:Int} {cs cs':List Int} {t t':Str},setR b m r cs t=some (cs',t')->cs.length<=cs'.length+(toksR r).length
 |[],b,m,cs,cs',t,t',h=>by rw [setR] at h;cases h;omega
 | p::r,b,m,cs,cs',t,t',h=>by
  rw [setR] at h
  cases e:cK b m p cs t with
  |none=>rw [e] at h;cases h
  |some s=>
   obtain⟨c1,t1⟩:=s
   rw [e] at h
   have h1:=yg1 e
   have h2:=setR_len (cs:=c1) (t:=t1) h
   rw [toksR,Z3]
   omega
theorem setAt_len:∀{rs:List (List Pc)} {i:Nat} {b:Bool} {m:Int} {cs cs':List Int} {t t':Str},setAt b m rs i cs t=some (cs',t')->cs.length<=cs'.length+(toksRows rs).length
 |[],i,b,m,cs,cs',t,t',h=>by rw [setAt] at h;cases h
 |r::rs,0,b,m,cs,cs',t,t',h=>by
  rw [setAt] at h
  have:=setR_len h
  rw [toksRows,Z3]
  omega
 | r::rs,i+1,b,m,cs,cs',t,t',h=>by
  rw [setAt] at h
  have h1:=setAt_len h
  rw [toksRows,Z3]
  cases rs with
  |nil=>rw [setAt] at h;cases h
  |cons q qs=>
   rw [toksRows,Z3] at h1
   rw [toksMore,Z6,Z3]
   omega
end
def Few(N:Nat)(R:List Int->Str->Prop):Prop:=∀c t,R c t->c.length<=N
theorem xq2{N:Nat}{R:List Int->Str->Prop}{b:Bool}{m:Int}{p:Pc}(h:Few N R):Few (N+(cC p).length) (Aft R (cK b m p)):=by
 rintro c t ⟨c0,t0,c1,r,rfl,e⟩
 have h1:=h c0 t0 r
 have h2:=yg1 e
 rw [ZZ] at h2
 rw [Z3];omega
theorem xh6{N:Nat}{R:List Int->Str->Prop}{n:Int}(h:Few N R):Few (N+1) (ya0 R n):=by
 rintro c t ⟨c0,r,rfl⟩
 have:=h c0 t r
 rw [Z3]
 show c0.length+1<=_
 omega
theorem yg2:∀{n:Nat} {l:List Nat},l.Nodup->(∀x∈l,x<n)->l.length<=n
 |0,l,_,h=>by
  cases l with
  |nil=>exact Zc _
  |cons a l=>exact absurd (h a Z0) (Ys _)
 | n+1,l,nd,h=>by
  have h2:=yg2 (n:=n) (nd.erase n) fun x hx=>by
   have h3:=h x (List.mem_of_mem_erase hx)
   have h4:x≠n:=fun z=>by
    rw [z] at hx
    exact absurd hx nd.not_mem_erase
   omega
  by_cases hm:n∈l
  ·rw [List.length_erase_of_mem hm] at h2;omega
  ·rw [List.erase_of_not_mem hm] at h2;omega
theorem Good.key{W:Int}{R:List Int->Str->Prop}{F:Frt}(h:Good W R F)(hW:W<=40){q:Nat×Way}(hq:q∈F):q.1<=40:=by
 obtain⟨t,_,xs,y,_,h2,h3,_⟩:=h.hit q hq
 have:=h2 y (by simp)
 omega
theorem Good.len{W:Int}{R:List Int->Str->Prop}{F:Frt}(h:Good W R F)(hW:W<=40):F.length<=41:=by
 have:=yg2 (n:=41) h.nd fun x hx=>by
  obtain⟨q,hq,rfl⟩:=Ya.mp hx
  have:=h.key hW hq
  omega
 rwa [Zb] at this
theorem Good.few{W:Int}{R:List Int->Str->Prop}{F:Frt}{N:Nat}(h:Good W R F)(hN:Few N R){q:Nat×Way}(hq:q∈F):q.2.2.length<=N:=by
 obtain⟨t,r,_⟩:=h.hit q hq
 exact hN _ _ r
theorem xh7(W:Int)(F:Frt):yx5 (aI true W F)=some (aI false W F):=by
 have h:=tR F
 unfold aI yx5
 exact if_pos ⟨rfl,h⟩
theorem tT{f:tz2}{p:PSt}{W:Int}{F:Frt}(h:f p=some (aI true W F)):jI f p=some (aI false W F):=by
 unfold jI
 rw [h,Z2,xh7]
abbrev rG(GR:tz6):tz6:=gP 3 4 (qU mL vA mI zo8 yx8 GR)
def ya3(GR:tz6):tz1:=aT (aW 6 (aJ (aX (aA 0))))
 (aT (fIf (aV (fT (aH mI (aB (aA 1) (aB (aA 2) aE))))) (aW 6 (aJ (jI (aH zo8 (aB (aA 0) (aB (aA 4) aE)))))) bO)
 (cX (dI 3 bK (cB [.im (aH GR (aB (aA 6) (aB (f2 dIx (aA 5) (fC (.int 0))) (aB (f2 dIx (aA 5) (fC (.int 1))) aE))))]) (dX "Front" "add_all" yx8))))
theorem xh8{GR:tz6}{W:Int}{F A Z:Frt}{p:Pc}{b:Bool}{m:Int}{n:Nat}{x:List Pc×Bool×Int}{y:Option D}(hp:nL p=true)(nd:(F.map (·.1)).Nodup)(hF:F.length<=41)(hc:∀q∈F,q.2.2.length<=900)
  (hG:GR [aI false W (if cU b p=true then kS F n else F),.tup (pcsD x.1),aL x.2.1 x.2.2]=some (aI false W Z)) (ndZ:(Z.map (·.1)).Nodup) (hZ:A.length+Z.length<=800):
  ∃z,ya3 GR [some (aI false W F),some (pcD p),some (aL b m),some (aI true W A),some (.int (n:Int)),some (dZ x),y]=some (.nx,[some (aI false W F),some (pcD p),some (aL b m),some (aI true W (kB A Z)),some (.int (n:Int)),some (dZ x),z]):=by
 have t1:aW 6 (aJ (aX (aA 0))) [some (aI false W F),some (pcD p),some (aL b m),some (aI true W A),some (.int (n:Int)),some (dZ x),y]=some (.nx,[some (aI false W F),some (pcD p),some (aL b m),some (aI true W A),some (.int (n:Int)),some (dZ x),some (aI false W F)]):=bF (cL rfl (za3 W F))
 have q2:=yf1 p b m hp
 have c2:fT (aH mI (aB (aA 1) (aB (aA 2) aE))) [some (aI false W F),some (pcD p),some (aL b m),some (aI true W A),some (.int (n:Int)),some (dZ x),some (aI false W F)]=some (cU b p):=kK (aU (aD rfl (aD rfl rfl)) q2)
 have t2:fIf (aV (fT (aH mI (aB (aA 1) (aB (aA 2) aE))))) (aW 6 (aJ (jI (aH zo8 (aB (aA 0) (aB (aA 4) aE)))))) bO [some (aI false W F),some (pcD p),some (aL b m),some (aI true W A),some (.int (n:Int)),some (dZ x),some (aI false W F)]=some (.nx,[some (aI false W F),some (pcD p),some (aL b m),some (aI true W A),some (.int (n:Int)),some (dZ x),some (aI false W (if cU b p=true then kS F n else F))]):=by
  cases tk:cU b p with
  |true=>
   rw [tk] at c2
   exact(bM c2).trans (bF (tT (aU (aD rfl (aD rfl rfl)) (xq0 nd (by omega) hc))))
  |false=>
   rw [tk] at c2
   exact aY c2
 generalize (if cU b p=true then kS F n else F)=F' at hG t2
 have x0:f2 dIx (aA 5) (fC (.int 0)) [some (aI false W F),some (pcD p),some (aL b m),some (aI true W A),some (.int (n:Int)),some (dZ x),some (aI false W F')]=some (.tup (pcsD x.1)):=aQ rfl rfl (nC _ _)
 have x1:f2 dIx (aA 5) (fC (.int 1)) [some (aI false W F),some (pcD p),some (aL b m),some (aI true W A),some (.int (n:Int)),some (dZ x),some (aI false W F')]=some (aL x.2.1 x.2.2):=aQ rfl rfl (gC _ _ _)
 have x2:=aU (h:=GR) (aD (f:=aA 6) (d:=aI false W F') rfl (aD x0 (aD (g:=aE) x1 rfl))) hG
 exact⟨_,(aO t1).trans ((aO t2).trans (tK (yp3 (j:=3) rfl (eL x2 (za3 W Z) jO) (xh3 (by simp [cN,fV]) (wh5 ndZ hZ)))))⟩
theorem zw7{GR:tz6}{GA:Bool->Int->List Pc->Frt->Frt}{W:Int}{F:Frt}{p:Pc}{b:Bool}{m:Int}(hp:nL p=true)(nd:(F.map (·.1)).Nodup)(hF:F.length<=41)(hc:∀q∈F,q.2.2.length<=900):∀(xs:List (List Pc×Bool×Int)) (n:Nat) (A:Frt) (y4 y5 y6:Option D),
  (∀(i:Nat) x,xs[i]? =some x->∃Z,Z=GA x.2.1 x.2.2 x.1 (if cU b p=true then kS F (n+i:Nat) else F)/\GR [aI false W (if cU b p=true then kS F (n+i:Nat) else F),.tup (pcsD x.1),aL x.2.1 x.2.2]=some (aI false W Z)/\(Z.map (·.1)).Nodup/\Z.length<=41)->A.length+41*xs.length<=400->
  ∃z4 z5 z6,nI [4,5] (ya3 GR) (mV n (xs.map dZ)) [some (aI false W F),some (pcD p),some (aL b m),some (aI true W A),y4,y5,y6]=some (.nx,[some (aI false W F),some (pcD p),some (aL b m),some (aI true W (frW GA (cU b p) F n xs A)),z4,z5,z6])
 |[],n,A,y4,y5,y6,_,_=>⟨y4,y5,y6,rfl⟩
 | x::xs,n,A,y4,y5,y6,hG,hA=>by
  rw [Z6] at hA
  obtain⟨Z,e1,e2,e3,e4⟩:=hG 0 x rfl
  rw [Xq] at e1 e2
  obtain⟨z,t⟩:=xh8 (m:=m) (A:=A) (y:=y6) hp nd hF hc e2 e3 (by omega)
  have hl:=zm3 Z A
  obtain⟨z4,z5,z6,ih⟩:=zw7 (m:=m) hp nd hF hc xs (n+1) (kB A Z) (some (.int (n:Int))) (some (dZ x)) z (fun i y hy=>by
   have:=hG (i+1) y (by simpa using hy)
   rwa [show n+(i+1)=n+1+i by omega] at this) (by omega)
  refine⟨z4,z5,z6,?_⟩
  rw [Z9,mV,nI]
  show(some [D.int (n:Int),dZ x]).bind _=_
  rw [Z2,if_pos (show [D.int (n:Int),dZ x].length=[4,5].length from rfl)]
  show(ya3 GR [some (aI false W F),some (pcD p),some (aL b m),some (aI true W A),some (.int (n:Int)),some (dZ x),y6]).bind _=_
  rw [frW,<-e1]
  rw [t,Z2]
  exact ih
theorem xq3{GR:tz6}{GA:Bool->Int->List Pc->Frt->Frt}{W:Int}{F:Frt}{p:Pc}{b:Bool}{m:Int}(hp:nL p=true)(ho:okP p)(nd:(F.map (·.1)).Nodup)(hF:F.length<=41)(hc:∀q∈F,q.2.2.length<=900)
  (hG:∀(i:Nat) x,(cO b m p)[i]? =some x->∃Z,Z=GA x.2.1 x.2.2 x.1 (if cU b p=true then kS F i else F)/\GR [aI false W (if cU b p=true then kS F i else F),.tup (pcsD x.1),aL x.2.1 x.2.2]=some (aI false W Z)/\(Z.map (·.1)).Nodup/\Z.length<=41):
  rG GR [aI false W F,pcD p,aL b m]=some (aI true W (frW GA (cU b p) F 0 (cO b m p) [])):=by
 have h4:(cO b m p).length<=4:=by
  cases p with
  |leaf l=>simp [cO]
  |group r=>cases b<;>simp [cO]
  |hang k r=>simp [cO]
  |either rs=>have:=ho.1.2;simpa [cO] using this
 have hn:zf0 p<=1000:=by
  cases p with
  |either rs=>have:=ho.1.2;show rs.length<=1000;omega
  |_=>exact ZJ _
 have q1:=yo5 p b m hp hn
 have him:D.imms ((cO b m p).map dZ)=true:=by
  generalize cO b m p=xs
  induction xs with
  |nil=>rfl
  |cons x xs ih=>
   show(D.imm (dZ x)&&D.imms (xs.map dZ))=true
   rw [zd5,ih];rfl
 have s1:aW 3 (aJ (eZ "Front" (cB [.im (cH "Front" "steps" (aA 0))]) mL)) [some (aI false W F),some (pcD p),some (aL b m),none,none,none,none]=some (.nx,[some (aI false W F),some (pcD p),some (aL b m),some (aI true W []),none,none,none]):=bF (xQ (uN (f:=aA 0) (F:=F) rfl))
 obtain⟨z4,z5,z6,e⟩:=zw7 (m:=m) hp nd hF hc (cO b m p) 0 [] none none none (fun i x hx=>by rw [YM];exact hG i x hx) (by show 0+_<=_;omega)
 have s2:zz6 [4,5] (zz8 (aH vA (aB (aA 1) (aB (aA 2) aE)))) (ya3 GR) [some (aI false W F),some (pcD p),some (aL b m),some (aI true W []),none,none,none]=some (.nx,[some (aI false W F),some (pcD p),some (aL b m),some (aI true W (frW GA (cU b p) F 0 (cO b m p) [])),z4,z5,z6]):=by
  unfold zz6 zz8
  rw [aU (h:=vA) (aD (f:=aA 1) (d:=pcD p) rfl (aD (f:=aA 2) (d:=aL b m) (g:=aE) rfl rfl)) q1,Z2]
  show((if D.imms ((cO b m p).map dZ)=true then some ((cO b m p).map dZ) else none).map (mV 0)).bind _=_
  rw [if_pos him]
  exact e
 exact gL rfl (cS s1 (cS s2 ⟨_,rfl⟩))
def yL:Nat->tz6
 |0=>fun _=>none
 |n+1=>gP 3 2 (oY kX (rG (yL n)) zf1)
def zb9(GH:tz6):tz1:=fIf (aV (fT (aH kX (aB (aA 4) aE))))
 (aW 3 (aJ (jI (aH GH (aB (aA 3) (aB (aA 4) (aB (aA 2) aE)))))))
 (aW 3 (aJ (jI (aH zf1 (aB (aA 3) (aB (aA 4) (aB (aA 2) aE)))))))
def xs8(W:Int)(GR:tz6)(GA:Bool->Int->List Pc->Frt->Frt)(r:List Pc):Prop:=∀(b:Bool) (m:Int) (R:List Int->Str->Prop) (F:Frt) (N:Nat),0<=m->m+12*depR r<=200->Good W R F->Few N R->N+(toksR r).length<=900->
 GR [aI false W F,.tup (pcsD r),aL b m]=some (aI false W (GA b m r F))
theorem yv9{b:Bool}{m:Int}{p:Pc}{x:List Pc×Bool×Int}(hx:x∈cO b m p):(toksR x.1).length+1<=(cC p).length:=by
 cases p with
 |leaf l=>simp [cO] at hx
 | group r=>
  have:x.1=r:=by
   cases b<;>simp [cO] at hx
   ·subst hx;rfl
   ·rcases hx with e|e<;>subst e<;>rfl
  rw [this];simp [cC]
 |hang n r=>
  simp [cO] at hx
  subst hx;simp [cC]
 |either rs=>
  obtain⟨r,hm,rfl⟩:=Ya.mp (show x∈rs.map fun r=>(r,b,m) from hx)
  have:=vF hm
  simp [cC];omega
theorem wa7{W:Int}{GR:tz6}{GA:Bool->Int->List Pc->Frt->Frt}{k:Nat}(hW0:0<=W)(hW1:W<=40)(hG:∀r,depR r<k->okR r->pW W GA r)(hD:∀r,depR r<k->okR r->xs8 W GR GA r)
  {b:Bool} {m:Int} {R:List Int->Str->Prop} {F:Frt} {N:Nat} {p:Pc} {Y0 Y1:Option D} (hk:dY p<=k) (ho:okP p) (h0:0<=m) (h1:m+12*dY p<=200) (hF:Good W R F) (hN:Few N R) (hT:N+(cC p).length<=900):
  zb9 (rG GR) [Y0,Y1,some (aL b m),some (aI false W F),some (pcD p)]=some (.nx,[Y0,Y1,some (aL b m),some (aI false W (frP W GA b m F p)),some (pcD p)]):=by
 have c1:fT (aH kX (aB (aA 4) aE)) [Y0,Y1,some (aL b m),some (aI false W F),some (pcD p)]=some (nL p):=kK (aU (aD rfl rfl) (zi0 p))
 have hl:=hF.len hW1
 have hc:∀q∈F,q.2.2.length<=900:=fun q hq=>by have:=hF.few hN hq;omega
 have hold:nL p=true->zb9 (rG GR) [Y0,Y1,some (aL b m),some (aI false W F),some (pcD p)]=some (.nx,[Y0,Y1,some (aL b m),some (aI false W (frW GA (cU b p) F 0 (cO b m p) [])),some (pcD p)]):=fun hp=>by
  rw [hp] at c1
  refine(bM c1).trans (bF (tT (aU (aD rfl (aD rfl (aD rfl rfl))) (xq3 (GA:=GA) hp ho hF.nd hl hc fun i x hx=> ?_))))
  have hm:=ZK hx
  obtain⟨a1,a2,a3,a4⟩:=zi3 ho h0 h1 hk hm
  have ht:=yv9 hm
  have gg:∀(R':List Int->Str->Prop) (F':Frt),Good W R' F'->Few (N+1) R'->∃Z,Z=GA x.2.1 x.2.2 x.1 F'/\GR [aI false W F',.tup (pcsD x.1),aL x.2.1 x.2.2]=some (aI false W Z)/\(Z.map (·.1)).Nodup/\Z.length<=41:=fun R' F' hR hf=>by
   have g:=hG x.1 a3 a4 x.2.1 x.2.2 R' F' a1 a2 hR
   exact⟨_,rfl,hD x.1 a3 a4 x.2.1 x.2.2 R' F' (N+1) a1 a2 hR hf (by omega),g.nd,g.len hW1⟩
  by_cases tk:cU b p=true
  ·rw [if_pos tk]
   exact gg _ _ (xM hF i) (xh6 hN)
  ·rw [if_neg tk]
   exact gg _ _ hF fun c t h=>Wz (hN c t h)
 cases p with
 |leaf l=>
  have hm:m<=200:=by rw [dY] at h1;omega
  exact(eI (cW c1)).trans (bF (tT (aU (aD rfl (aD rfl (aD rfl rfl))) (xh5 hW0 hW1 ho h0 hm hF.nd (by omega) fun q hq=>by have:=hF.key hW1 hq;omega))))
 |group r=>exact hold rfl
 |hang n r=>exact hold rfl
 |either rs=>exact hold rfl
theorem xh9{W:Int}{GR:tz6}{GA:Bool->Int->List Pc->Frt->Frt}{k:Nat}(hW0:0<=W)(hW1:W<=40)(hG:∀r,depR r<k->okR r->pW W GA r)(hD:∀r,depR r<k->okR r->xs8 W GR GA r){b:Bool}{m:Int}{Y0 Y1:Option D}(h0:0<=m):∀(r:List Pc) (R:List Int->Str->Prop) (F:Frt) (N:Nat) (y:Option D),depR r<=k->okR r->m+12*depR r<=200->Good W R F->Few N R->N+(toksR r).length<=900->
  ∃z,dE 4 (zb9 (rG GR)) (pcsD r) [Y0,Y1,some (aL b m),some (aI false W F),y]=some (.nx,[Y0,Y1,some (aL b m),some (aI false W (r.foldl (fun F p=>frP W GA b m F p) F)),z])
 |[],R,F,N,y,_,_,_,_,_,_=>⟨y,rfl⟩
 |p::r,R,F,N,y,hk,ho,h1,hF,hN,hT=>by
  rw [depR] at hk h1
  rw [toksR,Z3] at hT
  have q1:=wa7 hW0 hW1 hG hD (b:=b) (Y0:=Y0) (Y1:=Y1) (show dY p<=k by omega) ho.1 h0 (by omega) hF hN (by omega)
  obtain⟨z,e⟩:=xh9 hW0 hW1 hG hD h0 r _ _ _ (some (pcD p)) (by omega) ho.2 (by omega) (xN hG (b:=b) (show dY p<=k by omega) ho.1 h0 (by omega) hF) (xq2 hN) (by omega)
  refine⟨z,?_⟩
  show dE 4 _ (pcD p::pcsD r) _=_
  rw [dE]
  show((zb9 (rG GR) [Y0,Y1,some (aL b m),some (aI false W F),some (pcD p)]).bind _)=_
  rw [q1];exact e
theorem yp6{W:Int}(hW0:0<=W)(hW1:W<=40):∀(n:Nat) (r:List Pc),depR r<n->okR r->xs8 W (yL n) (frN W n) r
 |0,_,h,_=>absurd h (Ys _)
 |n+1,r,hd,ho=>fun b m R F N h0 h1 hF hN hT=>by
  obtain⟨z,e⟩:=xh9 (GR:=yL n) (GA:=frN W n) (k:=n) (Y0:=some (aI false W F)) (Y1:=some (.tup (pcsD r))) hW0 hW1 (fun q h2 h3=>xO n q h2 h3) (fun q h2 h3=>yp6 hW0 hW1 n q h2 h3) h0 r R F N none (by omega) ho h1 hF hN hT
  have s1:aW 3 (aJ (aX (aA 0))) [some (aI false W F),some (.tup (pcsD r)),some (aL b m),none,none]=some (.nx,[some (aI false W F),some (.tup (pcsD r)),some (aL b m),some (aI false W F),none]):=bF (cL rfl (za3 W F))
  have s2:gT 4 (eJ (aA 1)) (zb9 (rG (yL n))) [some (aI false W F),some (.tup (pcsD r)),some (aL b m),some (aI false W F),none]=some (.nx,[some (aI false W F),some (.tup (pcsD r)),some (aL b m),some (aI false W (frN W (n+1) b m r F)),z]):=vZ rfl e
  show gP 3 2 (oY kX (rG (yL n)) zf1) _=_
  exact gL rfl (cS s1 (cS s2 ⟨_,rfl⟩))
abbrev zc0:tz7:=gE 2 0 (bE [true,false]) lG
theorem wh8(W:Int):zc0 [.obj true "WithinWidth" [] [],.int W]=some (.non,[.obj true "WithinWidth" ["width"] [.int W],.int W]):=by
 simp [gE,lG,iC,wJ,cN,aX,aA,bK,fY,yC,bE,D.imm]
theorem xi0{p:PSt}{f:tz2}{W:Int}(h:f p=some (.int W)):nF (eZ "WithinWidth" (cB [.im f]) zc0) p=some (bW W):=by
 have i:=wh8 W
 unfold nF
 have e:eZ "WithinWidth" (cB [.im f]) zc0 p=some (.obj true "WithinWidth" ["width"] [.int W]):=by
  unfold eZ
  rw [eL h rfl jO,Z2,i];rfl
 rw [e];rfl
abbrev uC:tz6:=gP 1 0 yW
abbrev ya4:tz6:=gP 2 0 (uU uC)
abbrev yj4:tz6:=gP 2 2 (yG ya4 uC)
theorem xi1:uC [.str ""]=some (.lst true [.str ""]):=by kernel_rfl
theorem wn4{W:Int}(hW:0<=W):ya4 [.str "",.int W]=some (.bl true):=by
 have q:=xi1
 have e:("":Str).length=0:=by decide+kernel
 show gP 2 0 (uU uC) _=_
 generalize uC=G at q|-
 have z:(0:Nat)<=sizeLine:=ZJ _
 have z1:1<=sizeLine:=sz (by decide)
 simp! [uU,iB,eJ,q,lY,fQ,rN,gU,yx1,D.bools,e,hW,z,z1]
theorem wh9{W:Int}(hW:0<=W):yj4 [.str "",.int W]=some (.tup [.int 1,.int 0]):=by
 have q:=xi1
 have f:=wn4 hW
 show gP 2 2 (yG ya4 uC) _=_
 generalize ya4=G1 at f|-
 generalize uC=G2 at q|-
 have s1:fIf (aV (eB (fT (aH G1 (aB (aA 0) (aB (aA 1) aE)))))) (bX (aJ (fC .non))) bO [some (.str ""),some (.int W),none,none]=some (.nx,[some (.str ""),some (.int W),none,none]):=aY (jF (kK (aU (aD rfl (aD rfl rfl)) f)))
 have s2:aW 2 (aJ (aH G2 (aB (aA 0) aE))) [some (.str ""),some (.int W),none,none]=some (.nx,[some (.str ""),some (.int W),some (.lst true [.str ""]),none]):=bF (aU (aD rfl rfl) q)
 have e3:fSl (aA 2) lC (nO (dU (fC (.int 1)))) [some (.str ""),some (.int W),some (.lst true [.str ""]),none]=some (.lst true []):=by rfl
 have s3:aW 3 (aJ (aH yx2 (aB (iB [none,some 1] (eJ (fSl (aA 2) lC (nO (dU (fC (.int 1)))))) gU (f2 jC (f2 jB (aA 1) (aH dJ (aB (aA 0) aE))) (f2 jB (aA 1) (aH dJ (aB (aA 0) aE))))) aE))) [some (.str ""),some (.int W),some (.lst true [.str ""]),none]=some (.nx,[some (.str ""),some (.int W),some (.lst true [.str ""]),some (.int 0)]):=by
  refine bF (aU (aD (d:= .lst true []) ?_ rfl) rfl)
  unfold iB eJ
  rw [e3]
  rfl
 refine gL rfl (cS s1 (cS s2 (cS s3 ⟨_,cF (eX (aD (d:= .int 1) ?_ (aD (cL rfl rfl) rfl)) rfl (by simp))⟩)))
 exact aU (aD (g:=aE) rfl rfl) rfl
abbrev rH:tz6:=gP 1 2 (uA mL zc0 yj4 nQ)
theorem xT{W:Int}(hW:0<=W):rH [.int W]=some (aI true W [(0,((1,0),[]))]):=by
 have p0:=wh9 hW
 have s1:aW 1 (aJ (eZ "Front" (cB [.im (nF (eZ "WithinWidth" (cB [.im (aA 0)]) zc0))]) mL)) [some (.int W),none,none]=some (.nx,[some (.int W),some (aI true W []),none]):=bF (xQ (xi0 rfl))
 have s2:aW 2 (aJ (aH yj4 (aB (fC (.str "")) (aB (aA 0) aE)))) [some (.int W),some (aI true W []),none]=some (.nx,[some (.int W),some (aI true W []),some (.tup [.int 1,.int 0])]):=bF (aU (aD rfl (aD rfl rfl)) p0)
 have s3:fIf (aV (fB (f2 qS (aA 2) (fC .non)))) (cX (dI 1 bK (cB [.im (fC (.int 0)),.im (cP (aB (aX (aA 2)) (aB (cP aE) aE)))]) (dX "Front" "add" nQ))) bO [some (.int W),some (aI true W []),some (.tup [.int 1,.int 0])]=some (.nx,[some (.int W),some (aI true W [(0,((1,0),[]))]),some (.tup [.int 1,.int 0])]):=
  (bM (dO (aQ rfl rfl rfl))).trans (ze0 (j:=1) (F:=[]) (W:=W) (k:=0) (x:=((1,0),[])) rfl rfl (zi4 (x:=((1,0),[])) (cL rfl rfl) (eX rfl rfl (ZJ _))) (by simp))
 exact gL rfl (cS s1 (cS s2 (cS s3 ⟨_,rfl⟩)))
abbrev oC(n:Nat):tz6:=gP 2 0 (qV (yL n) zb8)
def cR(W:Int)(n:Nat)(r:List Pc):Frt:=frN W n true 0 r [(0,((1,0),[]))]
theorem zm4{W:Int}(hW:0<=W):Good W (fun cs t=>cs=[]/\t=⟨#[]⟩) [(0,((1,0),[]))]:=⟨by simp,fun p hp=>by
 rw [Za.mp hp];exact⟨_,⟨rfl,rfl⟩,zi2 hW⟩⟩
theorem uO{W:Int}{n:Nat}{r:List Pc}(hW0:0<=W)(hW1:W<=40)(hd:depR r<n)(h8:depR r<=16)(ho:okR r)(hl:(toksR r).length<=800):oC n [aI false W [(0,((1,0),[]))],.tup (pcsD r)]=some (aI false W (cR W n r)):=by
 have q:=yp6 hW0 hW1 n r hd ho true 0 _ _ 0 (Yg _) (by omega) (zm4 hW0) (fun c t h=>by rw [h.1];exact Zc _) (by omega)
 exact gL rfl ⟨_,cF (aU (aD rfl (aD rfl (aD (aU rfl yf2) rfl))) q)⟩
def zf2(q:Nat×Way):D:= .tup [.int (q.1:Int),.int q.2.1.1,.int q.2.1.2,.tup (cI q.2.2)]
def zf3(F:Frt)(k:Int):Option (Nat×Way):=(mJ F k.toNat).map fun x=>(k.toNat,x)
def sH(F:Frt):List Int:=F.map fun q=>(q.1:Int)
def rdL(F:Frt):List (Nat×Way):=(PySem.W.sortI (sH F)).filterMap (zf3 F)
def yj5:tz2:=f2 bQ (f2 bQ (cP (aB (aX (aA 0)) aE)) (f2 dIx (f2 gW (aA 1) (aA 0)) (fC (.int 0)))) (cP (aB (aX (f2 dIx (f2 gW (aA 1) (aA 0)) (fC (.int 1)))) aE))
theorem wi0{F:Frt}{q:Nat×Way}(nd:(F.map (·.1)).Nodup)(hq:q∈F)(hc:q.2.2.length<=900):yj5 [some (.int (q.1:Int)),some (.dic false (dC F) (dP F))]=some (zf2 q):=by
 have g:f2 gW (aA 1) (aA 0) [some (.int (q.1:Int)),some (.dic false (dC F) (dP F))]=some (wyD q.2):=aQ rfl rfl (by
  show(some (Sum.inl (q.1:Int):Key)).bind _=_
  rw [Z2,rY,lW nd hq];rfl)
 have g0:f2 dIx (f2 gW (aA 1) (aA 0)) (fC (.int 0)) [some (.int (q.1:Int)),some (.dic false (dC F) (dP F))]=some (.tup [.int q.2.1.1,.int q.2.1.2]):=aQ g rfl (nC _ _)
 have g1:f2 dIx (f2 gW (aA 1) (aA 0)) (fC (.int 1)) [some (.int (q.1:Int)),some (.dic false (dC F) (dP F))]=some (.tup (cI q.2.2)):=aQ g rfl (gC _ _ _)
 have z:(3:Nat)<=sizeLine:=sz (by decide)
 have z4:(4:Nat)<=sizeLine:=sz (by decide)
 have im:=iP q.2.2
 have a1:cP (aB (aX (aA 0)) aE) [some (.int (q.1:Int)),some (.dic false (dC F) (dP F))]=some (.tup [.int (q.1:Int)]):=eX (aD (cL (d:= .int (q.1:Int)) rfl rfl) rfl) rfl (by simp)
 have d1:bQ (.tup [.int (q.1:Int)]) (.tup [.int q.2.1.1,.int q.2.1.2])=some (.tup [.int (q.1:Int),.int q.2.1.1,.int q.2.1.2]):=by
  show(if 3<=sizeLine then _ else none)=_
  rw [if_pos z];rfl
 have d2:bQ (.tup [.int (q.1:Int),.int q.2.1.1,.int q.2.1.2]) (.tup [.tup (cI q.2.2)])=some (zf2 q):=by
  show(if 4<=sizeLine then _ else none)=_
  rw [if_pos z4];rfl
 have a2:cP (aB (aX (f2 dIx (f2 gW (aA 1) (aA 0)) (fC (.int 1)))) aE) [some (.int (q.1:Int)),some (.dic false (dC F) (dP F))]=some (.tup [.tup (cI q.2.2)]):=eX (aD (cL g1 im) rfl) (by simp [D.imms,D.imm,im]) (by simp)
 exact aQ (aQ a1 g0 d1) a2 d2
theorem zw8{F:Frt}(nd:(F.map (·.1)).Nodup)(hc:∀q∈F,q.2.2.length<=900)(x:Option D):∀ks:List Int,(∀k∈ks,∃q∈F,k=(q.1:Int))->fQ [x,some (.dic false (dC F) (dP F))] gU yj5 (ks.map .int)=some ((ks.filterMap (zf3 F)).map zf2)
 |[],_=>rfl
 |k::ks,h=>by
  obtain⟨q,hq,rfl⟩:=h k Z0
  have ih:=zw8 nd hc x ks fun j hj=>h j (Z1 _ hj)
  have e:=wi0 nd hq (hc q hq)
  have p:zf3 F (q.1:Int)=some q:=by unfold zf3;rw [YR,lW nd hq];rfl
  rw [Z9,fQ,List.filterMap_cons_some p,Z9]
  show(some true).bind (fun b=>if b=true then(yj5 [some (.int (q.1:Int)),some (.dic false (dC F) (dP F))]).bind _ else _)=_
  rw [Z2,if_pos rfl,e,Z2,ih];rfl
theorem zg3:∀F:Frt,ze6 (dC F)=some (sH F)
 |[]=>rfl
 |q::F=>by
  show(ze6 (dC F)).map ((q.1:Int)::·)=_
  rw [zg3 F];rfl
abbrev zo9(n:Nat):tz6:=gP 2 1 (zo2 (oC n) rH)
theorem xq4{W:Int}{n:Nat}{r:List Pc}(hW0:0<=W)(hW1:W<=40)(hd:depR r<n)(h8:depR r<=16)(ho:okR r)(hl:(toksR r).length<=800):zo9 n [.tup (pcsD r),.int W]=some (.lst true ((rdL (cR W n r)).map zf2)):=by
 have g:Good W (fun cs t=>setR true 0 r cs ⟨#[]⟩=some ([],t)) (cR W n r):=xP (n:=n) hW0 hd ho (by omega)
 have hlen:=g.len hW1
 have hfew:∀q∈cR W n r,q.2.2.length<=900:=fun q hq=>by
  obtain⟨t,e,_⟩:=g.hit q hq
  have:=setR_len e
  rw [ZZ] at this
  omega
 have q:=uO hW0 hW1 hd h8 ho hl
 have s1:aW 2 (aJ (aX (cH "Front" "best" (aH (oC n) (aB (jI (aH rH (aB (aA 1) aE))) (aB (aA 0) aE)))))) [some (.tup (pcsD r)),some (.int W),none]=some (.nx,[some (.tup (pcsD r)),some (.int W),some (.dic false (dC (cR W n r)) (dP (cR W n r)))]):=
  bF (cL (xS (aU (aD (tT (aU (aD rfl rfl) (xT hW0))) (aD rfl rfl)) q)) (yp2 _))
 have nl:(sH (cR W n r)).length<=41:=by unfold sH;rw [Zb];exact hlen
 have e1:aH zb0 (aB (aA 2) aE) [some (.tup (pcsD r)),some (.int W),some (.dic false (dC (cR W n r)) (dP (cR W n r)))]=some (.lst true ((PySem.W.sortI (sH (cR W n r))).map .int)):=by
  refine aU (aD rfl rfl) ?_
  show(ze6 (dC (cR W n r))).bind _=_
  rw [zg3,Z2,if_pos (by omega)]
 have c:=zw8 g.nd hfew none (PySem.W.sortI (sH (cR W n r))) fun k hk=>by
  have hk':=(Yu _).mem_iff.mp hk
  obtain⟨q,hq,e⟩:=Ya.mp hk'
  exact⟨q,hq,e.symm⟩
 have im:∀ks:List Int,D.imms (ks.map .int)=true:=fun ks=>iP ks
 have sl:((PySem.W.sortI (sH (cR W n r))).map D.int).length<=sizeLine:=by
  rw [Zb,(Yu _).length_eq];exact sz (by omega)
 have e2:iB [none,some 2] (eJ (aH zb0 (aB (aA 2) aE))) gU yj5 [some (.tup (pcsD r)),some (.int W),some (.dic false (dC (cR W n r)) (dP (cR W n r)))]=some (.lst true ((rdL (cR W n r)).map zf2)):=by
  unfold iB eJ
  rw [e1,Z2]
  show((if D.imms ((PySem.W.sortI (sH (cR W n r))).map D.int)=true then some ((PySem.W.sortI (sH (cR W n r))).map D.int) else none).bind _)=_
  rw [if_pos (im _),Z2,if_pos sl]
  show(fQ [none,some (.dic false (dC (cR W n r)) (dP (cR W n r)))] gU yj5 _).bind _=_
  rw [c];rfl
 exact gL rfl (cS s1 ⟨_,cF e2⟩)
theorem wa8{F:Frt}(nd:(F.map (·.1)).Nodup){q:Nat×Way}:q∈rdL F↔q∈F:=by
 unfold rdL
 rw [YN]
 constructor
 ·rintro⟨k,hk,e⟩
  have hk':=(Yu _).mem_iff.mp hk
  obtain⟨p,hp,rfl⟩:=Ya.mp hk'
  unfold zf3 at e
  rw [YR,lW nd hp] at e
  cases e
  exact hp
 ·intro hq
  refine⟨(q.1:Int),(Yu _).mem_iff.mpr (Yf (f:=fun q:Nat×Way=>(q.1:Int)) hq),?_⟩
  unfold zf3
  rw [YR,lW nd hq];rfl
theorem oP:ixN 4 3=some 3:=by decide
theorem oQ:ixN 4 2=some 2:=by decide
theorem iL{α:Type}(a b c d:α):atI [a,b,c,d] 3=some d:=rfl
abbrev zp0:tz7:=gE 1 5 (bE [true]) rC
theorem wq2{N:List D}{a b c d:D}:za8 [1,2,3,4] (dI 0 bK aE vI) [some (.lst true (N++[.lst true [a,b,c,d]])),none,none,none,none,none]=some (.nx,[some (.lst true N),some a,some b,some c,some d,none]):=by
 simp! [fKs,vI,eJ,lY,nO,lC,fSl,dM,dW,gV,dU,za8,yi1,vJ,cJ,eB,fIO,eC,dG,eW,gD,gF,rJ,L2.iD,oP,oQ,iL]
theorem kd1{p:PSt}{k w:String}{b:Bool}(hp:p[1]? =some (some (.str k)))(h:decide (k=w)=b):fB (f2 dEq (aA 1) (fC (.str w))) p=some b:=by
 refine dO (aQ (mT hp) rfl ?_)
 show some (D.bl (decide ((k:Str)=(w:Str))))=_
 rw [<-h]
 congr 2
 exact YH.mpr (by rw [fV])
theorem xq5{f g:Gm}{fs:List Gm}(hk:1<=f.kd/\f.kd<=3)(hf:f.kd≠3->f.full=[])(hfl:f.full.length<=3)(hg:g.parts.length<=900):zp0 [.lst true (bY (f::g::fs))]=some (.non,[.lst true (bY (lH g (gN f)::fs))]):=by
 obtain⟨kd,n,full,parts⟩:=f
 have hfl':full.length<=3:=hfl
 have hz:(pcsD g.parts).length<sizeLine:=by rw [tJ];exact sz1 (by omega)
 have s2:∀K x0,aW 3 (aJ (f2 bQ (aA 3) (cZ (aB (aH fP (aB (aA 4) aE)) aE)))) [x0,some K,some (.int n),some (.lst true (rowsD full)),some (.lst true (pcsD parts)),none]=some (.nx,[x0,some K,some (.int n),some (.lst true (rowsD (full++[parts]))),some (.lst true (pcsD parts)),none]):=fun K x0=>by
  refine bF (aQ rfl (iA (aD (aU (aD rfl rfl) (if_pos (pcs_imm parts))) rfl) (Zg rfl)) ?_)
  rw [zX]
  refine xf5 (rows_imm full) (rows_imm [parts]) ?_
  rw [kE];show full.length+1<=1000;omega
 have s4:∀K x0 x4 (r0:List Pc) rs,aW 5 (aJ (cP (aB (fC (.str "group")) (aB (aX (f2 dIx (aA 3) (fC (.int 0)))) aE)))) [x0,some K,some (.int n),some (.lst true (rowsD (r0::rs))),x4,none]=some (.nx,[x0,some K,some (.int n),some (.lst true (rowsD (r0::rs))),x4,some (pcD (.group r0))]):=fun K x0 x4 r0 rs=>
  bF (eX (aD rfl (aD (cL (aQ rfl rfl (nC _ _)) (pcs_imm r0)) rfl)) (tI (.group r0)) (Zg rfl))
 have s7:∀(pc:Pc) K x3 x4,cX (dI 0 (dM 0 (dM 0 bK (dU (fC (.int 1)))) (fC (.int 3))) (aB (aX (aA 5)) aE) eR) [some (.lst true (bY fs++[gmD g])),K,some (.int n),x3,x4,some (pcD pc)]=some (.nx,[some (.lst true (bY fs++[gmD (lH g pc)])),K,some (.int n),x3,x4,some (pcD pc)]):=fun pc K x3 x4=>by
  have hi:=tI pc
  have e:gmD (lH g pc)= .lst true [.str (kdS g.kd),.int g.n,.lst true (rowsD g.full),.lst true (pcsD g.parts++[pcD pc])]:=by unfold gmD lH;rw [xF];rfl
  rw [e]
  unfold gmD
  generalize pcD pc=d at hi|-
  simp! [fKs,vI,eJ,lY,nO,lC,fSl,dM,dW,gV,dU,za8,yi1,vJ,cJ,eB,fIO,eC,dG,eW,gD,gF,rJ,L2.iD,oP,oQ,iL,hi,hz]
 suffices h:∃q1 q2 q3 q4 q5,rC [some (.lst true (bY (⟨kd,n,full,parts⟩::g::fs))),none,none,none,none,none]=some (.nx,[some (.lst true (bY fs++[gmD (lH g (gN ⟨kd,n,full,parts⟩))])),q1,q2,q3,q4,q5]) from by
  obtain⟨q1,q2,q3,q4,q5,hq⟩:=h
  unfold zp0 gE
  refine(if_pos rfl).trans ?_
  show(rC [some (.lst true (bY (⟨kd,n,full,parts⟩::g::fs))),none,none,none,none,none]).bind _=_
  rw [hq];rfl
 have s1:za8 [1,2,3,4] (dI 0 bK aE vI) [some (.lst true (bY (⟨kd,n,full,parts⟩::g::fs))),none,none,none,none,none]=_:=wq2
 have e:kd=1\/kd=2\/kd=3:=by have:1<=kd/\kd<=3:=hk;omega
 unfold rC
 rw [aO s1,aO (s2 _ _)]
 rcases e with rfl|rfl|rfl
 ·have e1:full=[]:=hf (by simp! [fKs,vI,eJ,lY,nO,lC,fSl,dM,dW,gV,dU,za8,yi1,vJ,cJ,eB,fIO,eC,dG,eW,gD,gF,rJ,L2.iD,oP,oQ,iL])
  subst e1
  exact⟨_,_,_,_,_,(aO (aY (fA (kd1 (k:="group") rfl (by decide))))).trans ((aO (s4 _ _ _ parts [])).trans ((aO (aY (kd1 (k:="group") rfl (by decide)))).trans ((aO (aY (kd1 (k:="group") rfl (by decide)))).trans (s7 _ _ _ _))))⟩
 ·have e1:full=[]:=hf (by simp! [fKs,vI,eJ,lY,nO,lC,fSl,dM,dW,gV,dU,za8,yi1,vJ,cJ,eB,fIO,eC,dG,eW,gD,gF,rJ,L2.iD,oP,oQ,iL])
  subst e1
  exact⟨_,_,_,_,_,(aO (aY (fA (kd1 (k:="hang") rfl (by decide))))).trans ((aO (s4 _ _ _ parts [])).trans ((aO ((bM (kd1 (k:="hang") rfl (by decide))).trans (bF (eX (aD rfl (aD (cL rfl rfl) (aD (cL (d:= .tup (pcsD parts)) (aQ rfl rfl (nC _ _)) (pcs_imm parts)) rfl))) (tI (.hang n parts)) (Zg rfl))))).trans ((aO (aY (kd1 (k:="hang") rfl (by decide)))).trans (s7 (.hang n parts) _ _ _))))⟩
 ·have fin:∀(r0:List Pc) (rs:List (List Pc)),qF ⟨3,n,full,parts⟩=r0::rs->∃q1 q2 q3 q4 q5,aT (aW 5 (aJ (cP (aB (fC (.str "group")) (aB (aX (f2 dIx (aA 3) (fC (.int 0)))) aE))))) (aT (fIf (aV (fB (f2 dEq (aA 1) (fC (.str "hang"))))) (aW 5 (aJ (cP (aB (fC (.str "hang")) (aB (aX (aA 2)) (aB (aX (f2 dIx (aA 3) (fC (.int 0)))) aE)))))) bO)
    (aT (fIf (aV (fB (f2 dEq (aA 1) (fC (.str "either"))))) (aW 5 (aJ (cP (aB (fC (.str "either")) (aB (aH fP (aB (aA 3) aE)) aE))))) bO) (cX (dI 0 (dM 0 (dM 0 bK (dU (fC (.int 1)))) (fC (.int 3))) (aB (aX (aA 5)) aE) eR)))) [some (.lst true (bY fs++[gmD g])),some (.str "either"),some (.int n),some (.lst true (rowsD (r0::rs))),some (.lst true (pcsD parts)),none]=some (.nx,[some (.lst true (bY fs++[gmD (lH g (gN ⟨3,n,full,parts⟩))])),q1,q2,q3,q4,q5]):=fun r0 rs he=>by
   have hs:gN ⟨3,n,full,parts⟩= .either (r0::rs):=by rw [<-he];rfl
   rw [hs]
   exact⟨_,_,_,_,_,(aO (s4 _ _ _ r0 rs)).trans ((aO (aY (kd1 rfl (by decide)))).trans ((aO ((bM (kd1 rfl (by decide))).trans (bF (eX (aD rfl (aD (aU (aD rfl rfl) (if_pos (rows_imm (r0::rs)))) rfl)) (tI (.either (r0::rs))) (Zg rfl))))).trans (s7 (.either (r0::rs)) _ _ _)))⟩
  have lt:∀x0 x4,fB (f2 dLt (aH dJ (aB (aA 3) aE)) (fC (.int 2))) [x0,some (.str "either"),some (.int n),some (.lst true (rowsD (full++[parts]))),x4,none]=some (decide ((((full++[parts]).length:Nat):Int)<2)):=fun x0 x4=>by
   refine dO (aQ (aU (aD rfl rfl) rfl) rfl ?_)
   show some (D.bl (decide ((((rowsD (full++[parts])).length:Nat):Int)<2)))=_
   rw [kE]
  cases full with
  | nil=>
   have s3:∀x0 x4,fIf (aV (cJ (fB (f2 dEq (aA 1) (fC (.str "either")))) (fB (f2 dLt (aH dJ (aB (aA 3) aE)) (fC (.int 2)))))) (aW 3 (aJ (f2 bQ (aA 3) (cZ (aB (cP (aB (cP (aB (fC (.str "word")) (aB (fC (.str "or")) aE))) aE)) aE))))) bO [x0,some (.str "either"),some (.int n),some (.lst true (rowsD ([]++[parts]))),x4,none]=some (.nx,[x0,some (.str "either"),some (.int n),some (.lst true (rowsD [parts,uZ])),x4,none]):=fun x0 x4=>
    (bM (gR (kd1 rfl (by decide)) (lt _ _))).trans (bF (aQ rfl (iA (aD (eX (aD (eX (aD rfl (aD rfl rfl)) rfl (Zg rfl)) rfl) rfl (Zg rfl)) rfl) (Zg rfl)) (xf5 (rows_imm [parts]) (rows_imm [uZ]) (Zg rfl))))
   show ∃q1 q2 q3 q4 q5,aT _ _ [some (.lst true (bY fs++[gmD g])),some (.str "either"),some (.int n),some (.lst true (rowsD ([]++[parts]))),some (.lst true (pcsD parts)),none]=_
   rw [aO (s3 _ _)]
   exact fin parts [uZ] rfl
  |cons r rs=>
   have lt':=lt (some (.lst true (bY fs++[gmD g]))) (some (.lst true (pcsD parts)))
   rw [Zd (by simp;omega)] at lt'
   show ∃q1 q2 q3 q4 q5,aT _ _ [some (.lst true (bY fs++[gmD g])),some (.str "either"),some (.int n),some (.lst true (rowsD (r::rs++[parts]))),some (.lst true (pcsD parts)),none]=_
   rw [aO (aY (gR (kd1 rfl (by decide)) lt'))]
   exact fin r (rs++[parts]) rfl
def ifR(GM:tz6)(GS:tz7)(GL:tz6):tz1:=
 (fIf (aV (cJ (fB (f2 dLt (aA 7) (fC (.int 4)))) (fB (f2 dLe (aH dJ (aB (aA 4) aE)) (aA 3)))))
  (aT (aW 9 (aJ (f2 dIx (cZ (fKs [.str "group",.str "group",.str "hang",.str "either"])) (aA 7))))
 (cX (dI 4 bK (aB (cZ (aB (aX (aA 9)) (aB (f2 dIx (cZ (aB (fC (.int 1)) (aB (fC (.int 2)) (aB (fC (.int 4)) (aB (f2 eE (f2 nD (aA 6) (fC (.int 13))) (fC (.int 13))) aE))))) (f2 eE (f2 nD (aA 6) (fC (.int 169))) (fC (.int 4)))) (aB (cZ aE) (aB (cZ aE) aE))))) aE) eR)))
  (fIf (aV (cJ (fB (f2 dEq (aA 7) (fC (.int 4)))) (fB (f2 dGt (aH dJ (aB (aA 4) aE)) (fC (.int 1))))))
  (cX (fIO [.io 4] GS))
  (fIf (aV (cJ (fB (f2 dLt (aA 7) (fC (.int 7)))) (cJ (fB (f2 dEq (aA 8) (fC (.str "either")))) (fB (f2 dLt (aH dJ (aB (f2 dIx (f2 dIx (aA 4) (dU (fC (.int 1)))) (fC (.int 2))) aE)) (fC (.int 3)))))))
  (aT (cX (dI 4 (dM 4 (dM 4 bK (dU (fC (.int 1)))) (fC (.int 2))) (aB (aH fP (aB (f2 dIx (f2 dIx (aA 4) (dU (fC (.int 1)))) (fC (.int 3))) aE)) aE) eR))
 (dW 4 (dM 4 bK (dU (fC (.int 1)))) (fC (.int 3)) (cZ aE)))
  (cX (dI 4 (dM 4 (dM 4 bK (dU (fC (.int 1)))) (fC (.int 3))) (aB (aH GL (aB (aH GM (aB (aA 0) (aB (aA 5) (aB (fC (.int 32)) aE)))) aE)) aE) eR)))))
def yM(GM:tz6)(GS:tz7)(GL:tz6):tz1:=
   (aT (aW 6 (aJ (aH GM (aB (aA 0) (aB (aA 5) (aB (fC (.int 31)) aE))))))
 (aT (aW 7 (aJ (f2 eE (aA 6) (fC (.int 13)))))
 (aT (aW 8 (aJ (aX (f2 dIx (f2 dIx (aA 4) (dU (fC (.int 1)))) (fC (.int 0))))))
 (ifR GM GS GL))))
section
variable{GM:tz6}{GS:tz7}{GL:tz6}{S:D}{x1 x2 x6 x7 x8 x9:Option D}{nest:Nat}{f:Gm}{fs:List Gm}{i m:Int}
theorem xi2(hm:GM [S,.int i,.int 31]=some (.int m)):yM GM GS GL [some S,x1,x2,some (.int nest),some (.lst true (bY (f::fs))),some (.int i),x6,x7,x8,x9]
  =ifR GM GS GL [some S,x1,x2,some (.int nest),some (.lst true (bY (f::fs))),some (.int i),some (.int m),some (.int (m % 13)),some (.str (kdS f.kd)),x9]:=by
 unfold yM
 refine(aO (bF (aU rfl hm))).trans ?_
 refine(aO (bF (d:= .int (m % 13)) (by simp! [fKs,dM,dW,gV,dU,cJ,eB,fIO,eC,dG,eW,gD,gF,rJ,L2.iD,oP,oQ,iL]))).trans ?_
 exact aO (bF (d:= .str (kdS f.kd)) (by simp! [fKs,dM,dW,gV,dU,cJ,eB,fIO,eC,dG,eW,gD,gF,rJ,L2.iD,oP,oQ,iL,bY,gmD]))
theorem wi1(a k:Int)(ha:0<=a/\a<=12):∃n:Int,atI [D.int 1,.int 2,.int 4,.int a] (k % 4)=some (.int n)/\0<=n/\n<=12:=by
 have h0:=ZF k (show(4:Int)≠0 by decide)
 have h1:=Zy k (show(0:Int)<4 by decide)
 obtain⟨d,hd,e⟩:=vX [D.int 1,.int 2,.int 4,.int a] (k % 4) h0 (by simpa using h1)
 simp only [Z4,ZT,X9] at hd
 rcases hd with rfl|rfl|rfl|rfl
 ·exact⟨_,e,by decide,by decide⟩
 ·exact⟨_,e,by decide,by decide⟩
 ·exact⟨_,e,by decide,by decide⟩
 ·exact⟨_,e,ha⟩
theorem wa9(m:Int)(h0:0<=m % 13)(h:m % 13<4):∃kd:Nat,atI [D.str (Str.ofString "group"),.str (Str.ofString "group"),.str (Str.ofString "hang"),.str (Str.ofString "either")] (m % 13)=some (.str (kdS kd))/\1<=kd/\kd<=3:=by
 have hn:m % 13=0\/m % 13=1\/m % 13=2\/m % 13=3:=by omega
 rcases hn with e|e|e|e<;>rw [e]
 ·exact⟨1,rfl,by decide,by decide⟩
 ·exact⟨1,rfl,by decide,by decide⟩
 ·exact⟨2,rfl,by decide,by decide⟩
 ·exact⟨3,rfl,by decide,by decide⟩
theorem zm5{a b:Prop}[Decidable a][Decidable b](h:¬(a/\b)):(decide a&&decide b)=false:=by
 by_cases ha:a
 ·rw [Zd (fun hb=>h ⟨ha,hb⟩),Bool.and_false]
 ·rw [Zd ha,XJ]
theorem yp7{a b:Prop}[Decidable a][Decidable b](ha:a)(hb:b):(decide a&&decide b)=true:=by rw [Zq ha,Zq hb];rfl
theorem zm6{f g:tz4}{p:PSt}{a b:Bool}(h1:f p=some a)(h2:g p=some b):cJ f g p=some (a&&b):=by
 cases a with
 |true=>exact gR h1 h2
 |false=>exact fA h1
theorem yw0{N:List D}{w:Int}{x0 x5 x6:Option D}:cJ (fB (f2 dLt (aA 7) (fC (.int 4)))) (fB (f2 dLe (aH dJ (aB (aA 4) aE)) (aA 3))) [x0,x1,x2,some (.int nest),some (.lst true N),x5,x6,some (.int w),x8,x9]=some (decide (w<4)&&decide ((N.length:Int)<=(nest:Int))):=
 zm6 (dO (aQ rfl rfl rfl)) (dO (aQ (aU (aD rfl rfl) rfl) rfl rfl))
theorem xu2{N:List D}{w:Int}{x0 x3 x5 x6:Option D}:cJ (fB (f2 dEq (aA 7) (fC (.int 4)))) (fB (f2 dGt (aH dJ (aB (aA 4) aE)) (fC (.int 1)))) [x0,x1,x2,x3,some (.lst true N),x5,x6,some (.int w),x8,x9]=some (decide (w=4)&&decide ((1:Int)<(N.length:Int))):=
 zm6 (dO (aQ rfl rfl rfl)) (dO (aQ (aU (aD rfl rfl) rfl) rfl rfl))
theorem yp8{p:PSt}{j:Nat}{M:List D}{d:D}(hp:p[j]? =some (some (.lst true (M++[d])))):f2 dIx (aA j) (dU (fC (.int 1))) p=some d:=aQ (mT hp) rfl (show atI (M++[d]) (-1)=_ from L2.iD _ _)
theorem xu3{M R:List D}{w:Int}{k:String}{a b c:D}{x0 x3 x5 x6:Option D}:cJ (fB (f2 dLt (aA 7) (fC (.int 7)))) (cJ (fB (f2 dEq (aA 8) (fC (.str "either")))) (fB (f2 dLt (aH dJ (aB (f2 dIx (f2 dIx (aA 4) (dU (fC (.int 1)))) (fC (.int 2))) aE)) (fC (.int 3))))) [x0,x1,x2,x3,some (.lst true (M++[.lst true [a,b,.lst true R,c]])),x5,x6,some (.int w),some (.str k),x9]=some (decide (w<7)&&(decide (k="either")&&decide ((R.length:Int)<3))):=by
 refine zm6 (dO (aQ rfl rfl rfl)) (zm6 (dO (aQ rfl rfl ?_)) (dO (aQ (aU (aD (aQ (yp8 (j:=4) rfl) rfl (yv4 _ _ _ _)) rfl) rfl) rfl rfl)))
 show some (D.bl (decide ((k:Str)=(("either":String):Str))))=_
 congr 2
 exact YH.mpr (by rw [fV])
theorem xi3{p:PSt}{j:Nat}{M:List D}{k n:Nat}{l:List D}(hp:p[j]? =some (some (.lst true (M++[.lst true l]))))(hk:ixN l.length (k:Int)=some n):dM j (dM j bK (dU (fC (.int 1)))) (fC (.int (k:Int))) p=some [.ix M.length,.ix n]:=by
 have e1:ixN (M++[D.lst true l]).length (-1)=some M.length:=by rw [Z3];exact gD _
 have e2:(M++[D.lst true l])[M.length]? =some (.lst true l):=by simp! [fKs,dM,dW,gV,dU,cJ,eB,fIO,eC,dG,eW,gD,gF,rJ,L2.iD,oP,oQ,iL]
 simp! [fKs,dM,dW,gV,dU,cJ,eB,fIO,eC,dG,eW,gD,gF,rJ,L2.iD,oP,oQ,iL,dM,hp,e1,e2,hk,dU]
theorem xq6{α:Type}{h:D->Option (α×D)}{M l:List D}{n:Nat}{d d':D}{r:α}(hl:l[n]? =some d)(e:h d=some (r,d')):fY h (.lst true (M++[.lst true l])) [.ix M.length,.ix n]=some (r,.lst true (M++[.lst true (l.set n d')])):=by
 have e2:(M++[D.lst true l])[M.length]? =some (.lst true l):=by simp! [fKs,dM,dW,gV,dU,cJ,eB,fIO,eC,dG,eW,gD,gF,rJ,L2.iD,oP,oQ,iL]
 show(((M++[D.lst true l])[M.length]?).bind _)=_
 rw [e2,Z2]
 show(((l[n]?).bind _).bind _)=_
 rw [hl,Z2]
 show(((h d).bind _).bind _)=_
 rw [e]
 show some (r,D.lst true ((M++[D.lst true l]).set M.length _))=_
 rw [gF]
theorem yg3{p:PSt}{j k n:Nat}{M l xs:List D}{fe:tz2}{y:D}(hp:p[j]? =some (some (.lst true (M++[.lst true l]))))(hk:ixN l.length (k:Int)=some n)(hl:l[n]? =some (.lst true xs))(h:fe p=some y)(hz:xs.length<sizeLine):cX (dI j (dM j (dM j bK (dU (fC (.int 1)))) (fC (.int (k:Int)))) (aB fe aE) eR) p=some (.nx,p.set j (some (.lst true (M++[.lst true (l.set n (.lst true (xs++[y])))])))):=by
 refine tK (d:= .non) ?_
 unfold dI
 rw [hp,YY,Z2,xi3 hp hk,Z2,aD h rfl,Z2,xq6 hl (show eR [y] (.lst true xs)=_ from if_pos hz)]
 rfl
theorem yw1{p:PSt}{j k n:Nat}{M l:List D}{fe:tz2}{y:D}(hp:p[j]? =some (some (.lst true (M++[.lst true l]))))(hk:ixN l.length (k:Int)=some n)(h:fe p=some y):dW j (dM j bK (dU (fC (.int 1)))) (fC (.int (k:Int))) fe p=some (.nx,p.set j (some (.lst true (M++[.lst true (l.set n y)])))):=by
 have e1:ixN (M++[D.lst true l]).length (-1)=some M.length:=by rw [Z3];exact gD _
 have e2:(M++[D.lst true l])[M.length]? =some (.lst true l):=by simp! [fKs,dM,dW,gV,dU,cJ,eB,fIO,eC,dG,eW,gD,gF,rJ,L2.iD,oP,oQ,iL]
 have ep:dM j bK (dU (fC (.int 1))) p=some [.ix M.length]:=by simp! [fKs,dM,dW,gV,dU,cJ,eB,fIO,eC,dG,eW,gD,gF,rJ,L2.iD,oP,oQ,iL,dM,hp,e1,dU]
 unfold dW
 rw [h,Z2,hp,YY,Z2,ep,Z2]
 show((fY (gV (.int (k:Int)) y) (.lst true (M++[.lst true l])) [.ix M.length]).bind _)=_
 have em:fY (gV (.int (k:Int)) y) (.lst true (M++[.lst true l])) [.ix M.length]=some ((),.lst true (M++[.lst true (l.set n y)])):=by
  show(((M++[D.lst true l])[M.length]?).bind _)=_
  rw [e2,Z2]
  show(((ixN l.length (k:Int)).bind _).bind _)=_
  rw [hk]
  show some ((),D.lst true ((M++[D.lst true l]).set M.length _))=_
  rw [gF]
 rw [em];rfl
theorem xi4(hw:m % 13<4)(hl:(f::fs).length<=nest)(hz:(f::fs).length<=900):∃kd n y9,ifR GM GS GL [some S,x1,x2,some (.int nest),some (.lst true (bY (f::fs))),some (.int i),some (.int m),some (.int (m % 13)),x8,x9]
  =some (.nx,[some S,x1,x2,some (.int nest),some (.lst true (bY (⟨kd,n,[],[]⟩::f::fs))),some (.int i),some (.int m),some (.int (m % 13)),x8,y9])/\(1<=kd/\kd<=3)/\0<=n/\n<=12:=by
 have h0:=ZF m (show(13:Int)≠0 by decide)
 have d0:=ZF (m/13) (show(13:Int)≠0 by decide)
 have d1:=Zy (m/13) (show(0:Int)<13 by decide)
 obtain⟨kd,q1,hk1,hk2⟩:=wa9 m h0 hw
 obtain⟨n,q2,hn1,hn2⟩:=wi1 (m/13 % 13) (m/169) ⟨d0,Wl d1⟩
 have hz':(bY (f::fs)).length<sizeLine:=by rw [pN];exact sz1 (by omega)
 have hl':((bY (f::fs)).length:Int)<=(nest:Int):=by rw [pN];exact Wd.mpr hl
 refine⟨kd,n,some (.str (kdS kd)),?_,⟨hk1,hk2⟩,hn1,hn2⟩
 have e:bY (⟨kd,n,[],[]⟩::f::fs)=bY (f::fs)++[.lst true [.str (kdS kd),.int n,.lst true [],.lst true []]]:=rfl
 rw [e]
 generalize bY (f::fs)=N at hz' hl'|-
 unfold ifR
 refine(bM (yw0.trans (by rw [yp7 hw hl']))).trans ((aO (bF (aQ (iA rfl (Zg rfl)) rfl q1))).trans ?_)
 refine tK (d:= .non) ?_
 unfold dI
 rw [aD (iA (aD (cL (d:= .str (kdS kd)) rfl rfl) (aD (aQ (iA (aD rfl (aD rfl (aD rfl (aD (aQ (aQ rfl rfl ((eW _ _).trans (if_pos (by decide)))) rfl ((dG _ _).trans (if_pos (by decide)))) rfl)))) (Zg rfl)) (aQ (aQ rfl rfl ((eW _ _).trans (if_pos (by decide)))) rfl ((dG _ _).trans (if_pos (by decide)))) q2) (aD (iA rfl (Zg rfl)) (aD (iA rfl (Zg rfl)) rfl)))) (Zg rfl)) rfl]
 show((eR [.lst true [.str (kdS kd),.int n,.lst true [],.lst true []]] (.lst true N)).bind _)=_
 rw [show eR [.lst true [.str (kdS kd),.int n,.lst true [],.lst true []]] (.lst true N)=_ from if_pos hz']
 rfl
theorem xi5{g:Gm}(q:GS [.lst true (bY (f::g::fs))]=some (.non,[.lst true (bY (lH g (gN f)::fs))]))(hw:m % 13=4):
  ifR GM GS GL [some S,x1,x2,some (.int nest),some (.lst true (bY (f::g::fs))),some (.int i),some (.int m),some (.int (m % 13)),x8,x9]
  =some (.nx,[some S,x1,x2,some (.int nest),some (.lst true (bY (lH g (gN f)::fs))),some (.int i),some (.int m),some (.int (m % 13)),x8,x9]):=by
 have hl:(1:Int)<((bY (f::g::fs)).length:Int):=by rw [pN];simp;omega
 unfold ifR
 exact(eI (cW (yw0.trans (by rw [zm5 (fun z=>by omega)])))).trans ((bM (xu2.trans (by rw [yp7 hw hl]))).trans (tK (zY (vY rfl jO) q rfl)))
theorem yp9(hw:¬(m % 13<4/\(f::fs).length<=nest))(hw4:¬(m % 13=4/\fs≠[])){F1 F2 F3:tz1}:fIf (aV (cJ (fB (f2 dLt (aA 7) (fC (.int 4)))) (fB (f2 dLe (aH dJ (aB (aA 4) aE)) (aA 3))))) F1 (fIf (aV (cJ (fB (f2 dEq (aA 7) (fC (.int 4)))) (fB (f2 dGt (aH dJ (aB (aA 4) aE)) (fC (.int 1)))))) F2 F3) [some S,x1,x2,some (.int nest),some (.lst true (bY (f::fs))),some (.int i),some (.int m),some (.int (m % 13)),x8,x9]
  =F3 [some S,x1,x2,some (.int nest),some (.lst true (bY (f::fs))),some (.int i),some (.int m),some (.int (m % 13)),x8,x9]:=by
 have hl:(bY (f::fs)).length=(f::fs).length:=pN _
 have hn:¬(m % 13=4/\(1:Int)<((f::fs).length:Int)):=fun z=>hw4 ⟨z.1,fun e=>by rw [e] at z;exact absurd z.2 (Int.lt_irrefl 1)⟩
 exact(eI (cW (yw0.trans (by rw [hl,zm5 (fun z=>hw ⟨z.1,Wd.mp z.2⟩)])))).trans (eI (cW (xu2.trans (by rw [hl,zm5 hn]))))
theorem wb0(hw:¬(m % 13<4/\(f::fs).length<=nest))(hw4:¬(m % 13=4/\fs≠[]))(hw7:m % 13<7)(hk:f.kd=3)(hf:f.full.length<3):
  ifR GM GS GL [some S,x1,x2,some (.int nest),some (.lst true (bY (f::fs))),some (.int i),some (.int m),some (.int (m % 13)),some (.str (kdS f.kd)),x9]
  =some (.nx,[some S,x1,x2,some (.int nest),some (.lst true (bY ({f with full:=f.full++[f.parts],parts:=[]}::fs))),some (.int i),some (.int m),some (.int (m % 13)),some (.str (kdS f.kd)),x9]):=by
 unfold ifR
 refine(yp9 hw hw4).trans ?_
 obtain⟨kd,n,full,parts⟩:=f
 have hk':kd=3:=hk
 subst hk'
 have hz:(rowsD full).length<sizeLine:=by rw [kE];exact sz1 (by have:full.length<3:=hf;omega)
 have hf':((rowsD full).length:Int)<3:=by rw [kE];exact Int.ofNat_lt.mpr hf
 have er:rowsD (full++[parts])=rowsD full++[.tup (pcsD parts)]:=by rw [zX];rfl
 have b3:(decide (m % 13<7)&&(decide (kdS 3="either")&&decide (((rowsD full).length:Int)<3)))=true:=by rw [Zq hw7,Zq hf'];rfl
 have s1:=yg3 (p:=[some S,x1,x2,some (.int nest),some (.lst true (bY (⟨3,n,full,parts⟩::fs))),some (.int i),some (.int m),some (.int (m % 13)),some (.str (kdS 3)),x9]) (j:=4) (k:=2) (n:=2) (M:=bY fs) (fe:=aH fP (aB (f2 dIx (f2 dIx (aA 4) (dU (fC (.int 1)))) (fC (.int 3))) aE)) rfl rfl rfl (aU (aD (aQ (yp8 (M:=bY fs) rfl) rfl (wq0 _ _ _ _)) rfl) (if_pos (pcs_imm parts))) hz
 rw [<-er] at s1
 have s2:=yw1 (p:=[some S,x1,x2,some (.int nest),some (.lst true (bY fs++[.lst true [.str (kdS 3),.int n,.lst true (rowsD (full++[parts])),.lst true (pcsD parts)]])),some (.int i),some (.int m),some (.int (m % 13)),some (.str (kdS 3)),x9]) (j:=4) (k:=3) (n:=3) (M:=bY fs) (fe:=cZ aE) (y:= .lst true []) rfl rfl (iA rfl (Zg rfl))
 exact(bM (xu3.trans (ZN some b3))).trans ((aO s1).trans s2)
theorem xi6{l:Leaf}{m2:Int}(hm2:GM [S,.int i,.int 32]=some (.int m2))(hL:GL [.int m2]=some (bC l))(hz:f.parts.length<=900)
  (hw:¬(m % 13<4/\(f::fs).length<=nest)) (hw4:¬(m % 13=4/\fs≠[])) (h3:¬(m % 13<7/\f.kd=3/\f.full.length<3)) (hkd:f.kd<=3):
  ifR GM GS GL [some S,x1,x2,some (.int nest),some (.lst true (bY (f::fs))),some (.int i),some (.int m),some (.int (m % 13)),some (.str (kdS f.kd)),x9]
  =some (.nx,[some S,x1,x2,some (.int nest),some (.lst true (bY (lH f (.leaf l)::fs))),some (.int i),some (.int m),some (.int (m % 13)),some (.str (kdS f.kd)),x9]):=by
 have hz':(pcsD f.parts).length<sizeLine:=by rw [tJ];exact sz1 (by omega)
 have ep:pcsD (f.parts++[.leaf l])=pcsD f.parts++[bC l]:=by rw [xF];rfl
 have b3:(decide (m % 13<7)&&(decide (kdS f.kd="either")&&decide (((rowsD f.full).length:Int)<3)))=false:=by
  by_cases a1:m % 13<7
  ·rw [zm5,Bool.and_false]
   intro ⟨z1,z2⟩
   rw [kE] at z2
   have hk:f.kd=0\/f.kd=1\/f.kd=2\/f.kd=3:=by omega
   rcases hk with e|e|e|e
   ·rw [e] at z1;exact absurd z1 (by decide)
   ·rw [e] at z1;exact absurd z1 (by decide)
   ·rw [e] at z1;exact absurd z1 (by decide)
   ·exact h3 ⟨a1,e,Int.ofNat_lt.mp z2⟩
  ·rw [Zd a1,XJ]
 unfold ifR
 refine(yp9 hw hw4).trans ((eI (cW (xu3.trans (by rw [b3])))).trans ?_)
 have e:bY (lH f (.leaf l)::fs)=bY fs++[.lst true [.str (kdS f.kd),.int f.n,.lst true (rowsD f.full),.lst true (pcsD f.parts++[bC l])]]:=by rw [<-ep];rfl
 rw [e]
 have s1:=yg3 (p:=[some S,x1,x2,some (.int nest),some (.lst true (bY (f::fs))),some (.int i),some (.int m),some (.int (m % 13)),some (.str (kdS f.kd)),x9]) (j:=4) (k:=3) (n:=3) (M:=bY fs) (fe:=aH GL (aB (aH GM (aB (aA 0) (aB (aA 5) (aB (fC (.int 32)) aE)))) aE)) rfl rfl rfl (aU (aD (aU (aD rfl (aD rfl (aD rfl rfl))) hm2) rfl) hL) hz'
 exact s1
end
section
variable{GM:tz6}{GS:tz7}{GL:tz6}{S:D}{x1 x2 x6 x7 x8 x9:Option D}{nest k:Nat}{fs:List Gm}{i:Int}
theorem yw2{f:Gm}{fs:List Gm}(h:yj2 (f::fs)):f.kd<=3:=by
 cases fs with
 |nil=>have:f.kd=0:=h;omega
 |cons g fs=>exact h.1.2
theorem wb1(hS:∀(f g:Gm) (fs:List Gm),(1<=f.kd/\f.kd<=3)->(f.kd≠3->f.full=[])->f.full.length<=3->g.parts.length<=900->GS [.lst true (bY (f::g::fs))]=some (.non,[.lst true (bY (lH g (gN f)::fs))]))
  (hL:∀m,0<=m->∃l,GL [.int m]=some (bC l)/\fI l) (hM:∀s:Int,s=31\/s=32->∃m,GM [S,.int i,.int s]=some (.int m)/\0<=m) (h:GInv nest k fs) (hk:4*k+4<=800) (hn:nest<=100):
  ∃fs' y6 y7 y8 y9,yM GM GS GL [some S,x1,x2,some (.int nest),some (.lst true (bY fs)),some (.int i),x6,x7,x8,x9]=some (.nx,[some S,x1,x2,some (.int nest),some (.lst true (bY fs')),some (.int i),y6,y7,y8,y9])/\GInv nest (k+1) fs':=by
 obtain⟨m,hm,hm0⟩:=hM 31 (.inl rfl)
 obtain⟨m2,hm2,hm20⟩:=hM 32 (.inr rfl)
 have hln:=h.len
 cases fs with
 |nil=>exact h.kinds.elim
 | cons f fs=>
  have hd:=xi2 (GS:=GS) (GL:=GL) (x1:=x1) (x2:=x2) (x6:=x6) (x7:=x7) (x8:=x8) (x9:=x9) (nest:=nest) (f:=f) (fs:=fs) hm
  by_cases c1:m % 13<4/\(f::fs).length<=nest
  ·obtain⟨kd,n,y9,q,h1,h2⟩:=xi4 (GM:=GM) (GS:=GS) (GL:=GL) (S:=S) (x1:=x1) (x2:=x2) (x8:=some (.str (kdS f.kd))) (x9:=x9) (i:=i) c1.1 c1.2 (by omega)
   exact⟨_,_,_,_,y9,hd.trans q,h.opener h1 h2 c1.2⟩
  ·by_cases c2:m % 13=4/\fs≠[]
   ·cases fs with
    |nil=>exact absurd rfl c2.2
    |cons g fs=>
     have hf:=h.each f Z0
     have hg:=h.parts (f:=g) (Z1 _ Z0)
     have q:=xi5 (GM:=GM) (GL:=GL) (S:=S) (x1:=x1) (x2:=x2) (x8:=some (.str (kdS f.kd))) (x9:=x9) (nest:=nest) (i:=i) (hS f g fs h.kinds.1 hf.2.2.2.1 hf.2.2.1 (by omega)) c2.1
     exact⟨_,_,_,_,_,hd.trans q,h.shut.more (by omega)⟩
   ·by_cases c3:m % 13<7/\f.kd=3/\f.full.length<3
    ·have q:=wb0 (GM:=GM) (GS:=GS) (GL:=GL) (S:=S) (x1:=x1) (x2:=x2) (x9:=x9) (i:=i) c1 c2 c3.1 c3.2.1 c3.2.2
     exact⟨_,_,_,_,_,hd.trans q,h.orr c3.2.2 c3.2.1⟩
    ·obtain⟨l,hl,hlk⟩:=hL m2 hm20
     have q:=xi6 (GM:=GM) (GS:=GS) (GL:=GL) (S:=S) (x1:=x1) (x2:=x2) (x9:=x9) (i:=i) hm2 hl (by have:=h.parts (f:=f) Z0;omega) c1 c2 c3 (yw2 h.kinds)
     exact⟨_,_,_,_,_,hd.trans q,h.leaf hlk⟩
theorem yq0(hS:∀(f g:Gm) (fs:List Gm),(1<=f.kd/\f.kd<=3)->(f.kd≠3->f.full=[])->f.full.length<=3->g.parts.length<=900->GS [.lst true (bY (f::g::fs))]=some (.non,[.lst true (bY (lH g (gN f)::fs))]))
  (hL:∀m,0<=m->∃l,GL [.int m]=some (bC l)/\fI l) (hn:nest<=100):∀(l:List Int) (fs:List Gm) (k:Nat) (x5 x6 x7 x8 x9:Option D),(∀j∈l,∀s:Int,s=31\/s=32->∃m,GM [S,.int j,.int s]=some (.int m)/\0<=m)->GInv nest k fs->4*(k+l.length)+4<=800->
  ∃fs' y5 y6 y7 y8 y9,dE 5 (yM GM GS GL) (l.map .int) [some S,x1,x2,some (.int nest),some (.lst true (bY fs)),x5,x6,x7,x8,x9]=some (.nx,[some S,x1,x2,some (.int nest),some (.lst true (bY fs')),y5,y6,y7,y8,y9])/\GInv nest (k+l.length) fs'
 |[],fs,k,x5,x6,x7,x8,x9,_,h,_=>⟨fs,x5,x6,x7,x8,x9,by simp! [fIO,eC,iL,dE],h⟩
 |j::l,fs,k,x5,x6,x7,x8,x9,hM,h,hk=>by
  rw [Z6] at hk
  obtain⟨fs1,y6,y7,y8,y9,q,h1⟩:=wb1 (x1:=x1) (x2:=x2) (x6:=x6) (x7:=x7) (x8:=x8) (x9:=x9) hS hL (hM j Z0) h (by omega) hn
  obtain⟨fs2,z5,z6,z7,z8,z9,q2,h2⟩:=yq0 hS hL hn l fs1 (k+1) (some (.int j)) y6 y7 y8 y9 (fun i hi=>hM i (Z1 _ hi)) h1 (by omega)
  refine⟨fs2,z5,z6,z7,z8,z9,?_,(show k+1+l.length=k+(j::l).length by rw [Z6];omega)▸h2⟩
  rw [<-q2]
  show(yM GM GS GL [some S,x1,x2,some (.int nest),some (.lst true (bY fs)),some (.int j),x6,x7,x8,x9]).bind _=_
  rw [q];rfl
def zp1(GS:tz7)(n:Nat):tz1:=lX (aV (fB (f2 dGt (aH dJ (aB (aA 4) aE)) (fC (.int 1))))) (cX (fIO [.io 4] GS)) n
theorem yq1{x0 x3 x5:Option D}(hS:∀(f g:Gm) (fs:List Gm),(1<=f.kd/\f.kd<=3)->(f.kd≠3->f.full=[])->f.full.length<=3->g.parts.length<=900->GS [.lst true (bY (f::g::fs))]=some (.non,[.lst true (bY (lH g (gN f)::fs))]))(hk:4*k+4<=800):
  ∀(n:Nat) (fs:List Gm),fs.length<=n->GInv nest k fs->∃f,zp1 GS n [x0,x1,x2,x3,some (.lst true (bY fs)),x5,x6,x7,x8,x9]=some (.nx,[x0,x1,x2,x3,some (.lst true (bY [f])),x5,x6,x7,x8,x9])/\GInv nest k [f]
 |0,[],_,h=>h.kinds.elim
 |0,_::_,hl,_=>by simp! [fIO,eC,iL] at hl
 |n+1,[],_,h=>h.kinds.elim
 |n+1,[f],_,h=>by
  refine⟨f,?_,h⟩
  unfold zp1
  rw [lX]
  have hl:(bY [f]).length=1:=rfl
  generalize bY [f]=N at hl|-
  simp! [fIO,eC,iL,hl]
 |n+1,f::g::fs,hl,h=>by
  have hf:=h.each f Z0
  have hg:=h.parts (f:=g) (Z1 _ Z0)
  have q:=hS f g fs h.kinds.1 hf.2.2.2.1 hf.2.2.1 (by omega)
  obtain⟨f',w,h'⟩:=yq1 (x0:=x0) (x3:=x3) (x5:=x5) hS hk n (lH g (gN f)::fs) (by simp! [fIO,eC,iL] at hl|-;omega) h.shut
  refine⟨f',?_,h'⟩
  rw [<-w]
  have hl2:(bY (f::g::fs)).length=fs.length+1+1:=by rw [pN];rfl
  have hpos:(1:Int)<((fs.length:Int)+1+1):=by omega
  show lX _ _ (n+1) _=_
  rw [lX]
  generalize bY (f::g::fs)=N at q hl2|-
  generalize bY (lH g (gN f)::fs)=M at q|-
  simp! [fIO,eC,iL,hl2,hpos,q,zp1]
def wt0(n:Nat)(GM:tz6)(GS:tz7)(GL:tz6):tz1:=
 aT (aW 4 (aJ (cZ (aB (cZ (aB (fC (.str "top")) (aB (fC (.int 0)) (aB (cZ aE) (aB (cZ aE) aE))))) aE)))) (aT (gT 5 (uP (aB (aA 1) (aB (f2 bQ (aA 1) (aA 2)) aE))) (yM GM GS GL)) (aT (zp1 GS n) (bX (aJ (aH fP (aB (f2 dIx (f2 dIx (aA 4) (fC (.int 0))) (fC (.int 3))) aE))))))
structure RowOk(nest w:Nat)(r:List Pc):Prop where
 ok:okR r
 dep:depR r<=nest
 len:(toksR r).length<=w
theorem wn5{a many n:Nat}(hS:∀(f g:Gm) (fs:List Gm),(1<=f.kd/\f.kd<=3)->(f.kd≠3->f.full=[])->f.full.length<=3->g.parts.length<=900->GS [.lst true (bY (f::g::fs))]=some (.non,[.lst true (bY (lH g (gN f)::fs))]))
  (hL:∀m,0<=m->∃l,GL [.int m]=some (bC l)/\fI l) (hM:∀j s:Int,(a:Int)<=j/\j<a+many->s=31\/s=32->∃m,GM [S,.int j,.int s]=some (.int m)/\0<=m) (hn:nest<=100) (hmany:many<=90) (ha:a<=1000) (hnn:nest<n):
  ∃r,gP 4 6 (wt0 n GM GS GL) [S,.int a,.int many,.int nest]=some (.tup (pcsD r))/\RowOk nest (4*many) r:=by
 have i0:GInv nest 0 [⟨0,0,[],[]⟩]:=⟨by simp! [fIO,eC,iL],by decide,fun f hf=>by rw [Za.mp hf];exact⟨trivial,trivial,ZJ _,fun _=>rfl,Yg _,by decide⟩,rfl,⟨ZJ _,ZJ _,trivial⟩⟩
 obtain⟨fs1,y5,y6,y7,y8,y9,q,h1⟩:=yq0 (GM:=GM) (GS:=GS) (GL:=GL) (S:=S) (x1:=some (.int a)) (x2:=some (.int many)) hS hL hn ((List.range many).map fun(k:Nat)=>(a:Int)+(k:Int)) [⟨0,0,[],[]⟩] 0 none none none none none
  (fun j hj s hs=>by obtain⟨k,hk,rfl⟩:=Ya.mp hj;have:=X7.mp hk;exact hM _ s (by omega) hs) i0 (by simp;omega)
 rw [<-wg9] at q
 rw [Zb,Yl,YM] at h1
 have hln:=h1.len
 obtain⟨f,w,h2⟩:=yq1 (GS:=GS) (x0:=some S) (x1:=some (.int a)) (x2:=some (.int many)) (x3:=some (.int nest)) (x5:=y5) (x6:=y6) (x7:=y7) (x8:=y8) (x9:=y9) hS (by omega) n fs1 (by omega) h1
 have hf:=h2.each f Z0
 have hd:=h2.deep.1
 have hwt:wF f+0<=4*many+4:=h2.wt
 refine⟨f.parts,?_,hf.2.1,by simpa using hd,by unfold wF at hwt;omega⟩
 have e:((a:Int)+(many:Int)-(a:Int)).toNat=many:=by omega
 have s0:aW 4 (aJ (cZ (aB (cZ (aB (fC (.str "top")) (aB (fC (.int 0)) (aB (cZ aE) (aB (cZ aE) aE))))) aE))) [some S,some (.int a),some (.int many),some (.int nest),none,none,none,none,none,none]=some (.nx,[some S,some (.int a),some (.int many),some (.int nest),some (.lst true (bY [⟨0,0,[],[]⟩])),none,none,none,none,none]):=bF rfl
 have s1:gT 5 (uP (aB (aA 1) (aB (f2 bQ (aA 1) (aA 2)) aE))) (yM GM GS GL) [some S,some (.int a),some (.int many),some (.int nest),some (.lst true (bY [⟨0,0,[],[]⟩])),none,none,none,none,none]=some (.nx,[some S,some (.int a),some (.int many),some (.int nest),some (.lst true (bY fs1)),y5,y6,y7,y8,y9]):=by
  have e1:aB (aA 1) (aB (f2 bQ (aA 1) (aA 2)) aE) [some S,some (.int a),some (.int many),some (.int nest),some (.lst true (bY [⟨0,0,[],[]⟩])),none,none,none,none,none]=some [.int a,.int ((a:Int)+(many:Int))]:=rfl
  unfold gT uP
  rw [e1,Z2,wa0 (by omega) (by omega) (by omega) (by omega),e]
  exact q
 have s3:aH fP (aB (f2 dIx (f2 dIx (aA 4) (fC (.int 0))) (fC (.int 3))) aE) [some S,some (.int a),some (.int many),some (.int nest),some (.lst true (bY [f])),y5,y6,y7,y8,y9]=some (.tup (pcsD f.parts)):=by
  show aH fP (aB (f2 dIx (f2 dIx (aA 4) (fC (.int 0))) (fC (.int 3))) aE) [some S,some (.int a),some (.int many),some (.int nest),some (.lst true [.lst true [.str (kdS f.kd),.int f.n,.lst true (rowsD f.full),.lst true (pcsD f.parts)]]),y5,y6,y7,y8,y9]=_
  simp! [fIO,eC,iL,pcs_imm]
 have z:=(aO s0).trans ((aO s1).trans ((aO w).trans (cF s3)))
 exact jW rfl z
end
abbrev xs9(GM GL:tz6):tz6:=gP 4 6 (yi8 GM zp0 GL)
theorem wi2{GM GL:tz6}{S:D}{nest a many:Nat}(hL:∀m,0<=m->∃l,GL [.int m]=some (bC l)/\fI l)(hM:∀j s:Int,(a:Int)<=j/\j<a+many->s=31\/s=32->∃m,GM [S,.int j,.int s]=some (.int m)/\0<=m)(hn:nest<=100)(hmany:many<=90)(ha:a<=1000):
  ∃r,xs9 GM GL [S,.int a,.int many,.int nest]=some (.tup (pcsD r))/\RowOk nest (4*many) r:=by
 obtain⟨r,h1,h2⟩:=wn5 (n:=400) (GS:=zp0) (fun f g fs h1 h2 h3 h4=>xq5 h1 h2 h3 h4) hL hM hn hmany ha (Y4 hn (by decide))
 exact⟨r,h1,h2⟩
theorem yg4{m:Int}:∀(l:List Int) (w:Str) (x2 x4:Option D),(∀j∈l,0<=j/\j<100)->w.length+l.length<=100->w.cps.toList.all uS=true->
  ∃w' x4',dE 4 (aW 3 (aJ (f2 bQ (aA 3) (f2 dIx (aA 1) (f2 eE (f2 bQ (f2 nD (aA 0) (fC (.int 12))) (f2 jC (aA 4) (f2 eE (f2 nD (aA 0) (fC (.int 9000))) (fC (.int 93))))) (fC (.int 93))))))) (l.map .int) [some (.int m),some (.str sg),x2,some (.str w),x4]
   =some (.nx,[some (.int m),some (.str sg),x2,some (.str w'),x4'])/\w'.length=w.length+l.length/\w'.cps.toList.all uS=true
 |[],w,x2,x4,_,_,hw=>⟨w,x4,by simp! [fKs,gT,lY,jC,dG,eW,lL,sA,D.flat,qR,dE],rfl,hw⟩
 |j::l,w,x2,x4,hj,hl,hw=>by
  rw [Z6] at hl
  have hj0:=hj j Z0
  obtain⟨c,hc,hg⟩:=wn2 ((m/12+j*(m/9000 % 93)) % 93) (ZF _ (by decide)) (Zy _ (by decide))
  have hw1:(w++(⟨#[c]⟩:Str)).length=w.length+1:=by rw [dL];rfl
  obtain⟨w',x4',q1,q2,q3⟩:=yg4 (m:=m) l (w++⟨#[c]⟩) x2 (some (.int j)) (fun i hi=>hj i (Z1 _ hi)) (by rw [hw1];omega) (by rw [bZ,List.all_append,hw];simp! [fKs,gT,lY,jC,dG,eW,lL,sA,D.flat,qR,hg])
  refine⟨w',x4',?_,by rw [q2,hw1,Z6];omega,q3⟩
  rw [<-q1]
  have hz:w.length+(⟨#[c]⟩:Str).length<=sizeLine:=sz (by show w.length+1<=1000;omega)
  have b1:(-18446744073709551616<j/\j<18446744073709551616):=by omega
  simp! [fKs,gT,lY,jC,dG,eW,lL,sA,D.flat,qR,dE,hc,xz7,hz,b1]
abbrev yx9:tz6:=gP 1 4 zb4
theorem wb2{m:Int}(hm:0<=m):∃z,yx9 [.int m]=some (.str z)/\yi5 z:=by
 obtain⟨s,hs,h1,h2⟩:=xz8 m
 obtain⟨w,x4,q1,q2,q3⟩:=yg4 (m:=m) ((List.range s.toNat).map fun(k:Nat)=>(k:Int)) "" (some (.int s)) none
  (fun j hj=>by obtain⟨k,hk,rfl⟩:=Ya.mp hj;have:=X7.mp hk;omega) (by rw [Zb,Yl];show 0+_<=100;omega) (by decide+kernel)
 rw [<-wg7] at q1
 rw [Zb,Yl] at q2
 have q2':w.length=s.toNat:=by rw [q2];show 0+_=_;omega
 refine⟨w,?_,by omega,by omega,q3⟩
 have hz:(Str.ofString "abcdefghijklmnopqrstuvwxyzABCDEFGHIJKLMNOPQRSTUVWXYZ0123456789").length+(Str.ofString "!\"#$&'()*+,-./:;<=>?\x40[\\]^_`{|}~").length<=sizeLine:=by decide+kernel
 have e1:Str.ofString "abcdefghijklmnopqrstuvwxyzABCDEFGHIJKLMNOPQRSTUVWXYZ0123456789"++Str.ofString "!\"#$&'()*+,-./:;<=>?\x40[\\]^_`{|}~"=sg:=rfl
 have b1:(-4611686018427387904<=s/\s<4611686018427387904):=by omega
 simp! [fKs,gT,lY,jC,dG,eW,lL,sA,D.flat,qR,zb4,hz,e1,hs,q1,b1]
abbrev zp2:tz6:=gP 1 1 (zb5 yx9)
theorem wb3{m:Int}(hm:0<=m):∃l,zp2 [.int m]=some (bC l)/\fI l:=by
 have hd:0<=m/16:=Int.ediv_nonneg hm (by decide)
 have s1:aW 1 (aJ (f2 nD (aA 0) (fC (.int 16)))) [some (.int m),none]=some (.nx,[some (.int m),some (.int (m/16))]):=bF (aQ rfl rfl ((eW _ _).trans (if_pos (by decide))))
 have md:f2 eE (aA 0) (fC (.int 16)) [some (.int m),some (.int (m/16))]=some (.int (m % 16)):=aQ rfl rfl ((dG _ _).trans (if_pos (by decide)))
 have t:∀c:Int,fB (f2 dLt (f2 eE (aA 0) (fC (.int 16))) (fC (.int c))) [some (.int m),some (.int (m/16))]=some (decide (m % 16<c)):=fun c=>dO (aQ md rfl rfl)
 have out:∀{p:PSt} (l:Leaf),zb5 yx9 [some (.int m),none]=some (.ret (bC l),p)->zp2 [.int m]=some (bC l):=fun l h=>jW rfl h
 have t8:=t 8
 have t13:=t 13
 by_cases c1:m % 16<8
 ·obtain⟨z,q,hz⟩:=wb2 hd
  rw [Zq c1] at t8
  exact⟨.word z,out (.word z) ((aO s1).trans (dS ((bM t8).trans (cF (eX (aD rfl (aD (aU (aD rfl rfl) q) rfl)) rfl (Zg rfl)))))),hz⟩
 ·rw [Zd c1] at t8
  by_cases c2:m % 16<13
  ·obtain⟨x,q,hx⟩:=wg8 (m/16)
   rw [Zq c2] at t13
   exact⟨.gap x,out (.gap x) ((aO s1).trans ((aO (aY t8)).trans (dS ((bM t13).trans (cF (eX (aD rfl (aD (aQ (iA rfl (Zg rfl)) (aQ rfl rfl ((dG _ _).trans (if_pos (by decide)))) q) rfl)) rfl (Zg rfl))))))),hx⟩
  ·rw [Zd c2] at t13
   have te:fB (f2 dEq (f2 eE (aA 0) (fC (.int 16))) (fC (.int 13))) [some (.int m),some (.int (m/16))]=some (decide (m % 16=13)):=dO (aQ md rfl rfl)
   by_cases c3:m % 16=13
   ·rw [Zq c3] at te
    exact⟨.fin,out .fin ((aO s1).trans ((aO (aY t8)).trans ((aO (aY t13)).trans (dS ((bM te).trans (cF rfl)))))),trivial⟩
   ·rw [Zd c3] at te
    have ha:=ZF (m/16/2) (show(10:Int)≠0 by decide)
    have hb:=Zy (m/16/2) (show(0:Int)<10 by decide)
    have hc:=ZF (m/16/2) (show(41:Int)≠0 by decide)
    have he:=Zy (m/16/2) (show(0:Int)<41 by decide)
    obtain⟨c,q,h1,h2⟩:=xz9 (m/16/2 % 10) (m/16/2 % 41) (m/16) ⟨ha,Int.le_trans (Int.le_of_lt hb) (by decide)⟩ ⟨hc,Wl he⟩
    have dv:f2 nD (aA 1) (fC (.int 2)) [some (.int m),some (.int (m/16))]=some (.int (m/16/2)):=aQ rfl rfl ((eW _ _).trans (if_pos (by decide)))
    exact⟨.stop c,out (.stop c) ((aO s1).trans ((aO (aY t8)).trans ((aO (aY t13)).trans ((aO (aY te)).trans (cF (eX (aD rfl (aD (aQ (iA (aD (aQ dv rfl ((dG _ _).trans (if_pos (by decide)))) (aD (aQ dv rfl ((dG _ _).trans (if_pos (by decide)))) rfl)) (Zg rfl)) (aQ rfl rfl ((dG _ _).trans (if_pos (by decide)))) q) rfl)) rfl (Zg rfl))))))),h1,h2⟩
theorem yg5:∀(ys:List Str),ys≠[]->(∀y∈ys,(y:Str).length<=(Str.join ⟨#[10]⟩ ys).length)/\ys.length<=(Str.join ⟨#[10]⟩ ys).length+1
 |[],h=>absurd rfl h
 |[y],_=>⟨fun z hz=>by rw [Za.mp hz];exact Zc _,Nat.le_add_left _ _⟩
 | x::y::r,_=>by
  obtain⟨h1,h2⟩:=yg5 (y::r) (by simp)
  have e:(Str.join ⟨#[10]⟩ (x::y::r)).length=x.length+1+(Str.join ⟨#[10]⟩ (y::r)).length:=by
   show(Str.join ⟨#[10]⟩ (x::y::r)).cps.size=x.cps.size+1+(Str.join ⟨#[10]⟩ (y::r)).cps.size
   rw [<-ZQ,lU,Z3,Z6,ZQ,ZQ];omega
  rw [e]
  refine⟨fun z hz=> ?_,by rw [Z6];omega⟩
  rcases Z4.mp hz with rfl|hz
  ·omega
  ·have:=h1 z hz;omega
theorem wb4(t:Str):(∀y∈lns t,(y:Str).length<=t.length)/\(lns t).length<=t.length+1:=by
 have:=yg5 (lns t) (za1 t)
 rwa [pO] at this
theorem xq7{f:tz2}{p:PSt}{t:Str}(h:f p=some (.str t))(hl:t.length<=900000):fMt wH f (aB (fC (.str "\n")) aE) p=some (.lst true (L2.eY (lns t))):=by
 unfold fMt
 rw [h,Z2,aD (f:=fC (.str "\n")) (g:=aE) (d:= .str "\n") (ds:=[]) rfl rfl,Z2,if_pos (show zn5 (.str t)=true from rfl)]
 unfold lns
 rw [<-zl7]
 exact if_pos ⟨by decide+kernel,by omega⟩
theorem zw9:∀ys:List Str,D.imms (L2.eY ys)=true
 |[]=>rfl
 |y::ys=>by show((D.str y).imm&&D.imms (L2.eY ys))=true;rw [zw9 ys];rfl
theorem yg6:∀ys:List Str,(∀y∈ys,(y:Str).length<=900000)->fQ [none] gU (aH dJ (aB (aA 0) aE)) (L2.eY ys)=some (cI (ys.map fun y=>(y.length:Int)))
 |[],_=>rfl
 |y::ys,h=>by
  have hs:sizeLine=16777216:=Y6
  have hy:y.length<=sizeLine:=by have:=h y Z0;omega
  have ih:=yg6 ys fun z hz=>h z (Z1 _ hz)
  have e:aH dJ (aB (aA 0) aE) [some (.str y)]=some (.int (y.length:Int)):=aU (aD rfl rfl) (if_pos hy)
  show fQ [none] gU _ (.str y::L2.eY ys)=_
  rw [fQ]
  show(aH dJ (aB (aA 0) aE) [some (.str y)]).bind (fun r=>(fQ [none] gU (aH dJ (aB (aA 0) aE)) (L2.eY ys)).bind fun rs=>some (r::rs))=_
  rw [e,ih];rfl
theorem xi7:∀{ns:List Int},ns≠[]->∃k,vK ns=some k
 |[],h=>absurd rfl h
 |n::ns,_=>by rw [vK];cases vK ns<;>exact⟨_,rfl⟩
def nb(y x:Way):Prop:=ltW x y=false
theorem sP:∀a:List Int,HT.lexLt a a=false
 |[]=>rfl
 |x::a=>by show(if x=x then HT.lexLt a a else _)=_;rw [if_pos rfl];exact sP a
theorem yq2:∀{a b c:List Int},HT.lexLt a b=false->HT.lexLt b c=false->HT.lexLt a c=false
 |[],[],c,_,h=>h
 |[],_::_,_,h,_=>by cases h
 |x::a,b,[],_,_=>rfl
 |x::a,[],z::c,_,h=>by cases h
 | x::a,y::b,z::c,h1,h2=>by
  have h1':(if x=y then HT.lexLt a b else decide (x<y))=false:=h1
  have h2':(if y=z then HT.lexLt b c else decide (y<z))=false:=h2
  show(if x=z then HT.lexLt a c else decide (x<z))=false
  by_cases e1:x=y
  ·subst e1
   rw [if_pos rfl] at h1'
   by_cases e2:x=z
   ·subst e2
    rw [if_pos rfl] at h2'|-
    exact yq2 h1' h2'
   ·rw [if_neg e2] at h2'|-;exact h2'
  ·rw [if_neg e1] at h1'
   have g1:=Yt h1'
   by_cases e2:y=z
   ·subst e2
    rw [if_neg e1];exact h1'
   ·rw [if_neg e2] at h2'
    have g2:=Yt h2'
    rw [if_neg (by omega)]
    exact Zd (by omega)
theorem wi3(a b a' b':Int):HT.lexLt [a,b] [a',b']=(if a=a' then(if b=b' then false else decide (b<b')) else decide (a<a')):=rfl
theorem za4{y x:Way}:nb y x↔y.1.1<x.1.1\/(y.1.1=x.1.1/\(y.1.2<x.1.2\/(y.1.2=x.1.2/\HT.lexLt x.2 y.2=false))):=by
 have e:ltW x y=(if [x.1.1,x.1.2]=[y.1.1,y.1.2] then(if x.2=y.2 then false else HT.lexLt x.2 y.2) else HT.lexLt [x.1.1,x.1.2] [y.1.1,y.1.2]):=rfl
 have e2:(if x.2=y.2 then false else HT.lexLt x.2 y.2)=HT.lexLt x.2 y.2:=by
  by_cases c:x.2=y.2
  ·rw [if_pos c,c,sP]
  ·rw [if_neg c]
 unfold nb
 rw [e,e2,wi3]
 by_cases c1:x.1.1=y.1.1
 ·by_cases c2:x.1.2=y.1.2
  ·rw [if_pos (by rw [c1,c2])]
   constructor
   ·exact fun h=> .inr ⟨c1.symm,.inr ⟨c2.symm,h⟩⟩
   ·rintro(h|⟨_,h|⟨_,h⟩⟩)
    ·omega
    ·omega
    ·exact h
  ·rw [if_neg (by simp [c1,c2]),if_pos c1,if_neg c2]
   constructor
   ·intro h
    have:=Yt h
    exact .inr ⟨c1.symm,.inl (by omega)⟩
   ·rintro(h|⟨_,h|⟨h,_⟩⟩)
    ·omega
    ·exact Zd (by omega)
    ·omega
 ·rw [if_neg (by simp [c1]),if_neg c1]
  constructor
  ·intro h
   have:=Yt h
   exact .inl (by omega)
  ·rintro(h|⟨h,_⟩)
   ·exact Zd (by omega)
   ·omega
theorem wB(x:Way):nb x x:=za4.mpr (.inr ⟨rfl,.inr ⟨rfl,sP _⟩⟩)
theorem zi5{z y x:Way}(h1:nb z y)(h2:nb y x):nb z x:=by
 rw [za4] at*
 rcases h1 with a|⟨a,a'|⟨a',a''⟩⟩<;>rcases h2 with b|⟨b,b'|⟨b',b''⟩⟩
 ·exact .inl (by omega)
 ·exact .inl (by omega)
 ·exact .inl (by omega)
 ·exact .inl (by omega)
 ·exact .inr ⟨by omega,.inl (by omega)⟩
 ·exact .inr ⟨by omega,.inl (by omega)⟩
 ·exact .inl (by omega)
 ·exact .inr ⟨by omega,.inl (by omega)⟩
 ·exact .inr ⟨by omega,.inr ⟨by omega,yq2 b'' a''⟩⟩
theorem xq8:∀{a b:List Int},HT.lexLt a b=true->HT.lexLt b a=false:=fun {a b} h=>by
 cases e:HT.lexLt b a with
 |false=>rfl
 | true =>
  cases e2:HT.lexLt a a with
  | false=>
   exact absurd h (by
    intro _
    have:∀{a b:List Int},HT.lexLt a b=true->HT.lexLt b a=true->False:=by
     intro a
     induction a with
     |nil=>intro b _ h2;cases b<;>cases h2
     | cons x a ih=>
      intro b h1 h2
      cases b with
      |nil=>cases h1
      | cons y b=>
       have h1':(if x=y then HT.lexLt a b else decide (x<y))=true:=h1
       have h2':(if y=x then HT.lexLt b a else decide (y<x))=true:=h2
       by_cases c:x=y
       ·subst c
        rw [if_pos rfl] at h1' h2'
        exact ih h1' h2'
       ·rw [if_neg c] at h1'
        rw [if_neg (fun z=>c z.symm)] at h2'
        have:=Xp h1'
        have:=Xp h2'
        omega
    exact this h e)
  |true=>rw [sP] at e2;cases e2
theorem yg7{x y:Way}(h:ltW x y=true):nb x y:=by
 have h':¬nb y x:=fun z=>by unfold nb at z;rw [h] at z;cases z
 rw [za4] at h'|-
 by_cases c1:x.1.1<y.1.1
 ·exact .inl c1
 ·by_cases c2:x.1.1=y.1.1
  ·refine .inr ⟨c2,?_⟩
   by_cases c3:x.1.2<y.1.2
   ·exact .inl c3
   ·by_cases c4:x.1.2=y.1.2
    ·refine .inr ⟨c4,?_⟩
     cases e:HT.lexLt x.2 y.2 with
     |false=>exact absurd (.inr ⟨c2.symm,.inr ⟨c4.symm,e⟩⟩) h'
     |true=>exact xq8 e
    ·exact absurd (.inr ⟨c2.symm,.inl (by omega)⟩) h'
  ·exact absurd (.inl (by omega)) h'
theorem wi4{y x:Way}(h:nb y x)(i j:Int):nb ((y.1.1+i,y.1.2+j),y.2) ((x.1.1+i,x.1.2+j),x.2):=by
 rw [za4] at h|-
 rcases h with a|⟨a,b|⟨b,c⟩⟩
 ·exact .inl (by show y.1.1+i<x.1.1+i;omega)
 ·exact .inr ⟨by show y.1.1+i=x.1.1+i;omega,.inl (by show y.1.2+j<x.1.2+j;omega)⟩
 ·exact .inr ⟨by show y.1.1+i=x.1.1+i;omega,.inr ⟨by show y.1.2+j=x.1.2+j;omega,c⟩⟩
def yy0(a b:List Int):Prop:=(∀x,b=a++x->x=[])/\(∀x,a=b++x->x=[])
theorem yq3:∀{a b:List Int},yy0 a b->∀u,HT.lexLt (a++u) (b++u)=HT.lexLt a b
 |[],b,h,u=>by
  have:b=[]:=h.1 b rfl
  subst this
  rw [Yq,sP,sP]
 |a::as,[],h,u=>by have:=h.2 (a::as) rfl;cases this
 | x::a,y::b,h,u=>by
  show(if x=y then HT.lexLt (a++u) (b++u) else decide (x<y))=(if x=y then HT.lexLt a b else decide (x<y))
  by_cases c:x=y
  ·subst c
   rw [if_pos rfl,if_pos rfl]
   exact yq3 ⟨fun z hz=>h.1 z (by rw [hz];rfl),fun z hz=>h.2 z (by rw [hz];rfl)⟩ u
  ·rw [if_neg c,if_neg c]
theorem wi5{y x:Way}(h:nb y x)(ha:yy0 x.2 y.2)(u:List Int):nb (y.1,y.2++u) (x.1,x.2++u):=by
 rw [za4] at h|-
 rcases h with a|⟨a,b|⟨b,c⟩⟩
 ·exact .inl a
 ·exact .inr ⟨a,.inl b⟩
 ·exact .inr ⟨a,.inr ⟨b,by show HT.lexLt (x.2++u) (y.2++u)=false;rw [yq3 ha];exact c⟩⟩
theorem yq4:∀{F:Frt} {k:Nat} {y:Way},mJ F k=some y->(k,y)∈F
 |[],_,_,h=>by cases h
 |p::F,k,y,h=>by
  rw [mJ] at h
  by_cases e:p.1=k
  ·rw [if_pos e] at h;cases h;subst e;exact Z0
  ·rw [if_neg e] at h;exact Z1 _ (yq4 h)
theorem yq5:∀{F:Frt} {k:Nat} {y z:Way},(F.map (·.1)).Nodup->(k,y)∈F->(k,z)∈F->y=z
 |[],_,_,_,_,h,_=>by cases h
 |p::F,k,y,z,nd,h1,h2=>by
  rw [Z9,Zs] at nd
  rcases Z4.mp h1 with e1|e1<;>rcases Z4.mp h2 with e2|e2
  ·rw [<-e2] at e1;cases e1;rfl
  ·exact absurd (Yf (f:=(·.1)) e2) (by rw [<-e1] at nd;exact nd.1)
  ·exact absurd (Yf (f:=(·.1)) e1) (by rw [<-e2] at nd;exact nd.1)
  ·exact yq5 nd.2 e1 e2
theorem zs3:∀{F:Frt} {k:Nat} {x y:Way},(k,y)∈F->(k,x)∈mK F k x
 |[],_,_,_,h=>by cases h
 |p::F,k,x,y,h=>by
  rw [mK]
  rcases Z4.mp h with e|e
  ·rw [<-e,if_pos rfl];exact Z0
  ·exact Z1 _ (zs3 e)
theorem yg8:∀{F:Frt} {k:Nat} {x:Way} {q:Nat×Way},q∈F->q.1≠k->q∈mK F k x
 |[],_,_,_,h,_=>by cases h
 |p::F,k,x,q,h,hk=>by
  rw [mK]
  rcases Z4.mp h with e|e
  ·rw [<-e,if_neg hk];exact Z0
  ·exact Z1 _ (yg8 e hk)
def Has(F:Frt)(k:Nat)(x:Way):Prop:=∃y,(k,y)∈F/\nb y x
theorem Has.le{F:Frt}{k:Nat}{x z:Way}(h:Has F k x)(hz:nb x z):Has F k z:=by
 obtain⟨y,a,b⟩:=h
 exact⟨y,a,zi5 b hz⟩
theorem yq6{F:Frt}{k:Nat}{x:Way}(h:(F.map (·.1)).Nodup):((iF F k x).map (·.1)).Nodup:=by
 unfold iF
 cases e:mJ F k with
 |none=>
  simp only
  rw [Y9,ZC]
  refine⟨h,by simp,fun a ha b hb z=> ?_⟩
  simp only [Z9,Xo,Za] at hb
  subst hb
  subst z
  exact za2 e ha
 |some y=>
  simp only
  split
  ·rw [uM];exact h
  ·exact h
theorem yg9{F:Frt}{k:Nat}{x:Way}(nd:(F.map (·.1)).Nodup):Has (iF F k x) k x/\∀j z,Has F j z->Has (iF F k x) j z:=by
 unfold iF
 cases e:mJ F k with
 |none=>
  simp only
  exact⟨⟨x,by simp,wB x⟩,fun j z ⟨y,a,b⟩=>⟨y,Zi _ a,b⟩⟩
 | some y=>
  simp only
  have hy:=yq4 e
  by_cases c:ltW x y=true
  ·rw [if_pos c]
   refine⟨⟨x,zs3 hy,wB x⟩,fun j z ⟨y',a,b⟩=> ?_⟩
   by_cases hj:j=k
   ·subst hj
    rw [yq5 nd a hy] at b
    exact⟨x,zs3 hy,zi5 (yg7 c) b⟩
   ·exact⟨y',yg8 a hj,b⟩
  ·rw [if_neg c]
   exact⟨⟨y,hy,by unfold nb;simpa using c⟩,fun j z h=>h⟩
theorem xU:∀{G F:Frt},(F.map (·.1)).Nodup->((kB F G).map (·.1)).Nodup/\(∀p∈G,Has (kB F G) p.1 p.2)/\∀j z,Has F j z->Has (kB F G) j z
 |[],F,nd=>⟨nd,fun p h=>absurd h ZT,fun _ _ h=>h⟩
 |p::G,F,nd=>by
  obtain⟨a,b,c⟩:=xU (G:=G) (yq6 (k:=p.1) (x:=p.2) nd)
  obtain⟨d,e⟩:=yg9 (k:=p.1) (x:=p.2) nd
  refine⟨a,fun q hq=> ?_,fun j z h=>c j z (e j z h)⟩
  rcases Z4.mp hq with h|h
  ·subst h;exact c _ _ d
  ·exact b q h
mutual
theorem yh0:∀{p:Pc} {b:Bool} {m:Int} {cs cs':List Int} {t t':Str},cK b m p cs t=some (cs',t')->∃a,cs=a++cs'/\cK b m p a t=some ([],t')
 | .leaf l,b,m,cs,cs',t,t',h=>by
  rw [cK] at h
  cases e:wr b m (col t) l with
  |none=>rw [e] at h;cases h
  |some w=>rw [e] at h;cases h;exact⟨[],rfl,by rw [cK,e];rfl⟩
 | .group r,b,m,cs,cs',t,t',h=>by
  rw [cK.eq_def] at h
  simp only at h
  cases b with
  |false=>
   simp only [ZS,Yy] at h
   obtain⟨a,e1,e2⟩:=setR_cut h
   exact⟨a,e1,by rw [cK.eq_def];simpa using e2⟩
  | true=>
   cases cs with
   |nil=>simp at h
   | cons c cs=>
    simp only [Y2] at h
    by_cases c0:c=0
    ·simp only [c0,Y2] at h
     obtain⟨a,e1,e2⟩:=setR_cut h
     exact⟨c::a,by rw [e1];rfl,by rw [cK.eq_def];simpa [c0] using e2⟩
    ·by_cases c1:c=1
     ·simp [c1] at h
      obtain⟨a,e1,e2⟩:=setR_cut h
      exact⟨c::a,by rw [e1];rfl,by rw [cK.eq_def];simpa [c1] using e2⟩
     ·simp [c0,c1] at h
 | .hang n r,b,m,cs,cs',t,t',h=>by
  rw [cK] at h
  obtain⟨a,e1,e2⟩:=setR_cut h
  exact⟨a,e1,by rw [cK];exact e2⟩
 | .either rs,b,m,cs,cs',t,t',h=>by
  rw [cK.eq_def] at h
  cases cs with
  |nil=>cases h
  | cons c cs=>
   simp only at h
   by_cases c0:0<=c
   ·simp only [c0,Y2] at h
    obtain⟨a,e1,e2⟩:=setAt_cut h
    exact⟨c::a,by rw [e1];rfl,by rw [cK.eq_def];simpa [c0] using e2⟩
   ·simp [c0] at h
theorem setR_cut:∀{r:List Pc} {b:Bool} {m:Int} {cs cs':List Int} {t t':Str},setR b m r cs t=some (cs',t')->∃a,cs=a++cs'/\setR b m r a t=some ([],t')
 |[],b,m,cs,cs',t,t',h=>by rw [setR] at h;cases h;exact⟨[],rfl,by rw [setR]⟩
 | p::r,b,m,cs,cs',t,t',h=>by
  rw [setR] at h
  cases e:cK b m p cs t with
  |none=>rw [e] at h;cases h
  |some s=>
   obtain⟨c1,t1⟩:=s
   rw [e] at h
   obtain⟨a,e1,e2⟩:=yh0 e
   obtain⟨a',e3,e4⟩:=setR_cut (show setR b m r c1 t1=some (cs',t') from h)
   refine⟨a++a',by rw [e1,e3,Zl],?_⟩
   rw [setR,uK a' e2]
   exact e4
theorem setAt_cut:∀{rs:List (List Pc)} {i:Nat} {b:Bool} {m:Int} {cs cs':List Int} {t t':Str},setAt b m rs i cs t=some (cs',t')->∃a,cs=a++cs'/\setAt b m rs i a t=some ([],t')
 |[],i,b,m,cs,cs',t,t',h=>by rw [setAt] at h;cases h
 |r::rs,0,b,m,cs,cs',t,t',h=>by
  rw [setAt] at h
  obtain⟨a,e1,e2⟩:=setR_cut h
  exact⟨a,e1,by rw [setAt];exact e2⟩
 |r::rs,i+1,b,m,cs,cs',t,t',h=>by
  rw [setAt] at h
  obtain⟨a,e1,e2⟩:=setAt_cut h
  exact⟨a,e1,by rw [setAt];exact e2⟩
end
def pF(R:List Int->Str->Prop):Prop:=∀c x t t',R c t->R (c++x) t'->x=[]/\t=t'
theorem pF.apart{R:List Int->Str->Prop}(h:pF R){a b:List Int}{s t:Str}(ha:R a s)(hb:R b t):yy0 a b:=
 ⟨fun x e=>by subst e;exact(h a x s t ha hb).1,fun x e=>by subst e;exact(h b x t s hb ha).1⟩
theorem zx0:∀{a b c d:List Int},a++b=c++d->(∃x,c=a++x)\/∃x,a=c++x:=fun {a b c d} h=>by
 rcases List.append_eq_append_iff.mp h with ⟨x,e,_⟩|⟨x,e,_⟩
 ·exact .inl ⟨x,e⟩
 ·exact .inr ⟨x,e⟩
theorem pF.aft{R:List Int->Str->Prop}{set:List Int->Str->Option (List Int×Str)}(h:pF R)(hs:∀c x t t',set c t=some ([],t')->set (c++x) t=some (x,t')):pF (Aft R set):=by
 rintro c x t t' ⟨c0,t0,c1,r1,rfl,e1⟩ ⟨d0,s0,d1,r2,e,e2⟩
 have key:c0=d0/\t0=s0:=by
  rcases zx0 (show c0++(c1++x)=d0++d1 by rw [<-e,Zl]) with ⟨z,rfl⟩|⟨z,rfl⟩
  ·obtain⟨rfl,rfl⟩:=h c0 z t0 s0 r1 r2
   exact⟨by rw [Zj],rfl⟩
  ·obtain⟨rfl,rfl⟩:=h d0 z s0 t0 r2 r1
   exact⟨by rw [Zj],rfl⟩
 obtain⟨rfl,rfl⟩:=key
 rw [Zl] at e
 have ed:=YZ e
 subst ed
 rw [hs c1 x t0 t e1] at e2
 cases e2
 exact⟨rfl,rfl⟩
theorem pF.chose{R:List Int->Str->Prop}(h:pF R)(n:Int):pF (ya0 R n):=by
 rintro c x t t' ⟨c0,r1,rfl⟩ ⟨d0,r2,e⟩
 rcases zx0 (show c0++([n]++x)=d0++[n] by rw [<-e,Zl]) with ⟨z,rfl⟩|⟨z,rfl⟩
 ·obtain⟨rfl,rfl⟩:=h c0 z t t' r1 r2
  rw [Zj,Zl] at e
  have:=YZ e
  exact⟨by simpa using this,rfl⟩
 ·obtain⟨rfl,rfl⟩:=h d0 z t' t r2 r1
  rw [Zj,Zl] at e
  have:=YZ e
  exact⟨by simpa using this,rfl⟩
def mM(W:Int)(R:List Int->Str->Prop)(F:Frt):Prop:=∀c t k ln rg,R c t->kA W t k ln rg->Has F k ((ln,rg),c)
theorem mM.mono{W:Int}{R R':List Int->Str->Prop}{F:Frt}(h:mM W R F)(k:∀c t,R' c t->R c t):mM W R' F:=fun c t j ln rg r hc=>h c t j ln rg (k c t r) hc
theorem yw3{W:Int}{R:List Int->Str->Prop}{F:Frt}(hf:pF R)(hg:Good W R F)(h:mM W R F)(n:Int):mM W (ya0 R n) (kS F n):=by
 rintro c t k ln rg ⟨c0,r,rfl⟩ hc
 obtain⟨y,hy,hn⟩:=h c0 t k ln rg r hc
 obtain⟨t',ry,_⟩:=hg.hit _ hy
 have:=(xU (G:=F.map (yj3 n)) (F:=[]) Zm).2.1 (yj3 n (k,y)) (Yf hy)
 exact this.le (wi5 hn (hf.apart r ry) [n])
theorem xi8{W:Int}{t:Str}{k k':Nat}{ln ln' rg rg':Int}(h:kA W t k ln rg)(h':kA W t k' ln' rg'):k=k'/\ln=ln'/\rg=rg':=by
 obtain⟨xs,y,e,_,rfl,rfl,rfl⟩:=h
 obtain⟨xs',y',e',_,rfl,rfl,rfl⟩:=h'
 rw [e] at e'
 have h1:=X6 e' rfl
 have h2:=X2 e' rfl
 subst h1
 cases h2
 exact⟨rfl,rfl,rfl⟩
theorem xi9{W:Int}{b:Bool}{m:Int}{l:Leaf}{t w:Str}{k:Nat}{ln rg:Int}(hl:fI l)(h0:0<=m)(h1:m<=200)(hw:wr b m (col t) l=some w)(hc:kA W (t++w) k ln rg):∃ln0 rg0 i j,kA W t (col t) ln0 rg0/\(∀c:Int×Int,jL W b m l (col t) c=some (k,(c.1+i,c.2+j)))/\ln=ln0+i/\rg=rg0+j:=by
 obtain⟨xs,y,e⟩:=yf6 t
 have ck:=yf7 e
 obtain⟨ys,z,f1,f2,rfl,rfl,rfl⟩:=hc
 rcases(zd4 hl h0 h1 hw).1 with hn|⟨m',rfl⟩
 ·have e2:=yo9 e hn
  rw [e2] at f1
  have g1:=X6 f1 rfl
  have g2:=X2 f1 rfl
  subst g1
  cases g2
  have hz:=f2 (y++w) (by simp)
  rw [dL] at hz
  refine⟨(xs.length:Int)+1,zs8 W xs,0,0,⟨xs,y,e,fun q hq=> ?_,ck,rfl,rfl⟩,fun c=> ?_,by omega,by omega⟩
  ·rcases Zn.mp hq with g|g
   ·exact f2 q (Zi _ g)
   ·rw [Za.mp g];omega
  ·unfold jL
   rw [hw,Z2,xu1 hn]
   simp only [ZS,Yy]
   rw [if_neg (by rw [ck];omega),dL,ck,Int.add_zero,Int.add_zero]
 ·have e2:lns (t++nlw m')=lns t++[Txt.mul " " m']:=xh0 (zl8 m')
  rw [e2,e] at f1
  have g1:=X6 f1 rfl
  have g2:=X2 f1 rfl
  subst g1
  cases g2
  have hz:=f2 (Txt.mul " " m') (by simp)
  rw [lB] at hz
  refine⟨(xs.length:Int)+1,zs8 W xs,1,(W-(col t:Int))*(W-(col t:Int)),⟨xs,y,e,fun q hq=>f2 q (Zi _ hq),ck,rfl,rfl⟩,fun c=> ?_,by rw [Z3];simp,?_⟩
  ·unfold jL
   rw [hw,Z2,xh1]
   simp only [Y2]
   rw [yp1,if_neg (by omega),lB]
  ·rw [ck]
   unfold zs8
   rw [Y9,List.sum_append]
   simp
theorem za5{W:Int}{b:Bool}{m:Int}{l:Leaf}:∀{F G:Frt},(G.map (·.1)).Nodup->((kC W b m l F G).map (·.1)).Nodup/\(∀p∈F,∀s,jL W b m l p.1 p.2.1=some s->Has (kC W b m l F G) s.1 (s.2,p.2.2))/\∀j z,Has G j z->Has (kC W b m l F G) j z
 |[],G,nd=>⟨nd,fun p h=>absurd h ZT,fun _ _ h=>h⟩
 | p::F,G,nd=>by
  cases e:jL W b m l p.1 p.2.1 with
  | none=>
   have eq:kC W b m l (p::F) G=kC W b m l F G:=by
    show kC W b m l F (match jL W b m l p.1 p.2.1 with|none=>G|some s=>iF G s.1 (s.2,p.2.2))=_
    rw [e]
   obtain⟨a,h1,h2⟩:=za5 (W:=W) (b:=b) (m:=m) (l:=l) (F:=F) nd
   rw [eq]
   refine⟨a,fun q hq s hs=> ?_,h2⟩
   rcases Z4.mp hq with z|z
   ·rw [z,e] at hs;cases hs
   ·exact h1 q z s hs
  | some s=>
   have eq:kC W b m l (p::F) G=kC W b m l F (iF G s.1 (s.2,p.2.2)):=by
    show kC W b m l F (match jL W b m l p.1 p.2.1 with|none=>G|some s=>iF G s.1 (s.2,p.2.2))=_
    rw [e]
   obtain⟨a,h1,h2⟩:=za5 (W:=W) (b:=b) (m:=m) (l:=l) (F:=F) (yq6 (k:=s.1) (x:=(s.2,p.2.2)) nd)
   obtain⟨d,f⟩:=yg9 (k:=s.1) (x:=(s.2,p.2.2)) nd
   rw [eq]
   refine⟨a,fun q hq s' hs=> ?_,fun j z h=>h2 j z (f j z h)⟩
   rcases Z4.mp hq with z|z
   ·rw [z,e] at hs;cases hs;rw [z];exact h2 _ _ d
   ·exact h1 q z s' hs
theorem yw4{W:Int}{R:List Int->Str->Prop}{b:Bool}{m:Int}{l:Leaf}{F:Frt}(hl:fI l)(h0:0<=m)(h1:m<=200)(h:mM W R F):mM W (Aft R (cK b m (.leaf l))) (kC W b m l F []):=by
 rintro c t k ln rg ⟨c0,t0,c1,r,rfl,e⟩ hc
 rw [cK] at e
 cases ew:wr b m (col t0) l with
 |none=>rw [ew] at e;cases e
 |some w=>
  rw [ew] at e
  cases e
  obtain⟨ln0,rg0,i,j,g1,g2,rfl,rfl⟩:=xi9 hl h0 h1 ew hc
  obtain⟨y,hy,hn⟩:=h c0 t0 _ _ _ r g1
  have:=(za5 (W:=W) (b:=b) (m:=m) (l:=l) (F:=F) (G:=[]) Zm).2.1 (col t0,y) hy _ (g2 y.1)
  rw [Zj]
  exact this.le (wi4 hn i j)
theorem wb5{b:Bool}{m:Int}{p:Pc}{c:List Int}{t t':Str}(hp:∀l,p≠ .leaf l)(h:cK b m p c t=some ([],t')):∃(i:Nat) (x:List Pc×Bool×Int) (c':List Int),(cO b m p)[i]? =some x/\c=(if cU b p=true then [(i:Int)] else [])++c'/\setR x.2.1 x.2.2 x.1 c' t=some ([],t'):=by
 cases p with
 |leaf l=>exact absurd rfl (hp l)
 | group r=>
  rw [cK.eq_def] at h
  cases b with
  |false=>exact⟨0,(r,false,m),c,by simp [cO],by simp [cU],by simpa using h⟩
  | true=>
   cases c with
   |nil=>simp at h
   | cons d c=>
    simp only [Y2] at h
    by_cases c0:d=0
    ·subst c0
     exact⟨0,(r,false,m),c,by simp [cO],by simp [cU],by simpa using h⟩
    ·by_cases c1:d=1
     ·subst c1
      exact⟨1,(r,true,m),c,by simp [cO],by simp [cU],by simpa using h⟩
     ·simp [c0,c1] at h
 |hang n r=>exact⟨0,(r,b,m+n),c,by simp [cO],by simp [cU],by rw [cK] at h;exact h⟩
 | either rs=>
  rw [cK.eq_def] at h
  cases c with
  |nil=>cases h
  | cons d c=>
   simp only at h
   by_cases c0:0<=d
   ·simp only [c0,Y2] at h
    cases e:rs[d.toNat]? with
    |none=>rw [xH e] at h;cases h
    |some r=>
     rw [qN e] at h
     refine⟨d.toNat,(r,b,m),c,?_,by simp [cU];omega,h⟩
     show(rs.map fun r=>(r,b,m))[d.toNat]? =_
     rw [Ze,e];rfl
   ·simp [c0] at h
def zs9(W:Int)(GR:Bool->Int->List Pc->Frt->Frt)(r:List Pc):Prop:=∀(b:Bool) (m:Int) (R:List Int->Str->Prop) (F:Frt),0<=m->m+12*depR r<=200->pF R->Good W R F->mM W R F->mM W (Aft R (setR b m r)) (GR b m r F)
theorem yq7{GR:Bool->Int->List Pc->Frt->Frt}{tk:Bool}{F:Frt}:∀(xs:List (List Pc×Bool×Int)) (n:Nat) (A:Frt),(A.map (·.1)).Nodup->(∀(i:Nat) x,xs[i]? =some x->∀k z,Has (GR x.2.1 x.2.2 x.1 (if tk=true then kS F ((n+i:Nat):Int) else F)) k z->Has (frW GR tk F n xs A) k z)/\∀j z,Has A j z->Has (frW GR tk F n xs A) j z
 |[],n,A,nd=>⟨fun i x h=>by simp at h,fun _ _ h=>h⟩
 | x::xs,n,A,nd=>by
  rw [frW]
  obtain⟨a,b,c⟩:=xU (G:=GR x.2.1 x.2.2 x.1 (if tk=true then kS F n else F)) nd
  obtain⟨d,e⟩:=yq7 (GR:=GR) (tk:=tk) (F:=F) xs (n+1) _ a
  refine⟨fun i y hy k z hk=> ?_,fun j z h=>e j z (c j z h)⟩
  cases i with
  |zero=>
   simp at hy
   subst hy
   obtain⟨w,hw,hn⟩:=hk
   exact e k z ((b (k,w) hw).le hn)
  |succ i=>exact d i y (by simpa using hy) k z (by rwa [show n+1+i=n+(i+1) by omega])
theorem yw5{W:Int}{GR:Bool->Int->List Pc->Frt->Frt}{k:Nat}(hG:∀r,depR r<k->okR r->zs9 W GR r){R:List Int->Str->Prop}{b:Bool}{m:Int}{p:Pc}{F:Frt}(hk:dY p<=k)(ho:okP p)(h0:0<=m)(h1:m+12*dY p<=200)(hf:pF R)(hF:Good W R F)(hB:mM W R F):mM W (Aft R (cK b m p)) (frP W GR b m F p):=by
 have hold:(∀l,p≠ .leaf l)->mM W (Aft R (cK b m p)) (frW GR (cU b p) F 0 (cO b m p) []):=by
  intro hp
  rintro c t q ln rg ⟨c0,t0,c1,r,rfl,e⟩ hc
  obtain⟨i,x,c',hx,rfl,hs⟩:=wb5 hp e
  obtain⟨a1,a2,a3,a4⟩:=zi3 ho h0 h1 hk (ZK hx)
  refine(yq7 (GR:=GR) (tk:=cU b p) (F:=F) (cO b m p) 0 [] Zm).1 i x hx q _ ?_
  rw [YM]
  by_cases tk:cU b p=true
  ·rw [if_pos tk,if_pos tk]
   exact hG x.1 a3 a4 x.2.1 x.2.2 _ _ a1 a2 (hf.chose i) (xM hF i) (yw3 hf hF hB i) _ t q ln rg ⟨c0++[(i:Int)],t0,c',⟨c0,r,rfl⟩,by rw [Zl],hs⟩ hc
  ·rw [if_neg tk,if_neg tk]
   exact hG x.1 a3 a4 x.2.1 x.2.2 _ _ a1 a2 hf hF hB _ t q ln rg ⟨c0,t0,c',r,rfl,hs⟩ hc
 cases p with
 |leaf l=>exact yw4 ho h0 (by rw [dY] at h1;omega) hB
 |group r=>exact hold nofun
 |hang n r=>exact hold nofun
 |either rs=>exact hold nofun
theorem zx1{W:Int}{GR:Bool->Int->List Pc->Frt->Frt}{k:Nat}(hGd:∀r,depR r<k->okR r->pW W GR r)(hG:∀r,depR r<k->okR r->zs9 W GR r){b:Bool}{m:Int}(h0:0<=m):∀{r:List Pc} {R:List Int->Str->Prop} {F:Frt},depR r<=k->okR r->m+12*depR r<=200->pF R->Good W R F->mM W R F->mM W (Aft R (setR b m r)) (r.foldl (fun F p=>frP W GR b m F p) F)
 |[],R,F,_,_,_,_,_,hB=>hB.mono fun c t ⟨c0,t0,c1,r,e,h⟩=>by
  rw [setR] at h
  cases h
  rw [e,Zj];exact r
 | p::r,R,F,hk,ho,h1,hf,hF,hB=>by
  rw [depR] at hk h1
  have hp:=xN hGd (b:=b) (show dY p<=k by omega) ho.1 h0 (by omega) hF
  have hb:=yw5 hG (b:=b) (show dY p<=k by omega) ho.1 h0 (by omega) hf hF hB
  have hff:pF (Aft R (cK b m p)):=hf.aft fun c x t t' e=>by rw [uK x e];rfl
  refine(zx1 hGd hG h0 (r:=r) (by omega) ho.2 (by omega) hff hp hb).mono fun c t=> ?_
  rintro⟨c0,t0,c1,r1,rfl,e⟩
  rw [setR] at e
  cases e2:cK b m p c1 t0 with
  |none=>rw [e2] at e;cases e
  |some s=>
   obtain⟨c2,t1⟩:=s
   rw [e2] at e
   obtain⟨a,rfl,e3⟩:=yh0 e2
   exact⟨c0++a,t1,c2,⟨c0,t0,a,r1,rfl,e3⟩,by rw [Zl],e⟩
theorem yh1{W:Int}:∀(n:Nat) (r:List Pc),depR r<n->okR r->zs9 W (frN W n) r
 |0,_,h,_=>absurd h (Ys _)
 |n+1,r,h,ho=>fun b m R F h0 h1 hf hF hB=>by
  rw [frN]
  exact zx1 (fun q h1 h2=>xO n q h1 h2) (fun q h1 h2=>yh1 n q h1 h2) h0 (by omega) ho h1 hf hF hB
theorem yw6{W:Int}{n:Nat}{r:List Pc}(hW:0<=W)(hd:depR r<n)(ho:okR r)(h1:12*(depR r:Int)<=200):mM W (fun cs t=>setR true 0 r cs ⟨#[]⟩=some ([],t)) (cR W n r):=by
 have hf:pF (fun cs t=>cs=[]/\t=⟨#[]⟩):=by
  rintro c x t t' ⟨rfl,rfl⟩ ⟨e,rfl⟩
  exact⟨e,rfl⟩
 have hb:mM W (fun cs t=>cs=[]/\t=⟨#[]⟩) [(0,((1,0),[]))]:=by
  rintro c t k ln rg ⟨rfl,rfl⟩ hc
  obtain⟨rfl,rfl,rfl⟩:=xi8 hc (zi2 hW)
  exact⟨_,Za.mpr rfl,wB _⟩
 refine(yh1 n r hd ho true 0 _ _ (Yg _) (by omega) hf (zm4 hW) hb).mono fun c t e=> ?_
 exact⟨[],⟨#[]⟩,c,⟨rfl,rfl⟩,rfl,e⟩
def nnW(x:Way):List (List Int):=[[x.1.1,x.1.2],x.2]
theorem za6:∀F:Frt,D.intsss (dP F)=some (F.map fun q=>nnW q.2)
 |[]=>rfl
 |q::F=>by
  show(D.intss [.tup [.int q.2.1.1,.int q.2.1.2],.tup (cI q.2.2)]).bind (fun n=>(D.intsss (dP F)).map (n::·))=_
  rw [za6 F]
  have:D.intss [.tup [.int q.2.1.1,.int q.2.1.2],.tup (cI q.2.2)]=some (nnW q.2):=by simp [D.intss,D.ints,zm0,nnW]
  rw [this];rfl
theorem zm7{F:Frt}:∀k:Nat,k<F.length->∃q,F[PySem.argBest (ltN (F.map fun q=>nnW q.2)) k]? =some q/\∀i x,i<=k->F[i]? =some x->nb q.2 x.2
 |0,h=>by
  obtain⟨q,hq⟩:∃q,F[0]? =some q:=⟨F[0],by simp⟩
  refine⟨q,hq,fun i x hi hx=> ?_⟩
  have:i=0:=by omega
  subst this
  rw [hq] at hx
  cases hx
  exact wB _
 | k+1,h=>by
  obtain⟨q,hq,hn⟩:=zm7 (F:=F) k (by omega)
  obtain⟨y,hy⟩:∃y,F[k+1]? =some y:=⟨F[k+1],by simp [h]⟩
  have e:ltN (F.map fun q=>nnW q.2) (k+1) (PySem.argBest (ltN (F.map fun q=>nnW q.2)) k)=ltW y.2 q.2:=by
   generalize PySem.argBest (ltN (F.map fun q=>nnW q.2)) k=z at hq
   unfold ltN
   rw [YQ,YQ,Ze,Ze,hy,hq];rfl
  rw [PySem.argBest,e]
  by_cases c:ltW y.2 q.2=true
  ·rw [if_pos c]
   refine⟨y,hy,fun i x hi hx=> ?_⟩
   by_cases z:i=k+1
   ·subst z
    rw [hy] at hx
    cases hx
    exact wB _
   ·exact zi5 (yg7 c) (hn i x (by omega) hx)
  ·rw [if_neg c]
   refine⟨q,hq,fun i x hi hx=> ?_⟩
   by_cases z:i=k+1
   ·subst z
    rw [hy] at hx
    cases hx
    unfold nb
    rwa [Xx] at c
   ·exact hn i x (by omega) hx
abbrev yj6:tz6:=gP 1 0 rS
theorem wb6{W:Int}{F:Frt}(h:F≠[]):∃q∈F,(∀x∈F,nb q.2 x.2)/\yj6 [aI false W F]=some (.tup (cI q.2.2)):=by
 have hl:0<F.length:=List.length_pos_iff.mpr h
 obtain⟨q,hq,hn⟩:=zm7 (F:=F) (F.length-1) (by omega)
 refine⟨q,ZK hq,fun x hx=> ?_,?_⟩
 ·obtain⟨i,hi,e⟩:=List.mem_iff_getElem.mp hx
  exact hn i x (by omega) (by simp [hi,e])
 ·have fb:cH "Front" "best" (aA 0) [some (aI false W F)]=some (.dic false (dC F) (dP F)):=xS rfl
  have t:fTK (cH "Front" "best" (aA 0)) [some (aI false W F)]=some true:=by
   unfold fTK
   rw [fb]
   show some (!(dC F).isEmpty)=_
   cases F with
   |nil=>exact absurd rfl h
   |cons q F=>rfl
  have m:zz9 (cH "Front" "best" (aA 0)) [some (aI false W F)]=some (wyD q.2):=by
   unfold zz9
   rw [fb]
   show(D.intsss (dP F)).bind _=_
   rw [za6,Z2]
   show(dP F)[PySem.argBest (ltN (F.map fun q=>nnW q.2)) ((F.map fun q=>nnW q.2).length-1)]? =_
   rw [Zb]
   unfold dP
   rw [Ze,hq];rfl
  exact gL rfl (cS (aY (jF t)) ⟨_,cF (aQ (cL m (tN _)) rfl (gC _ _ _))⟩)
abbrev zc1:List D->Bool:=gX 1 0 qZ
theorem xq9(W:Int):zc1 [aI false W []]=true:=rfl
abbrev yj7(n m:Nat):tz6:=gP 2 1 (zb3 yj6 (oC n) rH (xk5 m))
theorem xr0{W:Int}{n m:Nat}{r:List Pc}(hW0:0<=W)(hW1:W<=40)(hd:depR r<n)(hdm:depR r<m)(h8:depR r<=16)(ho:okR r)(hl:(toksR r).length<=800)(hne:cR W n r≠[]):
  ∃q∈cR W n r,(∀x∈cR W n r,nb q.2 x.2)/\∃t,setR true 0 r q.2.2 ⟨#[]⟩=some ([],t)/\kA W t q.1 q.2.1.1 q.2.1.2/\yj7 n m [.tup (pcsD r),.int W]=some (.tup [.str t,.tup (cI q.2.2)]):=by
 have g:Good W (fun cs t=>setR true 0 r cs ⟨#[]⟩=some ([],t)) (cR W n r):=xP (n:=n) hW0 hd ho (by omega)
 obtain⟨q,hq,hn,e⟩:=wb6 (W:=W) hne
 obtain⟨t,hs,hc⟩:=g.hit q hq
 refine⟨q,hq,hn,t,hs,hc,?_⟩
 have s1:aW 2 (aJ (aH yj6 (aB (aH (oC n) (aB (jI (aH rH (aB (aA 1) aE))) (aB (aA 0) aE))) aE))) [some (.tup (pcsD r)),some (.int W),none]=some (.nx,[some (.tup (pcsD r)),some (.int W),some (.tup (cI q.2.2))]):=
  bF (aU (aD (aU (aD (tT (aU (aD rfl rfl) (xT hW0))) (aD rfl rfl)) (uO hW0 hW1 hd h8 ho hl)) rfl) e)
 have im:=iP q.2.2
 exact gL rfl (cS s1 ⟨_,cF (eX (aD (aU (aD rfl (aD rfl rfl)) (xg8 hdm h8 ho hl hs)) (aD (cL (d:= .tup (cI q.2.2)) rfl im) rfl)) (by simp [D.imms,D.imm,im]) (by simp))⟩)
abbrev zf4(n:Nat):List D->Bool:=gX 2 1 (yX zc1 (oC n) rH)
theorem xj0{W:Int}{n:Nat}{r:List Pc}(hW0:0<=W)(hW1:W<=40)(hd:depR r<n)(h8:depR r<=16)(ho:okR r)(hl:(toksR r).length<=800)(he:cR W n r=[]):zf4 n [.tup (pcsD r),.int W]=true:=by
 have q:=uO hW0 hW1 hd h8 ho hl
 rw [he] at q
 have e:aB (aH (oC n) (aB (jI (aH rH (aB (aA 1) aE))) (aB (aA 0) aE))) aE [some (.tup (pcsD r)),some (.int W),none]=some [aI false W []]:=aD (aU (aD (tT (aU (aD rfl rfl) (xT hW0))) (aD rfl rfl)) q) rfl
 show zi7 zc1 _ [some (.tup (pcsD r)),some (.int W),none]=true
 unfold zi7
 rw [e]
 exact xq9 W
theorem xr1{r:List Pc}{C:List Int}{t:Str}(h8:depR r<=16)(ho:okR r)(hl:(toksR r).length<=800)(h:setR true 0 r C ⟨#[]⟩=some ([],t)):t.length<=900000:=by
 obtain⟨u',ps',q,e1,e2,e3,e4,e5⟩:=zs1 (depR r+1) r (YV _) ho true 0 C 0 [] [] t (Yg _) (by omega) h (ZJ _) ⟨by show 0+_<=_;omega,by show 0+_<=_;omega⟩
 have e5':(cat ps').length<=0+201*(toksR r).length:=e5
 rw [e2] at e5'
 omega
def sU(t:Str)(cs:List Int)(c2:D)(c3:Int):D:= .lst true [.str t,.lst true (cI cs),c2,.int c3]
theorem wn6:ixN 4 1=some 1:=by decide
theorem qQ{np n:Nat}{m:Nat->Bool}{f:tz1}{ds ds':List D}{d:D}{q:PSt}(hl:ds.length=np)(h:f (ds.map some++List.replicate n none)=some (.ret d,q))(ho:yC m q 0 ds=some ds'):gE np n m f ds=some (d,ds'):=by
 unfold gE
 rw [if_pos hl,h,Z2]
 show(yC m q 0 ds).bind _=_
 rw [ho];rfl
theorem yh2{f:tz8}{p p':PSt}{d:D}(h:f p=some (d,p')):bX f p=some (.ret d,p'):=by unfold bX;rw [h];rfl
theorem xr2{i:Nat}{f:tz8}{p p':PSt}{d:D}(h:f p=some (d,p')):aW i f p=some (.nx,p'.set i (some d)):=by unfold aW;rw [h];rfl
theorem wi6{i:Nat}{fe:tz2}{y a:D}{l:List D}{p:PSt}(h:fe p=some y)(hp:p[i]? =some (some (.lst true (a::l)))):dW i bK (fC (.int 0)) fe p=some (.nx,p.set i (some (.lst true (y::l)))):=by
 have e:ixN (l.length+1) 0=some 0:=rJ _
 simp [dW,h,hp,bK,fC,fY,gV,e]
theorem yh3:∀{rs:List (List Pc)} {i:Nat} {r:List Pc},rs[i]? =some r->(rowsD rs)[i]? =some (.tup (pcsD r))
 |[],i,_,h=>by simp at h
 |q::rs,0,_,h=>by simp at h;subst h;rfl
 |q::rs,i+1,_,h=>by show(rowsD rs)[i]? =_;exact yh3 (by simpa using h)
section
variable{GM:tz6}{S:D}
abbrev zt0(GM:tz6):tz7:=gE 3 2 (bE [false,true,false]) (zg4 GM)
abbrev gI(GM:tz6)(GS:tz7):tz7:=gE 5 1 (bE [false,false,false,false,true]) (zo3 GS (zt0 GM))
def qG(GM:tz6):Nat->tz7
 |0=>fun _=>none
 |n+1=>gE 5 2 (bE [false,false,false,false,true]) (yi9 (gI GM (qG GM n)))
abbrev xt0:tz2:=f2 jB (f2 jB (aH dJ (aB (f2 dIx (aA 4) (fC (.int 0))) aE)) (fC (.int 1))) (fMt za9 (f2 dIx (aA 4) (fC (.int 0))) (aB (fC (.str "\n")) aE))
def lN(GI:tz7):tz1:=aT (aW 6 (aJ xt0))
 (fIf (aV (pQ (kdT 5 "word") (cJ (kdT 5 "gap") (fT (aA 2)))))
  (dW 4 bK (fC (.int 0)) (f2 bQ (f2 dIx (aA 4) (fC (.int 0))) (f2 dIx (aA 5) (fC (.int 1)))))
  (fIf (aV (cJ (kdT 5 "stop") (fB (f2 dLe (aA 6) (f2 dIx (aA 5) (fC (.int 1)))))))
  (dW 4 bK (fC (.int 0)) (f2 bQ (f2 dIx (aA 4) (fC (.int 0))) (f2 jC (fC (.str " ")) (f2 jB (f2 dIx (aA 5) (fC (.int 1))) (aA 6)))))
  (fIf (aV (cJ (kdT 5 "stop") (eB (fT (aA 2)))))
  (dW 4 bK (fC (.int 0)) (f2 bQ (f2 bQ (f2 dIx (aA 4) (fC (.int 0))) (fC (.str "\n"))) (f2 jC (fC (.str " ")) (f2 dIx (aA 5) (fC (.int 1))))))
  (fIf (aV (fB (f2 dIn (f2 dIx (aA 5) (fC (.int 0))) (cZ (fKs [.str "gap",.str "end",.str "stop"])))))
  (aT (fIf (aV (fT (aA 2)))
  (bX (aJ (fC (.bl false))))
  bO)
 (dW 4 bK (fC (.int 0)) (f2 bQ (f2 bQ (f2 dIx (aA 4) (fC (.int 0))) (fC (.str "\n"))) (f2 jC (fC (.str " ")) (aA 3)))))
  (fIf (ze4 (fTE (fIO [.im (aA 0),.im (aA 5),.im (aA 2),.im (aA 3),.io 4] GI)))
  (bX (aJ (fC (.bl false))))
  bO)))))
theorem za7(k:String)(b:Bool)(h:dIn (.str k) (.lst true [.str "gap",.str "end",.str "stop"])=some (.bl b)){p:PSt}{ds:List D}(hp:p[5]? =some (some (.tup (.str k::ds)))):fB (f2 dIn (f2 dIx (aA 5) (fC (.int 0))) (cZ (fKs [.str "gap",.str "end",.str "stop"]))) p=some b:=dO (aQ (y:= .lst true [.str "gap",.str "end",.str "stop"]) (aQ (mT hp) rfl (nC _ _)) rfl h)
theorem yh4{t:Str}{cs:List Int}{c2:D}{c3:Int}{x0 x1 x2 x3 x5 x6:Option D}(ht:t.length<=1000000):aW 6 (aJ xt0) [x0,x1,x2,x3,some (sU t cs c2 c3),x5,x6]=some (.nx,[x0,x1,x2,x3,some (sU t cs c2 c3),x5,some (.int (col t:Int))]):=by
 have hs:sizeLine=16777216:=Y6
 have hz:t.length<=sizeLine:=by omega
 have e:=xg2 t
 rw [<-zl7] at e
 refine bF (d:= .int (col t:Int)) ?_
 simp! [xt0,sU,hz,zn5,za9,e]
theorem wb7{GI:tz7}{l:Leaf}{flat:Bool}{m:Int}{t w:Str}{cs:List Int}{c2:D}{c3:Int}{R x6:Option D}(hl:fI l)(h0:0<=m)(h1:m<=200)(ht:t.length<=900000)(e:wr (!flat) m (col t) l=some w):
  ∃y6,lN GI [some S,R,some (.bl flat),some (.int m),some (sU t cs c2 c3),some (bC l),x6]=some (.nx,[some S,R,some (.bl flat),some (.int m),some (sU (t++w) cs c2 c3),some (bC l),y6]):=by
 have hs:sizeLine=16777216:=Y6
 have c:=yh4 (cs:=cs) (c2:=c2) (c3:=c3) (x0:=some S) (x1:=R) (x2:=some (.bl flat)) (x3:=some (.int m)) (x5:=some (bC l)) (x6:=x6) (t:=t) (by omega)
 have add:∀x:Str,x.length<=1000->bQ (.str t) (.str x)=some (.str (t++x)):=fun x hx=>by rw [bQ,if_pos];omega
 have wrote:∀{fe:tz2} {x:Str} {y6:Option D},fe [some S,R,some (.bl flat),some (.int m),some (sU t cs c2 c3),some (bC l),y6]=some (.str (t++x))->dW 4 bK (fC (.int 0)) fe [some S,R,some (.bl flat),some (.int m),some (sU t cs c2 c3),some (bC l),y6]=some (.nx,[some S,R,some (.bl flat),some (.int m),some (sU (t++x) cs c2 c3),some (bC l),y6]):=fun h=>wi6 h rfl
 have i0:∀y6:Option D,f2 dIx (aA 4) (fC (.int 0)) [some S,R,some (.bl flat),some (.int m),some (sU t cs c2 c3),some (bC l),y6]=some (.str t):=fun y6=>aQ (x:=sU t cs c2 c3) rfl rfl (nC _ _)
 have nl:∀{fe:tz2} {k:Int} {y6:Option D},0<=k->k<=200->fe [some S,R,some (.bl flat),some (.int m),some (sU t cs c2 c3),some (bC l),y6]=some (.int k)->f2 bQ (f2 bQ (f2 dIx (aA 4) (fC (.int 0))) (fC (.str "\n"))) (f2 jC (fC (.str " ")) fe) [some S,R,some (.bl flat),some (.int m),some (sU t cs c2 c3),some (bC l),y6]=some (.str (t++nlw k)):=fun {fe k y6} k0 k1 hf=>by
  have q:=zz1 k (by omega) (by omega)
  have e1:bQ (.str t) (.str "\n")=some (.str (t++(⟨#[10]⟩:Str))):=by
   rw [zl7,bQ,if_pos]
   show t.length+1<=_;omega
  have e2:bQ (.str (t++(⟨#[10]⟩:Str))) (.str (Txt.mul " " k))=some (.str (t++nlw k)):=by
   rw [bQ,if_pos,yo7];rfl
   rw [dL,lB];show t.length+1+_<=_;omega
  exact aQ (aQ (i0 y6) rfl e1) (aQ rfl hf q) e2
 cases l with
 |word x=>
  have e':x=w:=by simpa [wr] using e
  subst e'
  exact⟨_,(aO c).trans ((bM (wn3 (gA (i:=5) (k:="word") rfl (by decide)))).trans (wrote (aQ (i0 _) (aQ rfl rfl (gC _ _ _)) (add x (by have:=hl.2.1;omega)))))⟩
 | gap x=>
  have hx:x.length<=1:=by
   rcases(hl:x=""\/x=" ") with rfl|rfl<;>decide+kernel
  have w0:=gA (i:=5) (p:=[some S,R,some (.bl flat),some (.int m),some (sU t cs c2 c3),some (bC (.gap x)),some (.int (col t:Int))]) (k:="gap") (w:="word") rfl (b:=false) (by decide)
  have g0:=gA (i:=5) (p:=[some S,R,some (.bl flat),some (.int m),some (sU t cs c2 c3),some (bC (.gap x)),some (.int (col t:Int))]) (k:="gap") (w:="gap") rfl (b:=true) (by decide)
  have s0:=gA (i:=5) (p:=[some S,R,some (.bl flat),some (.int m),some (sU t cs c2 c3),some (bC (.gap x)),some (.int (col t:Int))]) (k:="gap") (w:="stop") rfl (b:=false) (by decide)
  cases flat with
  |true=>
   have e':x=w:=by simpa [wr] using e
   subst e'
   exact⟨_,(aO c).trans ((bM (pZ w0 (gR g0 (kK rfl)))).trans (wrote (aQ (i0 _) (aQ rfl rfl (gC _ _ _)) (add x (by omega)))))⟩
  |false=>
   have e':nlw m=w:=by simpa [wr] using e
   subst e'
   exact⟨_,(aO c).trans ((eI (cW (pZ w0 (gR g0 (kK rfl))))).trans ((eI (cW (fA s0))).trans ((eI (cW (fA s0))).trans ((bM (za7 "gap" true (by kernel_rfl) rfl)).trans ((aO (aY (kK rfl))).trans (wrote (nl h0 h1 rfl)))))))⟩
 | fin=>
  have w0:=gA (i:=5) (p:=[some S,R,some (.bl flat),some (.int m),some (sU t cs c2 c3),some (bC .fin),some (.int (col t:Int))]) (k:="end") (w:="word") rfl (b:=false) (by decide)
  have g0:=gA (i:=5) (p:=[some S,R,some (.bl flat),some (.int m),some (sU t cs c2 c3),some (bC .fin),some (.int (col t:Int))]) (k:="end") (w:="gap") rfl (b:=false) (by decide)
  have s0:=gA (i:=5) (p:=[some S,R,some (.bl flat),some (.int m),some (sU t cs c2 c3),some (bC .fin),some (.int (col t:Int))]) (k:="end") (w:="stop") rfl (b:=false) (by decide)
  cases flat with
  |true=>simp [wr] at e
  |false=>
   have e':nlw m=w:=by simpa [wr] using e
   subst e'
   exact⟨_,(aO c).trans ((eI (cW (pZ w0 (fA g0)))).trans ((eI (cW (fA s0))).trans ((eI (cW (fA s0))).trans ((bM (za7 "end" true (by kernel_rfl) rfl)).trans ((aO (aY (kK rfl))).trans (wrote (nl h0 h1 rfl)))))))⟩
 | stop k=>
  have hk:0<=k/\k<=40:=hl
  have w0:=gA (i:=5) (p:=[some S,R,some (.bl flat),some (.int m),some (sU t cs c2 c3),some (bC (.stop k)),some (.int (col t:Int))]) (k:="stop") (w:="word") rfl (b:=false) (by decide)
  have g0:=gA (i:=5) (p:=[some S,R,some (.bl flat),some (.int m),some (sU t cs c2 c3),some (bC (.stop k)),some (.int (col t:Int))]) (k:="stop") (w:="gap") rfl (b:=false) (by decide)
  have s0:=gA (i:=5) (p:=[some S,R,some (.bl flat),some (.int m),some (sU t cs c2 c3),some (bC (.stop k)),some (.int (col t:Int))]) (k:="stop") (w:="stop") rfl (b:=true) (by decide)
  have le:fB (f2 dLe (aA 6) (f2 dIx (aA 5) (fC (.int 1)))) [some S,R,some (.bl flat),some (.int m),some (sU t cs c2 c3),some (bC (.stop k)),some (.int (col t:Int))]=some (decide ((col t:Int)<=k)):=dO (aQ rfl (aQ rfl rfl (gC _ _ _)) rfl)
  change (if ((col t:Nat):Int)<=k then some (Txt.mul " " (k-col t)) else if (!flat)=true then some (nlw k) else none)=some w at e
  by_cases z:(col t:Int)<=k
  ·rw [if_pos z] at e
   cases e
   rw [Zq z] at le
   have q:=zz1 (k-col t) (by omega) (by omega)
   exact⟨_,(aO c).trans ((eI (cW (pZ w0 (fA g0)))).trans ((bM (gR s0 le)).trans (wrote (aQ (i0 _) (aQ rfl (aQ (aQ rfl rfl (gC _ _ _)) rfl rfl) q) (add _ (by rw [lB];omega))))))⟩
  ·rw [if_neg z] at e
   rw [Zd z] at le
   cases flat with
   |true=>simp at e
   |false=>
    have e':nlw k=w:=by simpa using e
    subst e'
    exact⟨_,(aO c).trans ((eI (cW (pZ w0 (fA g0)))).trans ((eI (cW (gR s0 le))).trans ((bM (gR s0 rfl)).trans (wrote (nl hk.1 (by omega) (aQ rfl rfl (gC _ _ _)))))))⟩
def okF(ok:Bool):Fl:=if ok=true then .nx else .ret (.bl false)
theorem xV{f:tz8}{p p':PSt}{ok:Bool}(h:f p=some (.bl ok,p')):ze4 (fTE f) p=some (!ok,p'):=by unfold ze4 fTE;rw [h];rfl
theorem wb8{p:Pc}{GI:tz7}(hS:S.imm=true)(hp:∀l,p≠ .leaf l){flat ok:Bool}{m:Int}{t t':Str}{cs cs':List Int}{c2:D}{c3:Int}{R x6:Option D}(ht:t.length<=1000000)
  (q:GI [S,pcD p,.bl flat,.int m,sU t cs c2 c3]=some (.bl ok,[S,pcD p,.bl flat,.int m,sU t' cs' c2 c3])):
  lN GI [some S,R,some (.bl flat),some (.int m),some (sU t cs c2 c3),some (pcD p),x6]=some (okF ok,[some S,R,some (.bl flat),some (.int m),some (sU t' cs' c2 c3),some (pcD p),some (.int (col t:Int))]):=by
 have c:=yh4 (cs:=cs) (c2:=c2) (c3:=c3) (x0:=some S) (x1:=R) (x2:=some (.bl flat)) (x3:=some (.int m)) (x5:=some (pcD p)) (x6:=x6) (t:=t) ht
 have io:fIO [.im (aA 0),.im (aA 5),.im (aA 2),.im (aA 3),.io 4] GI [some S,R,some (.bl flat),some (.int m),some (sU t cs c2 c3),some (pcD p),some (.int (col t:Int))]=some (.bl ok,[some S,R,some (.bl flat),some (.int m),some (sU t' cs' c2 c3),some (pcD p),some (.int (col t:Int))]):=zY (eL (f:=aA 0) rfl hS (eL (f:=aA 5) rfl (tI p) (eL (f:=aA 2) rfl rfl (eL (f:=aA 3) rfl rfl (vY (j:=4) rfl jO))))) q rfl
 have go:∀(kn:String) (ds:List D),pcD p= .tup (.str kn::ds)->decide (kn="word")=false->decide (kn="gap")=false->decide (kn="stop")=false->dIn (.str kn) (.lst true [.str "gap",.str "end",.str "stop"])=some (.bl false)->lN GI [some S,R,some (.bl flat),some (.int m),some (sU t cs c2 c3),some (pcD p),x6]=some (okF ok,[some S,R,some (.bl flat),some (.int m),some (sU t' cs' c2 c3),some (pcD p),some (.int (col t:Int))]):=fun kn ds hk a b d e=>by
  have kk:∀(w:String),decide (kn=w)=false->kdT 5 w [some S,R,some (.bl flat),some (.int m),some (sU t cs c2 c3),some (pcD p),some (.int (col t:Int))]=some false:=fun w hw=>gA (i:=5) (k:=kn) (ds:=ds) (by rw [hk];rfl) hw
  refine(aO c).trans ((eI (cW (pZ (kk _ a) (fA (kk _ b))))).trans ((eI (cW (fA (kk _ d)))).trans ((eI (cW (fA (kk _ d)))).trans ((eI (cW (za7 kn false e (ds:=ds) (by rw [hk];rfl)))).trans ?_))))
  cases ok with
  |true=>exact(eI (xV io)).trans rfl
  |false=>exact(zl4 (xV io)).trans rfl
 cases p with
 |leaf l=>exact absurd rfl (hp l)
 |group r=>exact go "group" _ rfl (by decide) (by decide) (by decide) (by kernel_rfl)
 |hang n r=>exact go "hang" _ rfl (by decide) (by decide) (by decide) (by kernel_rfl)
 |either rs=>exact go "either" _ rfl (by decide) (by decide) (by decide) (by kernel_rfl)
end
theorem wb9{GI:tz7}{S:D}{l:Leaf}{flat:Bool}{m:Int}{t:Str}{cs:List Int}{c2:D}{c3:Int}{R x6:Option D}(hl:fI l)(ht:t.length<=900000)(e:wr (!flat) m (col t) l=none):
  flat=true/\∃y6,lN GI [some S,R,some (.bl flat),some (.int m),some (sU t cs c2 c3),some (bC l),x6]=some (.ret (.bl false),[some S,R,some (.bl flat),some (.int m),some (sU t cs c2 c3),some (bC l),y6]):=by
 have hs:sizeLine=16777216:=Y6
 have c:=yh4 (cs:=cs) (c2:=c2) (c3:=c3) (x0:=some S) (x1:=R) (x2:=some (.bl flat)) (x3:=some (.int m)) (x5:=some (bC l)) (x6:=x6) (t:=t) (by omega)
 cases l with
 |word x=>simp [wr] at e
 |gap x=>cases flat<;>simp [wr] at e
 | fin=>
  cases flat with
  |false=>simp [wr] at e
  |true=>
   have w0:=gA (i:=5) (p:=[some S,R,some (.bl true),some (.int m),some (sU t cs c2 c3),some (bC .fin),some (.int (col t:Int))]) (k:="end") (w:="word") rfl (b:=false) (by decide)
   have g0:=gA (i:=5) (p:=[some S,R,some (.bl true),some (.int m),some (sU t cs c2 c3),some (bC .fin),some (.int (col t:Int))]) (k:="end") (w:="gap") rfl (b:=false) (by decide)
   have s0:=gA (i:=5) (p:=[some S,R,some (.bl true),some (.int m),some (sU t cs c2 c3),some (bC .fin),some (.int (col t:Int))]) (k:="end") (w:="stop") rfl (b:=false) (by decide)
   exact⟨rfl,_,(aO c).trans ((eI (cW (pZ w0 (fA g0)))).trans ((eI (cW (fA s0))).trans ((eI (cW (fA s0))).trans ((bM (za7 "end" true (by kernel_rfl) rfl)).trans (dS ((bM (kK rfl)).trans (cF rfl)))))))⟩
 | stop k=>
  have hk:0<=k/\k<=40:=hl
  change (if ((col t:Nat):Int)<=k then some (Txt.mul " " (k-col t)) else if (!flat)=true then some (nlw k) else none)=none at e
  by_cases z:(col t:Int)<=k
  ·rw [if_pos z] at e;cases e
  ·rw [if_neg z] at e
   cases flat with
   |false=>simp at e
   |true=>
    have w0:=gA (i:=5) (p:=[some S,R,some (.bl true),some (.int m),some (sU t cs c2 c3),some (bC (.stop k)),some (.int (col t:Int))]) (k:="stop") (w:="word") rfl (b:=false) (by decide)
    have g0:=gA (i:=5) (p:=[some S,R,some (.bl true),some (.int m),some (sU t cs c2 c3),some (bC (.stop k)),some (.int (col t:Int))]) (k:="stop") (w:="gap") rfl (b:=false) (by decide)
    have s0:=gA (i:=5) (p:=[some S,R,some (.bl true),some (.int m),some (sU t cs c2 c3),some (bC (.stop k)),some (.int (col t:Int))]) (k:="stop") (w:="stop") rfl (b:=true) (by decide)
    have le:fB (f2 dLe (aA 6) (f2 dIx (aA 5) (fC (.int 1)))) [some S,R,some (.bl true),some (.int m),some (sU t cs c2 c3),some (bC (.stop k)),some (.int (col t:Int))]=some (decide ((col t:Int)<=k)):=dO (aQ rfl (aQ rfl rfl (gC _ _ _)) rfl)
    rw [Zd z] at le
    exact⟨rfl,_,(aO c).trans ((eI (cW (pZ w0 (fA g0)))).trans ((eI (cW (gR s0 le))).trans ((eI (cW (gR s0 (jF (b:=true) (kK rfl))))).trans ((bM (za7 "stop" true (by kernel_rfl) rfl)).trans (dS ((bM (kK rfl)).trans (cF rfl)))))))⟩
def zi9(c l w:Nat):Prop:=c+w<=900/\l+201*w<=900000
section
variable{GM:tz6}{S:D}
theorem xj1{t:Str}{cs:List Int}{many:Nat}{salt:Int}(hM:MxH GM S)(h0:0<many)(s0:0<=salt)(s1:salt<=900)(hc:cs.length<=900):
  ∃c:Nat,c<many/\(salt=0->c+1=many)/\zt0 GM [S,sU t cs .non salt,.int (many:Int)]=some (.int (c:Int),[S,sU t (cs++[(c:Int)]) .non salt,.int (many:Int)]):=by
 have s1':aW 3 (aJ (aH dJ (aB (f2 dIx (aA 1) (fC (.int 1))) aE))) [some S,some (sU t cs .non salt),some (.int (many:Int)),none,none]=some (.nx,[some S,some (sU t cs .non salt),some (.int (many:Int)),some (.int (cs.length:Int)),none]):=by
  refine bF (aU (aD (aQ (x:=sU t cs .non salt) rfl rfl (gC _ _ _)) rfl) ?_)
  show some (D.int ((cI cs).length:Int))=_
  rw [zZ]
 generalize hp:[some S,some (sU t cs .non salt),some (D.int (many:Int)),some (D.int (cs.length:Int)),none]=p at s1'
 have v0:aA 0 p=some S:=by rw [<-hp];rfl
 have v1:aA 1 p=some (sU t cs .non salt):=by rw [<-hp];rfl
 have v2:aA 2 p=some (.int (many:Int)):=by rw [<-hp];rfl
 have v3:aA 3 p=some (.int (cs.length:Int)):=by rw [<-hp];rfl
 have i2:f2 dIx (aA 1) (fC (.int 2)) p=some .non:=aQ v1 rfl rfl
 have i3:f2 dIx (aA 1) (fC (.int 3)) p=some (.int salt):=aQ v1 rfl (iL _ _ _ _)
 have n1:fB (f2 dIs (f2 dIx (aA 1) (fC (.int 2))) (fC .non)) p=some true:=dO (aQ i2 rfl rfl)
 have n2:fB (f2 dEq (f2 dIx (aA 1) (fC (.int 3))) (fC (.int 0))) p=some (decide (salt=0)):=dO (aQ i3 rfl rfl)
 have hl2:(cI cs).length<sizeLine:=by rw [zZ];exact sz1 (by omega)
 have fin:∀c:Nat,cX (dI 1 (dM 1 bK (fC (.int 1))) (aB (aX (aA 4)) aE) eR) (p.set 4 (some (.int (c:Int))))=some (.nx,[some S,some (sU t (cs++[(c:Int)]) .non salt),some (.int (many:Int)),some (.int (cs.length:Int)),some (.int (c:Int))]):=fun c=>by
  have ei:cI (cs++[(c:Int)])=cI cs++[.int (c:Int)]:=by rw [zw1];rfl
  rw [<-hp]
  unfold sU
  rw [ei]
  simp! [dM,wn6,hl2]
 by_cases z:salt=0
 ·rw [Zq z] at n2
  have e:f2 jB (aA 2) (fC (.int 1)) p=some (.int ((many-1:Nat):Int)):=aQ v2 rfl (by show some (D.int ((many:Int)-1))=_;rw [show((many:Int)-1)=((many-1:Nat):Int) by omega])
  refine⟨many-1,by omega,fun _=>by omega,qQ rfl ((aO s1').trans ((aO ((bM (gR n1 n2)).trans (bF e))).trans ((aO (fin _)).trans rfl))) rfl⟩
 ·rw [Zd z] at n2
  obtain⟨a,qa,ha⟩:=hM ((cs.length:Int)+7) salt (by omega) (by omega) s0 (by omega)
  have m0:=ZF a (show(many:Int)≠0 by omega)
  have m1:=Zy a (show(0:Int)<many by omega)
  obtain⟨c,hcc⟩:∃c:Nat,a % (many:Int)=(c:Int):=⟨(a % (many:Int)).toNat,by omega⟩
  have e:f2 eE (aH GM (aB (aA 0) (aB (f2 bQ (aA 3) (fC (.int 7))) (aB (f2 dIx (aA 1) (fC (.int 3))) aE)))) (aA 2) p=some (.int (c:Int)):=aQ (aU (aD v0 (aD (aQ v3 rfl rfl) (aD i3 rfl))) qa) v2 ((dG _ _).trans ((if_pos (by omega)).trans (by rw [hcc])))
  refine⟨c,by omega,fun z'=>absurd z' z,qQ rfl ((aO s1').trans ((aO ((eI (cW (gR n1 n2))).trans ((bM n1).trans (bF e)))).trans ((aO (fin _)).trans rfl))) rfl⟩
def DrR(S:D)(GS:tz7)(r:List Pc):Prop:=∀(flat:Bool) (m:Int) (t:Str) (cs:List Int) (salt:Int),0<=m->m+12*depR r<=200->0<=salt->salt<=900->zi9 cs.length t.length (toksR r).length->
 ∃ok t' ds,GS [S,.tup (pcsD r),.bl flat,.int m,sU t cs .non salt]=some (.bl ok,[S,.tup (pcsD r),.bl flat,.int m,sU t' (cs++ds) .non salt])/\(ok=true->∀x,setR (!flat) m r (ds++x) t=some (x,t'))/\(salt=0->flat=false->ok=true)/\ds.length<=(toksR r).length/\t'.length<=t.length+201*(toksR r).length
def DrP(S:D)(GI:tz7)(p:Pc):Prop:=∀(flat:Bool) (m:Int) (t:Str) (cs:List Int) (salt:Int),0<=m->m+12*dY p<=200->0<=salt->salt<=900->zi9 cs.length t.length (cC p).length->
 ∃ok t' ds,GI [S,pcD p,.bl flat,.int m,sU t cs .non salt]=some (.bl ok,[S,pcD p,.bl flat,.int m,sU t' (cs++ds) .non salt])/\(ok=true->∀x,cK (!flat) m p (ds++x) t=some (x,t'))/\(salt=0->flat=false->ok=true)/\ds.length<=(cC p).length/\t'.length<=t.length+201*(cC p).length
theorem xr3{GS:tz7}{p:Pc}{k:Nat}(hS:S.imm=true)(hM:MxH GM S)(hG:∀r,depR r<k->okR r->DrR S GS r)(hd:dY p<=k)(ho:okP p)(hp:∀l,p≠ .leaf l):DrP S (gI GM GS) p:=fun flat m t cs salt h0 h1 s0 s1 hf=>by
 have kd:∀(k w:String) (ds:List D) (b:Bool) (x5:Option D) (st:D),pcD p= .tup (.str k::ds)->decide (k=w)=b->kdT 1 w [some S,some (pcD p),some (.bl flat),some (.int m),some st,x5]=some b:=fun k w ds b x5 st hk hb=>gA (i:=1) (k:=k) (ds:=ds) (by rw [hk];rfl) hb
 have call:∀{a1 a2 a3:tz2} {r:List Pc} {b ok:Bool} {m':Int} {q0 q1:D} {x5:Option D},a1 [some S,some (pcD p),some (.bl flat),some (.int m),some q0,x5]=some (.tup (pcsD r))->a2 [some S,some (pcD p),some (.bl flat),some (.int m),some q0,x5]=some (.bl b)->a3 [some S,some (pcD p),some (.bl flat),some (.int m),some q0,x5]=some (.int m')->GS [S,.tup (pcsD r),.bl b,.int m',q0]=some (.bl ok,[S,.tup (pcsD r),.bl b,.int m',q1])->
   fIO [.im (aA 0),.im a1,.im a2,.im a3,.io 4] GS [some S,some (pcD p),some (.bl flat),some (.int m),some q0,x5]=some (.bl ok,[some S,some (pcD p),some (.bl flat),some (.int m),some q1,x5]):=fun e1 e2 e3 q=>zY (eL (f:=aA 0) rfl hS (eL e1 (pcs_imm _) (eL e2 rfl (eL e3 rfl (vY (j:=4) rfl jO))))) q rfl
 have fin:∀{a1 a2 a3:tz2} {r:List Pc} {b ok:Bool} {m':Int} {q0 q1:D} {c:Int},0<=c->a1 [some S,some (pcD p),some (.bl flat),some (.int m),some q0,some (.int c)]=some (.tup (pcsD r))->a2 [some S,some (pcD p),some (.bl flat),some (.int m),some q0,some (.int c)]=some (.bl b)->a3 [some S,some (pcD p),some (.bl flat),some (.int m),some q0,some (.int c)]=some (.int m')->GS [S,.tup (pcsD r),.bl b,.int m',q0]=some (.bl ok,[S,.tup (pcsD r),.bl b,.int m',q1])->
   bX (ze8 (f2 dGe (aA 5) (fC (.int 0))) (fIO [.im (aA 0),.im a1,.im a2,.im a3,.io 4] GS)) [some S,some (pcD p),some (.bl flat),some (.int m),some q0,some (.int c)]=some (.ret (.bl ok),[some S,some (pcD p),some (.bl flat),some (.int m),some q1,some (.int c)]):=fun {a1 a2 a3 r b ok m' q0 q1 c} h0 e1 e2 e3 q=>by
  have g:f2 dGe (aA 5) (fC (.int 0)) [some S,some (pcD p),some (.bl flat),some (.int m),some q0,some (.int c)]=some (.bl true):=aQ rfl rfl (by
   show some (D.bl (decide _))=_
   rw [Zq h0])
  refine yh2 ?_
  unfold ze8
  rw [g]
  exact call e1 e2 e3 q
 have draw:∀{f:tz2} {many:Nat} {x5:Option D},0<many->f [some S,some (pcD p),some (.bl flat),some (.int m),some (sU t cs .non salt),x5]=some (.int (many:Int))->∃c:Nat,c<many/\(salt=0->c+1=many)/\aW 5 (fIO [.im (aA 0),.io 4,.im f] (zt0 GM)) [some S,some (pcD p),some (.bl flat),some (.int m),some (sU t cs .non salt),x5]=some (.nx,[some S,some (pcD p),some (.bl flat),some (.int m),some (sU t (cs++[(c:Int)]) .non salt),some (.int (c:Int))]):=fun {f many x5} hmn hf=>by
  have hc:cs.length<=900:=by have:=‹zi9 _ _ _›;unfold zi9 at this;omega
  obtain⟨c,c1,c2,q⟩:=xj1 (t:=t) (cs:=cs) hM hmn s0 s1 hc
  exact⟨c,c1,c2,xr2 (zY (eL (f:=aA 0) rfl hS (vY (j:=4) rfl (eL hf rfl jO))) q rfl)⟩
 unfold zi9 at hf
 cases p with
 |leaf l=>exact absurd rfl (hp l)
 |hang n r=>
  have ho':(0<=n/\n<=12)/\okR r:=ho
  rw [dY] at hd h1
  have ht:(cC (.hang n r)).length=(toksR r).length+2:=by simp [cC]
  rw [ht] at hf|-
  obtain⟨ok,t',ds,q,e1,e2,e3,e4⟩:=hG r hd ho'.2 flat (m+n) t cs salt (Int.add_nonneg h0 ho'.1.1) (xg6 h1 ho'.1.2) s0 s1 ⟨by omega,by omega⟩
  refine⟨ok,t',ds,qQ rfl (dS ((bM (kd "hang" "hang" _ true none _ rfl (by decide))).trans (yh2 (call (aQ rfl rfl (yv4 _ _ _ _)) rfl (aQ rfl (aQ rfl rfl (gC _ _ _)) rfl) q)))) rfl,fun h x=> ?_,e2,by omega,by omega⟩
  rw [cK]
  exact e1 h x
 | group r=>
  have ho':okR r:=ho
  rw [dY] at hd h1
  have ht:(cC (.group r)).length=(toksR r).length+2:=by simp [cC]
  rw [ht] at hf|-
  have k1:=fun st=>kd "group" "hang" _ false none st rfl (by decide)
  have k2:=fun st=>kd "group" "group" _ true none st rfl (by decide)
  cases flat with
  |true=>
   obtain⟨ok,t',ds,q,e1,e2,e3,e4⟩:=hG r hd ho' true m t cs salt h0 (za0 h1) s0 s1 ⟨by omega,by omega⟩
   refine⟨ok,t',ds,qQ rfl ((aO (aY (k1 _))).trans (dS ((bM (k2 _)).trans ((aO (bF rfl)).trans ((aO (aY rfl)).trans (fin (Yg _) (aQ rfl rfl (gC _ _ _)) rfl rfl q)))))) rfl,fun h x=> ?_,fun _ z=>absurd z.symm Z7,by omega,by omega⟩
   rw [cK.eq_def]
   exact e1 h x
  | false=>
   obtain⟨c,c1,c2,qc⟩:=draw (f:=fC (.int 2)) (many:=2) (x5:=some (.int 0)) (by decide) rfl
   obtain⟨bb,hbb⟩:∃bb:Bool,decide ((c:Int)=0)=bb:=⟨_,rfl⟩
   obtain⟨ok,t',ds,q,e1,e2,e3,e4⟩:=hG r hd ho' bb m t (cs++[(c:Int)]) salt h0 (za0 h1) s0 s1 ⟨by rw [Z3];show _+1+_<=_;omega,by omega⟩
   rw [Zl] at q
   refine⟨ok,t',(c:Int)::ds,qQ rfl ((aO (aY (k1 _))).trans (dS ((bM (k2 _)).trans ((aO (bF rfl)).trans ((aO ((bM rfl).trans qc)).trans (fin (by omega) (aQ rfl rfl (gC _ _ _)) (aQ rfl rfl (by rw [<-hbb];rfl)) rfl q)))))) rfl,fun h x=> ?_,fun z _=>e2 z ?_,by rw [Z6];omega,by omega⟩
   ·have e:=e1 h x
    rw [cK.eq_def]
    show(if ((c:Int))=0 then _ else _)=_
    by_cases cz:(c:Int)=0
    ·rw [Zq cz] at hbb
     subst hbb
     rw [if_pos cz]
     exact e
    ·rw [Zd cz] at hbb
     subst hbb
     rw [if_neg cz,if_pos (by omega)]
     exact e
   ·have:=c2 z
    rw [<-hbb]
    exact Zd (by omega)
 |either rs=>
  have ho':(2<=rs.length/\rs.length<=4)/\okRs rs:=ho
  have k1:=fun st=>kd "either" "hang" _ false none st rfl (by decide)
  have k2:=fun st=>kd "either" "group" _ false none st rfl (by decide)
  obtain⟨c,c1,c2,qc⟩:=draw (f:=aH dJ (aB (f2 dIx (aA 1) (fC (.int 1))) aE)) (many:=rs.length) (x5:=none) (by omega) (aU (aD (aQ rfl rfl (gC _ _ _)) rfl) (by show some (D.int ((rowsD rs).length:Int))=_;rw [kE]))
  have hr:rs[c]? =some rs[c]:=Zp c1
  have hdr:=uL hr
  have hor:=xK ho'.2 hr
  have htr:=vF (ZK hr)
  have ht:(cC (.either rs)).length=(toksRows rs).length+2:=by simp [cC]
  rw [dY] at hd h1
  rw [ht] at hf|-
  obtain⟨ok,t',ds,q,e1,e2,e3,e4⟩:=hG rs[c] (Y4 hdr hd) hor flat m t (cs++[(c:Int)]) salt h0 (zd9 (za0 h1) hdr) s0 s1 ⟨by rw [Z3];show _+1+_<=_;omega,by omega⟩
  rw [Zl] at q
  have ix:atI (rowsD rs) (c:Int)=some (.tup (pcsD rs[c])):=pJ (yh3 hr)
  refine⟨ok,t',(c:Int)::ds,qQ rfl ((aO (aY (k1 _))).trans ((aO (aY (k2 _))).trans ((aO qc).trans (fin (by omega) (aQ (aQ rfl rfl (gC _ _ _)) rfl ix) rfl rfl q)))) rfl,fun h x=> ?_,e2,by rw [Z6];omega,by omega⟩
  have e:=e1 h x
  rw [cK.eq_def]
  show(if 0<=(c:Int) then _ else _)=_
  rw [if_pos (by omega),qN (r:=rs[c]) (by rw [YR];exact hr)]
  exact e
theorem yq8{GS:tz7}{k:Nat}{R:Option D}{flat:Bool}{m salt:Int}(hS:S.imm=true)(hM:MxH GM S)(hG:∀r,depR r<k->okR r->DrR S GS r)(h0:0<=m)(s0:0<=salt)(s1:salt<=900):∀(r:List Pc) (t:Str) (cs:List Int) (x5 x6:Option D),depR r<=k->okR r->m+12*depR r<=200->zi9 cs.length t.length (toksR r).length->
  ∃ok t' ds y5 y6,dE 5 (lN (gI GM GS)) (pcsD r) [some S,R,some (.bl flat),some (.int m),some (sU t cs .non salt),x5,x6]=some (okF ok,[some S,R,some (.bl flat),some (.int m),some (sU t' (cs++ds) .non salt),y5,y6])/\(ok=true->∀x,setR (!flat) m r (ds++x) t=some (x,t'))/\(salt=0->flat=false->ok=true)/\ds.length<=(toksR r).length/\t'.length<=t.length+201*(toksR r).length
 |[],t,cs,x5,x6,_,_,_,_=>⟨true,t,[],x5,x6,by rw [Zj];rfl,fun _ x=>by rw [setR];rfl,fun _ _=>rfl,ZJ _,ZV _ _⟩
 | p ::r,t,cs,x5,x6,hd,ho,h1,hf=>by
  have htk:(toksR (p::r)).length=(cC p).length+(toksR r).length:=by rw [toksR,Z3]
  rw [htk] at hf|-
  rw [depR] at hd h1
  have hf':=hf
  unfold zi9 at hf'
  have one:∃ok t1 ds y6,lN (gI GM GS) [some S,R,some (.bl flat),some (.int m),some (sU t cs .non salt),some (pcD p),x6]=some (okF ok,[some S,R,some (.bl flat),some (.int m),some (sU t1 (cs++ds) .non salt),some (pcD p),y6])/\(ok=true->∀x,cK (!flat) m p (ds++x) t=some (x,t1))/\(salt=0->flat=false->ok=true)/\ds.length<=(cC p).length/\t1.length<=t.length+201*(cC p).length:=by
   have holder:(∀l,p≠ .leaf l)->∃ok t1 ds y6,lN (gI GM GS) [some S,R,some (.bl flat),some (.int m),some (sU t cs .non salt),some (pcD p),x6]=some (okF ok,[some S,R,some (.bl flat),some (.int m),some (sU t1 (cs++ds) .non salt),some (pcD p),y6])/\(ok=true->∀x,cK (!flat) m p (ds++x) t=some (x,t1))/\(salt=0->flat=false->ok=true)/\ds.length<=(cC p).length/\t1.length<=t.length+201*(cC p).length:=fun hp=>by
    obtain⟨ok,t1,ds,q,e⟩:=xr3 (GM:=GM) hS hM hG (show dY p<=k by omega) ho.1 hp flat m t cs salt h0 (by omega) s0 s1 ⟨by omega,by omega⟩
    exact⟨ok,t1,ds,some (.int (col t:Int)),wb8 (GI:=gI GM GS) (S:=S) (R:=R) (x6:=x6) hS hp (by omega) q,e⟩
   cases hp:p with
   | leaf l=>
    subst hp
    have h1':m<=200:=by omega
    cases ew:wr (!flat) m (col t) l with
    |none=>
     obtain⟨fl,y6,q⟩:=wb9 (GI:=gI GM GS) (S:=S) (cs:=cs) (c2:= .non) (c3:=salt) (R:=R) (x6:=x6) (l:=l) ho.1 (by omega) ew
     refine⟨false,t,[],y6,?_,fun h=>absurd h Z7,fun _ z=> ?_,ZJ _,ZV _ _⟩
     ·rw [Zj];exact q
     ·rw [fl] at z;cases z
    |some w=>
     obtain⟨_,hz⟩:=zd4 (l:=l) ho.1 h0 h1' ew
     obtain⟨y6,q⟩:=wb7 (GI:=gI GM GS) (S:=S) (cs:=cs) (c2:= .non) (c3:=salt) (R:=R) (x6:=x6) (l:=l) ho.1 h0 h1' (by omega) ew
     refine⟨true,t++w,[],y6,?_,fun _ x=> ?_,fun _ _=>rfl,ZJ _,?_⟩
     ·rw [Zj];exact q
     ·rw [cK,ew];rfl
     ·rw [dL,show(cC (.leaf l)).length=1 from rfl];omega
   |group r'=>subst hp;exact holder nofun
   |hang n r'=>subst hp;exact holder nofun
   |either rs=>subst hp;exact holder nofun
  obtain⟨ok,t1,ds,y6,q1,g1,g2,g3,g4⟩:=one
  have step:∀Y,lN (gI GM GS) [some S,R,some (.bl flat),some (.int m),some (sU t cs .non salt),some (pcD p),x6]=some Y->dE 5 (lN (gI GM GS)) (pcsD (p::r)) [some S,R,some (.bl flat),some (.int m),some (sU t cs .non salt),x5,x6]=(match Y with
    |(.nx,p')=>dE 5 (lN (gI GM GS)) (pcsD r) p'
    |(.ct,p')=>dE 5 (lN (gI GM GS)) (pcsD r) p'
    |(.bk,p')=>some (.nx,p')
    |(.ret d,p')=>some (.ret d,p')):=fun Y hY=>by
   show dE 5 (lN (gI GM GS)) (pcD p::pcsD r) _=_
   rw [dE]
   show((lN (gI GM GS) [some S,R,some (.bl flat),some (.int m),some (sU t cs .non salt),some (pcD p),x6]).bind _)=_
   rw [hY]
   obtain⟨f,p'⟩:=Y
   cases f<;>rfl
  cases ok with
  |false=>exact⟨false,t1,ds,some (pcD p),y6,step _ q1,fun h=>absurd h Z7,g2,by omega,by omega⟩
  |true=>
   obtain⟨ok2,t',ds2,z5,z6,q2,k1,k2,k3,k4⟩:=yq8 hS hM hG h0 s0 s1 r t1 (cs++ds) (some (pcD p)) y6 (by omega) ho.2 (by omega) ⟨by rw [Z3];omega,by omega⟩
   rw [Zl] at q2
   refine⟨ok2,t',ds++ds2,z5,z6,(step _ q1).trans q2,fun h x=> ?_,k2,by rw [Z3];omega,by omega⟩
   rw [setR,Zl,g1 rfl (ds2++x)]
   exact k1 h x
theorem yq9(hS:S.imm=true)(hM:MxH GM S):∀(n:Nat) (r:List Pc),depR r<n->okR r->DrR S (qG GM n) r
 |0,_,h,_=>absurd h (Ys _)
 |n+1,r,h,ho=>fun flat m t cs salt h0 h1 s0 s1 hf=>by
  obtain⟨ok,t',ds,y5,y6,q,e⟩:=yq8 (GM:=GM) (GS:=qG GM n) (R:=some (.tup (pcsD r))) (flat:=flat) hS hM (fun r' a b=>yq9 hS hM n r' a b) h0 s0 s1 r t cs none none (by omega) ho h1 hf
  refine⟨ok,t',ds,?_,e⟩
  have qf:gT 5 (eJ (aA 1)) (lN (gI GM (qG GM n))) [some S,some (.tup (pcsD r)),some (.bl flat),some (.int m),some (sU t cs .non salt),none,none]=some (okF ok,[some S,some (.tup (pcsD r)),some (.bl flat),some (.int m),some (sU t' (cs++ds) .non salt),y5,y6]):=q
  cases ok with
  |true=>exact qQ rfl ((aO qf).trans (cF rfl)) rfl
  |false=>exact qQ rfl (dS qf) rfl
abbrev wO(GM:tz6)(n:Nat):tz6:=gP 3 1 (zo4 (qG GM n))
theorem xj2{n:Nat}{r:List Pc}{salt:Int}(hS:S.imm=true)(hM:MxH GM S)(hd:depR r<n)(h8:depR r<=16)(ho:okR r)(hl:(toksR r).length<=800)(h0:0<=salt)(h1:salt<=900):
  ∃C t,wO GM n [S,.tup (pcsD r),.int salt]=some (.tup [.str t,.tup (cI C)])/\setR true 0 r C ⟨#[]⟩=some ([],t)/\C.length<=(toksR r).length/\t.length<=900000:=by
 have pi:=pcs_imm r
 have run:∀s:Int,0<=s->s<=900->∃ok t' ds,qG GM n [S,.tup (pcsD r),.bl false,.int 0,sU ⟨#[]⟩ [] .non s]=some (.bl ok,[S,.tup (pcsD r),.bl false,.int 0,sU t' ds .non s])/\(ok=true->setR true 0 r ds ⟨#[]⟩=some ([],t'))/\(s=0->ok=true)/\ds.length<=(toksR r).length/\t'.length<=900000:=fun s s0 s1=>by
  obtain⟨ok,t',ds,q,e1,e2,e3,e4⟩:=yq9 (GM:=GM) hS hM n r hd ho false 0 ⟨#[]⟩ [] s (Yg _) (by omega) s0 s1 ⟨by show 0+_<=_;omega,by show 0+_<=_;omega⟩
  exact⟨ok,t',ds,q,fun h=>by have:=e1 h [];rwa [Zj] at this,fun h=>e2 h rfl,e3,by have e4':t'.length<=0+201*(toksR r).length:=e4;omega⟩
 have st0:∀(f:tz2) (s:Int) (p:PSt),f p=some (.int s)->cZ (aB (fC (.str "")) (aB (cZ aE) (aB (fC .non) (aB f aE)))) p=some (sU ⟨#[]⟩ [] .non s):=fun f s p h=>by
  refine iA (aD rfl (aD (d:= .lst true []) rfl (aD rfl (aD h rfl)))) (by simp)|>.trans ?_
  rw [show Str.ofString ""=⟨#[]⟩ from by decide+kernel];rfl
 have fin:∀(t':Str) (ds:List Int) (s:Int),bX (aJ (cP (aB (aX (f2 dIx (aA 3) (fC (.int 0)))) (aB (aH fP (aB (f2 dIx (aA 3) (fC (.int 1))) aE)) aE)))) [some S,some (.tup (pcsD r)),some (.int salt),some (sU t' ds .non s)]=some (.ret (.tup [.str t',.tup (cI ds)]),[some S,some (.tup (pcsD r)),some (.int salt),some (sU t' ds .non s)]):=fun t' ds s=>by
  have hi:=iP ds
  refine cF ?_
  simp! [sU,hi]
 have call:∀(s:Int) (ok:Bool) (t':Str) (ds:List Int),qG GM n [S,.tup (pcsD r),.bl false,.int 0,sU ⟨#[]⟩ [] .non s]=some (.bl ok,[S,.tup (pcsD r),.bl false,.int 0,sU t' ds .non s])->
   fIO [.im (aA 0),.im (aA 1),.im (fC (.bl false)),.im (fC (.int 0)),.io 3] (qG GM n) [some S,some (.tup (pcsD r)),some (.int salt),some (sU ⟨#[]⟩ [] .non s)]=some (.bl ok,[some S,some (.tup (pcsD r)),some (.int salt),some (sU t' ds .non s)]):=fun s ok t' ds q=>
  zY (eL (f:=aA 0) rfl hS (eL (f:=aA 1) (d:= .tup (pcsD r)) rfl pi (eL (f:=fC (.bl false)) rfl rfl (eL (f:=fC (.int 0)) rfl rfl (vY (j:=3) rfl jO))))) q rfl
 obtain⟨ok,t',ds,q,e1,_,e6⟩:=run salt h0 h1
 have z0:aW 3 (aJ (cZ (aB (fC (.str "")) (aB (cZ aE) (aB (fC .non) (aB (aX (aA 2)) aE)))))) [some S,some (.tup (pcsD r)),some (.int salt),none]=some (.nx,[some S,some (.tup (pcsD r)),some (.int salt),some (sU ⟨#[]⟩ [] .non salt)]):=bF (st0 _ salt _ (cL rfl rfl))
 cases ok with
 |true=>exact⟨ds,t',jW rfl ((aO z0).trans ((aO ((eI (xV (call _ _ _ _ q))).trans rfl)).trans (fin t' ds salt))),e1 rfl,e6⟩
 | false=>
  obtain⟨ok2,t2,d2,q2,f1,f2',f6⟩:=run 0 (Yg _) (by decide)
  have hok:=f2' rfl
  subst hok
  have z1:aW 3 (aJ (cZ (aB (fC (.str "")) (aB (cZ aE) (aB (fC .non) (aB (fC (.int 0)) aE)))))) [some S,some (.tup (pcsD r)),some (.int salt),some (sU t' ds .non salt)]=some (.nx,[some S,some (.tup (pcsD r)),some (.int salt),some (sU ⟨#[]⟩ [] .non 0)]):=bF (st0 _ 0 _ rfl)
  have c2:cX (fIO [.im (aA 0),.im (aA 1),.im (fC (.bl false)),.im (fC (.int 0)),.io 3] (qG GM n)) [some S,some (.tup (pcsD r)),some (.int salt),some (sU ⟨#[]⟩ [] .non 0)]=some (.nx,[some S,some (.tup (pcsD r)),some (.int salt),some (sU t2 d2 .non 0)]):=by
   unfold cX
   rw [call 0 true t2 d2 q2];rfl
  exact⟨d2,t2,jW rfl ((aO z0).trans ((aO ((zl4 (xV (call _ _ _ _ q))).trans ((aO z1).trans c2))).trans (fin t2 d2 0))),f1 rfl,f6⟩
end
structure RowIn(n:Nat)(r:List Pc):Prop where
 dn:depR r<n
 d16:depR r<=16
 ok:okR r
 len:(toksR r).length<=800
theorem RowIn.good{n:Nat}{r:List Pc}(h:RowIn n r){W:Int}(hW:0<=W):Good W (fun cs t=>setR true 0 r cs ⟨#[]⟩=some ([],t)) (cR W n r):=xP (n:=n) hW h.dn h.ok (by have:=h.d16;omega)
theorem RowIn.best{n:Nat}{r:List Pc}(h:RowIn n r){W:Int}(hW:0<=W):mM W (fun cs t=>setR true 0 r cs ⟨#[]⟩=some ([],t)) (cR W n r):=yw6 (n:=n) hW h.dn h.ok (by have:=h.d16;omega)
theorem wc0{F:Frt}(nd:(F.map (·.1)).Nodup):(rdL F).isEmpty=F.isEmpty:=by
 cases F with
 |nil=>rfl
 |cons q F=>
  have h:=(wa8 nd (q:=q)).mpr Z0
  cases e:rdL (q::F) with
  |nil=>rw [e] at h;cases h
  |cons x l=>rfl
abbrev yj8(n:Nat):tz4:=fT (aH (zo9 n) (aB (aA 0) (aB (aA 1) aE)))
theorem xj3{n:Nat}{r:List Pc}{W:Int}(h:RowIn n r)(hW0:0<=W)(hW1:W<=40):yj8 n [some (.tup (pcsD r)),some (.int W)]=some (!(cR W n r).isEmpty):=by
 have q:=xq4 hW0 hW1 h.dn h.d16 h.ok h.len
 unfold yj8 fT
 rw [aU (aD rfl (aD rfl rfl)) q,Z2]
 show some (!((rdL (cR W n r)).map zf2).isEmpty)=_
 rw [List.isEmpty_map,wc0 (h.good hW0).nd]
abbrev nM(n:Nat):tz1:=fIf (aV (yj8 n)) (jQ 1) bO
def yj9(n:Nat)(r:List Pc)(k W:Nat):Prop:=∀V:Nat,k<=V->V<W->cR V n r=[]
theorem yh5{n:Nat}{r:List Pc}(h:RowIn n r):∀(m k:Nat) (x:Option D),k+m=41->
  (∃W:Nat,k<=W/\W<=40/\cR W n r≠[]/\yj9 n r k W/\∃z,dE 1 (nM n) (eS (k:Int) m) [some (.tup (pcsD r)),x]=some (.ret (.int W),z))\/
  (yj9 n r k 41/\∃z,dE 1 (nM n) (eS (k:Int) m) [some (.tup (pcsD r)),x]=some (.nx,z))
 |0,k,x,hk=> .inr ⟨fun V a b=>by omega,_,rfl⟩
 | m +1,k,x,hk=>by
  have t:=xj3 (W:=k) h (by omega) (by omega)
  rw [zl5]
  by_cases c:cR k n r=[]
  ·rw [c] at t
   have s:nM n [some (.tup (pcsD r)),some (.int k)]=some (.nx,[some (.tup (pcsD r)),some (.int k)]):=aY t
   have e:dE 1 (nM n) (.int k::eS ((k+1:Nat):Int) m) [some (.tup (pcsD r)),x]=dE 1 (nM n) (eS ((k+1:Nat):Int) m) [some (.tup (pcsD r)),some (.int k)]:=by
    rw [dE]
    show((nM n [some (.tup (pcsD r)),some (.int k)]).bind _)=_
    rw [s];rfl
   rw [e]
   rcases yh5 h m (k+1) (some (.int k)) (by omega) with ⟨W,h1,h2,h3,h4,h5⟩|⟨h4,h5⟩
   ·exact .inl ⟨W,by omega,h2,h3,fun V a b=>by
     by_cases z:V=k
     ·rw [z];exact c
     ·exact h4 V (by omega) b,h5⟩
   ·exact .inr ⟨fun V a b=>by
     by_cases z:V=k
     ·rw [z];exact c
     ·exact h4 V (by omega) b,h5⟩
  ·have ne:(!(cR k n r).isEmpty)=true:=by
    cases hF:cR k n r with
    |nil=>exact absurd hF c
    |cons q F=>rfl
   rw [ne] at t
   refine .inl ⟨k,Zc _,by omega,c,fun V a b=>by omega,[some (.tup (pcsD r)),none],?_⟩
   rw [dE]
   show((nM n [some (.tup (pcsD r)),some (.int k)]).bind _)=_
   rw [show nM n [some (.tup (pcsD r)),some (.int k)]=some (.ret (.int k),[some (.tup (pcsD r)),none]) from(bM t).trans rfl];rfl
abbrev sQ(n:Nat):tz6:=gP 1 1 (wM (zo9 n))
abbrev yN(n:Nat):List D->Bool:=gX 1 1 (uV (zo9 n))
structure Nar(n:Nat)(r:List Pc)(W:Nat):Prop where
 lo:1<=W
 hi:W<=41
 un:yj9 n r 1 W
 at_:W<=40->cR W n r≠[]
abbrev yy1(n:Nat):tz1:=gT 1 (uP (aB (fC (.int 1)) (aB (f2 bQ (fC (.int 40)) (fC (.int 1))) aE))) (nM n)
theorem zx2{n:Nat}{r:List Pc}(h:RowIn n r):∃W:Nat,Nar n r W/\((W<=40/\sQ n [.tup (pcsD r)]=some (.int W)/\yN n [.tup (pcsD r)]=false)\/(W=41/\yN n [.tup (pcsD r)]=true)):=by
 have e:yy1 n [some (.tup (pcsD r)),none]=dE 1 (nM n) (eS ((1:Nat):Int) 40) [some (.tup (pcsD r)),none]:=rfl
 rcases yh5 h 40 1 none rfl with ⟨W,h1,h2,h3,h4,z,h5⟩|⟨h4,z,h5⟩
 ·refine⟨W,⟨h1,by omega,h4,fun _=>h3⟩,.inl ⟨h2,gL rfl ⟨z,dS (e.trans h5)⟩,?_⟩⟩
  show yD (yy1 n) zn8 [some (.tup (pcsD r)),none]=false
  unfold yD
  rw [e,h5]
 ·refine⟨41,⟨by omega,by omega,h4,fun z=>by omega⟩,.inr ⟨rfl,?_⟩⟩
  show yD (yy1 n) zn8 [some (.tup (pcsD r)),none]=true
  unfold yD
  rw [e,h5];rfl
theorem RowIn.has{n:Nat}{r:List Pc}(h:RowIn n r){W:Int}(hW:0<=W){C:List Int}{t:Str}{k:Nat}{ln rg:Int}(hs:setR true 0 r C ⟨#[]⟩=some ([],t))(hc:kA W t k ln rg):cR W n r≠[]:=fun z=>by
 obtain⟨y,hy,_⟩:=h.best hW C t k ln rg hs hc
 rw [z] at hy;cases hy
abbrev wP(n m:Nat):tz6:=gP 2 1 (zb7 (yj7 n m) (zf4 n))
theorem xj4{W:Int}{n:Nat}{r:List Pc}(hW0:0<=W)(hW1:W<=40)(hd:depR r<n)(h8:depR r<=16)(ho:okR r)(hl:(toksR r).length<=800)(he:cR W n r≠[]):zf4 n [.tup (pcsD r),.int W]=false:=by
 have q:=uO hW0 hW1 hd h8 ho hl
 have e:aB (aH (oC n) (aB (jI (aH rH (aB (aA 1) aE))) (aB (aA 0) aE))) aE [some (.tup (pcsD r)),some (.int W),none]=some [aI false W (cR W n r)]:=aD (aU (aD (tT (aU (aD rfl rfl) (xT hW0))) (aD rfl rfl)) q) rfl
 show(decide (([.tup (pcsD r),.int W]:List D).length=2)&&zi7 zc1 _ [some (.tup (pcsD r)),some (.int W),none])=false
 unfold zi7
 rw [e]
 show(true&&zc1 [aI false W (cR W n r)])=false
 cases h:cR W n r with
 |nil=>exact absurd h he
 |cons q F=>rfl
theorem xj5{W:Int}{n m:Nat}{r:List Pc}(h:RowIn n r)(hW0:0<=W)(hW1:W<=40)(he:cR W n r=[]):wP n m [.tup (pcsD r),.int W]=some .non:=by
 have q:=xj0 hW0 hW1 h.dn h.d16 h.ok h.len he
 refine gL rfl (wA ⟨[some (.tup (pcsD r)),some (.int W),none],?_⟩)
 unfold zn9
 rw [aD (d:= .tup (pcsD r)) rfl (aD (d:= .int W) rfl (show aE _=some [] from rfl)),Z2,if_pos q];rfl
theorem xj6{W:Int}{n m:Nat}{r:List Pc}(h:RowIn n r)(hm:depR r<m)(hW0:0<=W)(hW1:W<=40)(he:cR W n r≠[]):
  ∃q∈cR W n r,(∀x∈cR W n r,nb q.2 x.2)/\∃t,setR true 0 r q.2.2 ⟨#[]⟩=some ([],t)/\kA W t q.1 q.2.1.1 q.2.1.2/\wP n m [.tup (pcsD r),.int W]=some (.str t):=by
 obtain⟨q,hq,hn,t,hs,hc,qp⟩:=xr0 hW0 hW1 h.dn hm h.d16 h.ok h.len he
 refine⟨q,hq,hn,t,hs,hc,?_⟩
 have s1:zn9 (zf4 n) (aB (aA 0) (aB (aA 1) aE)) (aW 2 (aJ (aH (yj7 n m) (aB (aA 0) (aB (aA 1) aE))))) [some (.tup (pcsD r)),some (.int W),none]=some (.nx,[some (.tup (pcsD r)),some (.int W),some (.tup [.str t,.tup (cI q.2.2)])]):=by
  unfold zn9
  rw [aD (d:= .tup (pcsD r)) rfl (aD (d:= .int W) rfl (show aE _=some [] from rfl)),Z2,if_neg (by rw [xj4 hW0 hW1 h.dn h.d16 h.ok h.len he];exact Z7)]
  exact bF (aU (aD rfl (aD rfl rfl)) qp)
 exact gL rfl (cS s1 ⟨_,cF (cL (aQ (x:= .tup [.str t,.tup (cI q.2.2)]) rfl rfl (nC _ _)) rfl)⟩)
theorem yh6:∀r:List Pc,r.length<=(toksR r).length
 |[]=>Zc _
 | p::r=>by
  have h:=yh6 r
  have h1:1<=(cC p).length:=by
   cases p with
   |leaf l=>exact Zc _
   |group q=>rw [cC,Z6];omega
   |hang m q=>rw [cC,Z6];omega
   |either qs=>rw [cC,Z6];omega
  show r.length+1<=(cC p++toksR r).length
  rw [Z3];omega
theorem wn7:∀j:Nat,j<12->∃z:Str,Txt.slice (Str.ofString "abcdefghijkl") none (some ((j:Int)+1))=z/\1<=z.length/\z.length<=12/\z.cps.toList.all uS=true:=by
 have h:∀j:Fin 12,1<=(Txt.slice (Str.ofString "abcdefghijkl") none (some ((j.val:Int)+1))).length/\(Txt.slice (Str.ofString "abcdefghijkl") none (some ((j.val:Int)+1))).length<=12/\(Txt.slice (Str.ofString "abcdefghijkl") none (some ((j.val:Int)+1))).cps.toList.all uS=true:=by decide+kernel
 exact fun j hj=>⟨_,rfl,h ⟨j,hj⟩⟩
def lvS(fs:List Leaf):List Pc:=fs.map .leaf
theorem xj7:∀{fs:List Leaf},(∀f∈fs,fI f)->okR (lvS fs)/\depR (lvS fs)=0/\(toksR (lvS fs)).length=fs.length
 |[],_=>⟨trivial,rfl,rfl⟩
 | l::fs,h=>by
  obtain⟨a,c,d⟩:=xj7 (fs:=fs) fun f hf=>h f (Z1 _ hf)
  refine⟨⟨h l Z0,a⟩,?_,?_⟩
  ·show max 0 (depR (lvS fs))=0
   rw [c];rfl
  ·show([Tk.leaf l]++toksR (lvS fs)).length=fs.length+1
   rw [Z3,d]
   show 1+_=_
   omega
theorem yh7:∀a b:List Pc,depR (a++b)=max (depR a) (depR b)
 |[],b=>by show depR b=max 0 (depR b);omega
 |p::a,b=>by
  show max (dY p) (depR (a++b))=max (max (dY p) (depR a)) (depR b)
  rw [yh7 a b];omega
section
variable{GM:tz6}{S:D}
def yO(GM:tz6):tz2:=cP (aB (fC (.str "word")) (aB (fSl (fC (.str "abcdefghijkl")) lC (nO (f2 bQ (f2 eE (aH GM (aB (aA 1) (aB (aA 0) (aB (fC (.int 41)) aE)))) (fC (.int 12))) (fC (.int 1))))) aE))
theorem zm8(hM:MxH GM S)(x:Option D):∀n k:Nat,k+n<=900->∃fs:List Leaf,fQ [x,some S] gU (yO GM) (eS (k:Int) n)=some (pcsD (lvS fs))/\fs.length=n/\∀f∈fs,fI f
 |0,k,_=>⟨[],rfl,rfl,fun f h=>absurd h (by simp)⟩
 | n+1,k,hk=>by
  obtain⟨fs,q,hl,ho⟩:=zm8 hM x n (k+1) (by omega)
  obtain⟨a,qa,ha⟩:=hM (k:Int) 41 (by omega) (by omega) (by decide) (by decide)
  have m0:=ZF a (show(12:Int)≠0 by decide)
  have m1:=Zy a (show(0:Int)<12 by decide)
  obtain⟨j,hj⟩:∃j:Nat,a % 12=(j:Int):=⟨(a % 12).toNat,by omega⟩
  obtain⟨z,ez,hz⟩:=wn7 j (by omega)
  have e:yO GM [some (.int k),some S]=some (bC (.word z)):=by
   refine eX (aD rfl (aD (d:= .str z) ?_ rfl)) rfl (Zg rfl)
   have p1:nO (f2 bQ (f2 eE (aH GM (aB (aA 1) (aB (aA 0) (aB (fC (.int 41)) aE)))) (fC (.int 12))) (fC (.int 1))) [some (.int k),some S]=some (some ((j:Int)+1)):=by
    unfold nO
    rw [aQ (x:= .int (j:Int)) (aQ (aU (aD rfl (aD rfl (aD rfl rfl))) qa) rfl ((dG _ _).trans ((if_pos (by decide)).trans (by rw [hj])))) (show fC (.int 1) _=some (.int 1) from rfl) rfl];rfl
   unfold fSl
   rw [p1]
   show(if (Str.ofString "abcdefghijkl").length<=sizeLine then some (D.str (Txt.slice (Str.ofString "abcdefghijkl") none (some ((j:Int)+1)))) else none)=_
   rw [if_pos (by decide+kernel),ez]
  refine⟨.word z::fs,?_,by simp [hl],fun f h=> ?_⟩
  ·rw [zl5,fQ]
   show((yO GM [some (.int k),some S]).bind _)=_
   rw [e,Z2,q];rfl
  ·rcases Z4.mp h with y|y
   ·rw [y];exact hz
   ·exact ho f y
def yy2(c:Int)(GM:tz6):tz1:=
 (aT (aW 1 (aJ (aH (xs9 GM zp2) (aB (aA 0) (aB (fC (.int 0)) (aB (f2 bQ (fC (.int 3)) (f2 eE (aH GM (aB (aA 0) (aB (fC (.int 0)) (aB (fC (.int 40)) aE)))) (fC (.int c)))) (aB (fC (.int 2)) aE)))))))
 (aT (fIf (aV (fB (f2 dEq (f2 eE (aH GM (aB (aA 0) (aB (fC (.int 1)) (aB (fC (.int 40)) aE)))) (fC (.int 4))) (fC (.int 0)))))
  (aT (aW 2 (aJ (f2 eE (aH GM (aB (aA 0) (aB (fC (.int 2)) (aB (fC (.int 40)) aE)))) (fC (.int 4)))))
 (aW 1 (aJ (f2 bQ (aH fP (aB (iB [none,some 0] (lL (aB (f2 bQ (fC (.int 1)) (aA 2)) aE)) gU (yO GM)) aE)) (aA 1)))))
  bO)
 (jQ 1)))
theorem wc1{c:Nat}(h0:0<c)(h1:c<=40)(hM:MxH GM S):∃r,gP 1 2 (yy2 (c:Int) GM) [S]=some (.tup (pcsD r))/\RowOk 2 200 r:=by
 obtain⟨a,qa,ha⟩:=hM 0 40 (by decide) (by decide) (by decide) (by decide)
 obtain⟨b,qb,hb⟩:=hM 1 40 (by decide) (by decide) (by decide) (by decide)
 obtain⟨d,qd,hd⟩:=hM 2 40 (by decide) (by decide) (by decide) (by decide)
 obtain⟨mr,hmr,mr1⟩:=wa2 a 3 c h0
 obtain⟨r,qr,hr⟩:=wi2 (GM:=GM) (GL:=zp2) (S:=S) (nest:=2) (a:=0) (many:=mr) (fun m hm=>wb3 hm) (fun j s hj hs=>hM j s (by omega) (by omega) (by omega) (by omega)) (by decide) (by omega) (by decide)
 have s1:aW 1 (aJ (aH (xs9 GM zp2) (aB (aA 0) (aB (fC (.int 0)) (aB (f2 bQ (fC (.int 3)) (f2 eE (aH GM (aB (aA 0) (aB (fC (.int 0)) (aB (fC (.int 40)) aE)))) (fC (.int (c:Int))))) (aB (fC (.int 2)) aE)))))) [some S,none,none]=some (.nx,[some S,some (.tup (pcsD r)),none]):=by
  refine bF (aU (ds:=[S,.int ((0:Nat):Int),.int (mr:Int),.int ((2:Nat):Int)]) (aD rfl (aD rfl (aD ?_ (aD rfl rfl)))) qr)
  refine aQ rfl (aQ (aU (aD rfl (aD rfl (aD rfl rfl))) qa) rfl ((dG _ _).trans (if_pos (by omega)))) ?_
  rw [<-hmr];rfl
 have t:fB (f2 dEq (f2 eE (aH GM (aB (aA 0) (aB (fC (.int 1)) (aB (fC (.int 40)) aE)))) (fC (.int 4))) (fC (.int 0))) [some S,some (.tup (pcsD r)),none]=some (decide (b % 4=0)):=dO (aQ (aQ (aU (aD rfl (aD rfl (aD rfl rfl))) qb) rfl ((dG _ _).trans (if_pos (by decide)))) rfl rfl)
 have R:RowOk 2 180 r:=⟨hr.ok,hr.dep,Zt hr.len (by omega)⟩
 by_cases z:b % 4=0
 ·rw [Zq z] at t
  have m0:=ZF d (show(4:Int)≠0 by decide)
  have m1:=Zy d (show(0:Int)<4 by decide)
  obtain⟨j,hj⟩:∃j:Nat,1+d % 4=(j:Int):=⟨(1+d % 4).toNat,by omega⟩
  obtain⟨fs,qf,hl,ho⟩:=zm8 (GM:=GM) (S:=S) hM none j 0 (by omega)
  obtain⟨k1,k2,k3⟩:=xj7 ho
  have hs:sizeLine=16777216:=Y6
  have s2:aW 2 (aJ (f2 eE (aH GM (aB (aA 0) (aB (fC (.int 2)) (aB (fC (.int 40)) aE)))) (fC (.int 4)))) [some S,some (.tup (pcsD r)),none]=some (.nx,[some S,some (.tup (pcsD r)),some (.int (d % 4))]):=bF (aQ (aU (aD rfl (aD rfl (aD rfl rfl))) qd) rfl ((dG _ _).trans (if_pos (by decide))))
  have er:lL (aB (f2 bQ (fC (.int 1)) (aA 2)) aE) [some S,some (.tup (pcsD r)),some (.int (d % 4))]=some (eS ((0:Nat):Int) j):=by
   unfold lL
   rw [aD (d:= .int (j:Int)) (aQ (x:= .int 1) (y:= .int (d % 4)) rfl rfl (by rw [<-hj];rfl)) (show aE _=some [] from rfl),Z2]
   exact wq1 (by omega)
  have e3:iB [none,some 0] (lL (aB (f2 bQ (fC (.int 1)) (aA 2)) aE)) gU (yO GM) [some S,some (.tup (pcsD r)),some (.int (d % 4))]=some (.lst true (pcsD (lvS fs))):=by
   unfold iB
   rw [er,Z2,if_pos (by unfold eS;rw [Zb,Yl];omega)]
   show(fQ [none,some S] gU (yO GM) (eS ((0:Nat):Int) j)).bind _=_
   rw [qf];rfl
  have s3:aW 1 (aJ (f2 bQ (aH fP (aB (iB [none,some 0] (lL (aB (f2 bQ (fC (.int 1)) (aA 2)) aE)) gU (yO GM)) aE)) (aA 1))) [some S,some (.tup (pcsD r)),some (.int (d % 4))]=some (.nx,[some S,some (.tup (pcsD (lvS fs++r))),some (.int (d % 4))]):=by
   refine bF (aQ (x:= .tup (pcsD (lvS fs))) (y:= .tup (pcsD r)) (aU (aD e3 rfl) (if_pos (pcs_imm _))) rfl ?_)
   show(if (pcsD (lvS fs)).length+(pcsD r).length<=sizeLine then some (D.tup (pcsD (lvS fs)++pcsD r)) else none)=_
   have l1:(pcsD (lvS fs)).length=fs.length:=by rw [tJ];unfold lvS;rw [Zb]
   have l2:(pcsD r).length<=180:=by rw [tJ];exact Zt (yh6 r) R.len
   rw [if_pos (by omega),xF]
  refine⟨lvS fs++r,gL rfl (cS s1 (cS ((bM t).trans ((aO s2).trans s3)) ⟨_,rfl⟩)),?_,?_,?_⟩
  ·rw [zd3];exact⟨k1,R.ok⟩
  ·rw [yh7,k2];have:=R.dep;omega
  ·rw [oM,Z3,k3];have:=R.len;omega
 ·rw [Zd z] at t
  exact⟨r,gL rfl (cS s1 (cS (aY t) ⟨_,rfl⟩)),R.ok,R.dep,Zt R.len (by decide)⟩
end
theorem yr0(i:Int):zi6 [.int i,.ty "int"]=some (.bl true)/\zi6 [.int i,.ty "bool"]=some (.bl false):=by
 constructor<;>simp [zi6,dTy,zn2]
theorem xj8{f g:tz2}{p:PSt}{d:D}(h:f p=some (.bl true))(h2:g p=some d):rL f g p=some d:=by unfold rL;rw [h];exact h2
theorem wn8{f g:tz2}{p:PSt}(h:f p=some (.bl true)):fOr f g p=some (.bl true):=by unfold fOr;rw [h];rfl
theorem wn9{f g:tz2}{p:PSt}{d:D}(h:f p=some (.bl false))(h2:g p=some d):fOr f g p=some d:=by unfold fOr;rw [h];exact h2
abbrev mO:tz6:=gP 1 0 zb6
theorem zm9{t:Str}(hl:t.length<=900000):∃L:Nat,mO [.str t]=some (.int (L:Int))/\(∀y∈lns t,(y:Str).length<=L)/\∃y∈lns t,(y:Str).length=L:=by
 have hs:sizeLine=16777216:=Y6
 obtain⟨hy,hn⟩:=wb4 t
 obtain⟨M,hm⟩:=xi7 (ns:=(lns t).map fun y=>(y.length:Int)) (by simpa using za1 t)
 obtain⟨m1,m2⟩:=zr1 hm
 obtain⟨y,hy1,hy2⟩:=Ya.mp m1
 have e2:iB [none] (eJ (fMt wH (aA 0) (aB (fC (.str "\n")) aE))) gU (aH dJ (aB (aA 0) aE)) [some (.str t)]=some (.lst true (cI ((lns t).map fun y=>(y.length:Int)))):=by
  have sp:=xq7 (f:=aA 0) (p:=[some (.str t)]) (t:=t) rfl hl
  unfold iB eJ
  rw [sp,Z2,show lY (.lst true (L2.eY (lns t)))=some (L2.eY (lns t)) from if_pos (zw9 _),Z2]
  rw [if_pos (by unfold L2.eY;rw [Zb];omega)]
  show(fQ [none] gU (aH dJ (aB (aA 0) aE)) (L2.eY (lns t))).bind _=_
  rw [yg6 _ fun y h=>Zt (hy y h) hl];rfl
 refine⟨y.length,gL rfl ⟨_,cF (aU (aD e2 rfl) ?_)⟩,fun x hx=> ?_,y,hy1,rfl⟩
 ·show(D.ints (cI _)).bind _=_
  rw [zm0,Z2,hm,<-hy2];rfl
 ·have:=m2 _ (Yf (f:=fun y:Str=>(y.length:Int)) hx)
  rw [<-hy2] at this
  exact Wd.mp this
theorem yh8{t:Str}{W:Int}(h:∀y∈lns t,((y:Str).length:Int)<=W):∃k ln rg,kA W t k ln rg:=by
 obtain⟨xs,y,e⟩:=yf6 t
 exact⟨_,_,_,xs,y,e,by rw [<-e];exact h,rfl,rfl,rfl⟩
theorem xj9{t:Str}{W:Int}{k:Nat}{ln rg:Int}(h:kA W t k ln rg):∀y∈lns t,((y:Str).length:Int)<=W:=by
 obtain⟨xs,y,e,h2,_⟩:=h
 rw [e];exact h2
abbrev yy3(n:Nat):tz6:=gP 1 2 (wN (sQ n) (yN n))
theorem wc2{n:Nat}{r:List Pc}(h:RowIn n r):∃W:Nat,Nar n r W/\yy3 n [.tup (pcsD r)]=some (.int (W:Int)):=by
 obtain⟨W,hW,c⟩:=zx2 h
 refine⟨W,hW,?_⟩
 rcases c with ⟨h40,q,qx⟩|⟨rfl,qx⟩
 ·have s1:zo0 (yN n) (aB (aA 0) aE) (.int 41) (aW 1 (aJ (aH (sQ n) (aB (aA 0) aE)))) [some (.tup (pcsD r)),none,none]=some (.nx,[some (.tup (pcsD r)),some (.int (W:Int)),none]):=by
   unfold zo0
   rw [aD (d:= .tup (pcsD r)) rfl (show aE _=some [] from rfl),Z2,if_neg (by rw [qx];exact Z7)]
   exact bF (aU (aD rfl rfl) q)
  have lo:=hW.lo
  have t3:fB (f3 dLe dLe (fC (.int 1)) (aA 1) (fC (.int 40))) [some (.tup (pcsD r)),some (.int (W:Int)),none]=some true:=by
   have i:aA 1 [some (.tup (pcsD r)),some (.int (W:Int)),none]=some (.int (W:Int)):=rfl
   have l1:(1:Int)<=(W:Int):=by omega
   have l2:(W:Int)<=40:=by omega
   refine dO ?_
   unfold f3
   rw [i]
   simp [fC,dLe,l1,l2]
  exact gL rfl (cS s1 (cS (aY (pZ (jF (b:=true) (kK (aU (ds:=[.int (W:Int),.ty "int"]) (aD rfl (aD rfl rfl)) (yr0 W).1))) (pZ (kK (aU (ds:=[.int (W:Int),.ty "bool"]) (aD rfl (aD rfl rfl)) (yr0 W).2)) (jF (b:=true) t3)))) ⟨_,rfl⟩))
 ·refine gL rfl (wA ⟨[some (.tup (pcsD r)),none,none],?_⟩)
  unfold zo0
  rw [aD (d:= .tup (pcsD r)) rfl (show aE _=some [] from rfl),Z2,if_pos qx];rfl
theorem yh9{i:Nat}{f:tz1}:∀(ds:List D) (p:PSt),i<p.length->(∀d∈ds,f (p.set i (some d))=some (.nx,p.set i (some d)))->∃x,dE i f ds p=some (.nx,p.set i x)
 |[],p,hi,_=>⟨p[i],by rw [dE,List.set_getElem_self]⟩
 |d::ds,p,hi,h=>by
  have e:=h d Z0
  obtain⟨x,q⟩:=yh9 (i:=i) (f:=f) ds (p.set i (some d)) (by rw [XD];exact hi) fun d' hd=>by rw [List.set_set];exact h d' (Z1 _ hd)
  rw [List.set_set] at q
  refine⟨x,?_⟩
  rw [dE,e]
  exact q
section
variable{GM:tz6}{S:D}
abbrev wl4(k n m:Nat)(GM:tz6):tz6:=gP 1 4 (xk4 (sQ n) (gP 1 2 (yy2 10 GM)) (yy3 n) mO (wO GM k) (wP n m))
theorem yl3{n:Nat}(hn:0<n):sQ n [.tup []]=some (.int 1):=by
 have h:RowIn n []:=⟨hn,by decide,trivial,by decide⟩
 have ne:cR ((1:Nat):Int) n []≠[]:=by
  cases n with
  |zero=>omega
  |succ k=>exact List.cons_ne_nil _ _
 obtain⟨W,hW,c⟩:=zx2 h
 have w1:W=1:=by
  by_cases z:1<W
  ·exact absurd (hW.un 1 (Zc _) z) ne
  ·have:=hW.lo;omega
 subst w1
 rcases c with ⟨_,q,_⟩|⟨z,_⟩
 ·exact q
 ·omega
theorem yw7{k n m:Nat}(hk:2<k)(hn:2<n)(hm:2<m)(hS:S.imm=true)(hM:MxH GM S):wl4 k n m GM [S]=some (.bl true):=by
 obtain⟨r,qr,hr⟩:=wc1 (GM:=GM) (S:=S) (c:=10) (by decide) (by decide) hM
 have h:RowIn n r:=⟨Y4 hr.dep hn,Zt hr.dep (by decide),hr.ok,Zt hr.len (by decide)⟩
 have hdm:depR r<m:=Y4 hr.dep hm
 have s0:fIf (aV (fB (f2 dNe (aH (sQ n) (aB (cP aE) aE)) (fC (.int 1))))) (bX (aJ (fC (.bl false)))) bO [some S,none,none,none,none]=some (.nx,[some S,none,none,none,none]):=aY (dO (aQ (x:= .int 1) (y:= .int 1) (aU (aD rfl rfl) (yl3 (by omega))) rfl rfl))
 have s1:aW 1 (aJ (aH (gP 1 2 (yy2 10 GM)) (aB (aA 0) aE))) [some S,none,none,none,none]=some (.nx,[some S,some (.tup (pcsD r)),none,none,none]):=bF (aU (aD rfl rfl) qr)
 obtain⟨W,hW,qW⟩:=wc2 h
 have lo:=hW.lo
 have hi:=hW.hi
 have s2:aW 2 (aJ (aH (yy3 n) (aB (aA 1) aE))) [some S,some (.tup (pcsD r)),none,none,none]=some (.nx,[some S,some (.tup (pcsD r)),some (.int (W:Int)),none,none]):=bF (aU (aD rfl rfl) qW)
 have s3:fIf (aV (fB (f2 dEq (aA 2) (fC (.int 0))))) (bX (aJ (fC (.bl false)))) bO [some S,some (.tup (pcsD r)),some (.int (W:Int)),none,none]=some (.nx,[some S,some (.tup (pcsD r)),some (.int (W:Int)),none,none]):=aY (dO (aQ rfl rfl (by show some (D.bl (decide ((W:Int)=0)))=_;rw [Zd (by omega)])))
 obtain⟨x3,l3⟩:=yh9 (i:=3) (f:=fIf (aV (fB (f2 dLt (aH ze3 (aB (fC (.int 1)) (aB (aH mO (aB (f2 dIx (aH (wO GM k) (aB (aA 0) (aB (aA 1) (aB (f2 bQ (fC (.int 50)) (aA 3)) aE)))) (fC (.int 0))) aE)) aE))) (aA 2)))) (bX (aJ (fC (.bl false)))) bO) (eS 0 4) [some S,some (.tup (pcsD r)),some (.int (W:Int)),none,none] (Zg rfl) (fun d hd=>by
  unfold eS at hd
  obtain⟨j,hj,rfl⟩:=Ya.mp hd
  have hj':=X7.mp hj
  obtain⟨C,t,qd,hs,_,ht⟩:=xj2 (GM:=GM) (n:=k) (r:=r) (salt:=50+(0+(j:Int))) hS hM (Y4 hr.dep hk) h.d16 h.ok h.len (by omega) (by omega)
  obtain⟨L,ql,hL,y,hy,_⟩:=zm9 ht
  generalize hp:[some S,some (D.tup (pcsD r)),some (D.int (W:Int)),none,none].set 3 (some (D.int (0+(j:Int))))=p
  have v0:aA 0 p=some S:=by rw [<-hp];rfl
  have v1:aA 1 p=some (.tup (pcsD r)):=by rw [<-hp];rfl
  have v2:aA 2 p=some (.int (W:Int)):=by rw [<-hp];rfl
  have v3:aA 3 p=some (.int (0+(j:Int))):=by rw [<-hp];rfl
  have e1:aH mO (aB (f2 dIx (aH (wO GM k) (aB (aA 0) (aB (aA 1) (aB (f2 bQ (fC (.int 50)) (aA 3)) aE)))) (fC (.int 0))) aE) p=some (.int (L:Int)):=aU (aD (aQ (aU (aD v0 (aD v1 (aD (aQ rfl v3 rfl) rfl))) qd) rfl (nC _ _)) rfl) ql
  obtain⟨Z,hZ,z1⟩:∃Z:Nat,ze3 [.int 1,.int (L:Int)]=some (.int (Z:Int))/\Z=max 1 L:=by
   by_cases c:(1:Int)<(L:Int)
   ·exact⟨L,(by show some (D.int (if (1:Int)<(L:Int) then(L:Int) else 1))=_;rw [if_pos c]),by omega⟩
   ·exact⟨1,(by show some (D.int (if (1:Int)<(L:Int) then(L:Int) else 1))=_;rw [if_neg c];rfl),by omega⟩
  have ge:W<=Z:=by
   by_cases c:W<=Z
   ·exact c
   ·obtain⟨kk,ln,rg,hc⟩:=yh8 (t:=t) (W:=(Z:Int)) fun y hy=>by have:=hL y hy;omega
    exact absurd (hW.un Z (by omega) (by omega)) (h.has (W:=(Z:Int)) (by omega) hs hc)
  refine aY (dO (aQ (aU (aD rfl (aD e1 rfl)) hZ) v2 ?_))
  show some (D.bl (decide ((Z:Int)<(W:Int))))=_
  rw [Zd (by omega)])
 have s4:gT 3 (lL (aB (fC (.int 4)) aE)) (fIf (aV (fB (f2 dLt (aH ze3 (aB (fC (.int 1)) (aB (aH mO (aB (f2 dIx (aH (wO GM k) (aB (aA 0) (aB (aA 1) (aB (f2 bQ (fC (.int 50)) (aA 3)) aE)))) (fC (.int 0))) aE)) aE))) (aA 2)))) (bX (aJ (fC (.bl false)))) bO) [some S,some (.tup (pcsD r)),some (.int (W:Int)),none,none]=some (.nx,[some S,some (.tup (pcsD r)),some (.int (W:Int)),x3,none]):=vZ (ds:=eS 0 4) rfl l3
 have s5:fIf (aV (cJ (fB (f2 dGt (aA 2) (fC (.int 1)))) (fB (f2 qS (aH (wP n m) (aB (aA 1) (aB (f2 jB (aA 2) (fC (.int 1))) aE))) (fC .non))))) (bX (aJ (fC (.bl false)))) bO [some S,some (.tup (pcsD r)),some (.int (W:Int)),x3,none]=some (.nx,[some S,some (.tup (pcsD r)),some (.int (W:Int)),x3,none]):=by
  have g:fB (f2 dGt (aA 2) (fC (.int 1))) [some S,some (.tup (pcsD r)),some (.int (W:Int)),x3,none]=some (decide ((1:Int)<(W:Int))):=dO (aQ rfl rfl rfl)
  by_cases c:(1:Int)<(W:Int)
  ·rw [Zq c] at g
   have q:=xj5 (W:=((W-1:Nat):Int)) (m:=m) h (by omega) (by omega) (hW.un (W-1) (by omega) (by omega))
   rw [show((W-1:Nat):Int)=(W:Int)-1 by omega] at q
   exact aY (gR g (dO (aQ (aU (aD rfl (aD (aQ rfl rfl rfl) rfl)) q) rfl rfl)))
  ·rw [Zd c] at g
   exact aY (fA g)
 have t6:fB (f2 dEq (aA 2) (fC (.int 41))) [some S,some (.tup (pcsD r)),some (.int (W:Int)),x3,none]=some (decide ((W:Int)=41)):=dO (aQ rfl rfl rfl)
 refine gL rfl (cS s0 (cS s1 (cS s2 (cS s3 (cS s4 (cS s5 ?_))))))
 by_cases c:(W:Int)=41
 ·rw [Zq c] at t6
  exact wA ⟨_,(bM t6).trans (cF rfl)⟩
 ·rw [Zd c] at t6
  obtain⟨q,hq,hnq,t,hs,hc,qp⟩:=xj6 (W:=(W:Int)) (m:=m) h hdm (by omega) (by omega) (hW.at_ (by omega))
  have tl:=xr1 h.d16 h.ok h.len hs
  obtain⟨L,ql,hL,y,hy,ey⟩:=zm9 tl
  have le:L<=W:=by have:=xj9 hc y hy;omega
  have eq:L=W\/(W=1/\L=0):=by
   by_cases z:L=W
   ·exact .inl z
   ·by_cases w1:W=1
    ·exact .inr ⟨w1,by omega⟩
    ·obtain⟨kk,ln,rg,hc'⟩:=yh8 (t:=t) (W:=((W-1:Nat):Int)) fun y hy=>by have:=hL y hy;omega
     exact absurd (hW.un (W-1) (by omega) (by omega)) (h.has (W:=((W-1:Nat):Int)) (by omega) hs hc')
  have s7:aW 4 (aJ (aH (wP n m) (aB (aA 1) (aB (aA 2) aE)))) [some S,some (.tup (pcsD r)),some (.int (W:Int)),x3,none]=some (.nx,[some S,some (.tup (pcsD r)),some (.int (W:Int)),x3,some (.str t)]):=bF (aU (aD rfl (aD rfl rfl)) qp)
  refine cS (aY t6) (cS s7 ⟨_,cF ?_⟩)
  have lg:aH mO (aB (aA 4) aE) [some S,some (.tup (pcsD r)),some (.int (W:Int)),x3,some (.str t)]=some (.int (L:Int)):=aU (aD rfl rfl) ql
  have a1:f2 dEq (aH mO (aB (aA 4) aE)) (aA 2) [some S,some (.tup (pcsD r)),some (.int (W:Int)),x3,some (.str t)]=some (.bl (decide ((L:Int)=(W:Int)))):=aQ lg rfl rfl
  have a2:f2 dEq (aA 2) (fC (.int 1)) [some S,some (.tup (pcsD r)),some (.int (W:Int)),x3,some (.str t)]=some (.bl (decide ((W:Int)=1))):=aQ rfl rfl rfl
  have a3:f2 dEq (aH mO (aB (aA 4) aE)) (fC (.int 0)) [some S,some (.tup (pcsD r)),some (.int (W:Int)),x3,some (.str t)]=some (.bl (decide ((L:Int)=0))):=aQ lg rfl rfl
  refine xj8 (aQ rfl rfl rfl) ?_
  rcases eq with z|⟨z1,z2⟩
  ·rw [Zq (by omega)] at a1
   exact wn8 a1
  ·rw [Zd (by omega)] at a1
   rw [Zq (by omega)] at a2 a3
   exact wn9 a1 (xj8 a2 a3)
end
end My
namespace My
open PySem PySem.Spec PyProof.Rows L2 L3
variable{P:Program}{w:World}{K:tz0}{mg:tzA}{base:Heap}{U:tz9}
abbrev zp3:List D->Option (List Int):=D.ints
theorem zn0:∀ns:List Int,zp3 (ns.map .int)=some ns
 |[]=>rfl
 |n::ns=>by show(D.ints (ns.map .int)).map (n::·)=_;rw [show D.ints (ns.map .int)=some ns from zn0 ns];rfl
def yy4:tz6
 |[.con xs,.int k,.int s]=>match zp3 xs with
  |some ns=>if ns.length<=63/\(0<=k/\k<1000000)/\(0<=s/\s<1000000) then some (.int (yF ns k s)) else none
  |none=>none
 |_=>none
theorem xr4{ns:List Int}(h:ns.length<=63)(k s:Int)(hk:0<=k)(hk1:k<1000)(hs:0<=s)(hs1:s<1000):∃m,yy4 [.con (ns.map .int),.int k,.int s]=some (.int m)/\0<=m:=by
 refine⟨yF ns k s,?_,(yk8 ns k s).1⟩
 show(match zp3 (ns.map .int) with|some ns=>if ns.length<=63/\(0<=k/\k<1000000)/\(0<=s/\s<1000000) then some (D.int (yF ns k s)) else none|none=>none)=_
 rw [zn0]
 exact if_pos ⟨h,⟨hk,by omega⟩,hs,by omega⟩
theorem wq3{k:Nat}{f:Addr}{fd:FuncData}{ps:List Str}(F:FnOk P w K mg base CX0 k f fd ps (yr1 K)):FnOk P w K mg base CX0 k f fd ps (SpP 3 K U yy4):=by
 refine F.imp fun vs H Q E ⟨_,ds,fp,d,r,e,q⟩=> ?_
 unfold yy4 at e
 split at e
 ·rename_i xs k s
  split at e
  ·rename_i ns hns
   obtain⟨hc,e⟩:=bU e
   cases e
   obtain⟨v1,us,f,g,rfl,r1,r2,rfl⟩:=r.split
   obtain⟨v2,us2,f2,g2,rfl,r3,r4,rfl⟩:=r2.split
   obtain⟨v3,rfl,r5⟩:=r4.one_inv
   rw [r3.is_int,r5.is_int]
   obtain⟨a,vs,rfl,hS,hs⟩:=r1.con_inv
   rw [sI hs hns] at hS
   exact⟨a,ns,k,s,rfl,hS.l,hc.1,hc.2.1,hc.2.2,q _ H [] (SameK.refl H) (fun _ ha=>absurd ha (by simp)) Zm (.int _)⟩
  ·cases e
 ·cases e
def ya5(K:tz0):Sp:=fun vs H Q _=>∃(a:Addr) (ns:List Int),vs=[.ref a]/\SqF K H a (ns.map V.int)/\ns.length<=63/\∀H',Q (.bl true) H'
theorem zx3{H:Hp}:∀ns:List Int,Reps K U H (ns.map V.int) (ns.map .int) []
 |[]=> .nil
 |n::ns=> .cons (f:=[]) (g:=[]) (.int n) (zx3 ns)
theorem wq4{k:Nat}{f:Addr}{fd:FuncData}{ps:List Str}{g:tz6}(F:FnOk P w K mg base CX0 k f fd ps (SpP 1 K U g))(h:∀ns:List Int,ns.length<=63->g [.con (ns.map .int)]=some (.bl true)):FnOk P w K mg base CX0 k f fd ps (ya5 K):=
 F.imp fun vs H Q E ⟨a,ns,e,hS,hl,q⟩=>e▸⟨rfl,[.con (ns.map .int)],[],.bl true,.cons (f:=[]) (g:=[]) (.con hS (zx3 ns)) .nil,h ns hl,fun v H' fv _ _ _ r=>by cases r;exact q H'⟩
def Cur:Nat->(List Value->Prop)->Prop
 |0,P=>P []
 |n+1,P=>∀a,Cur n fun us=>P (a::us)
theorem zs4{n:Nat}:∀{P:List Value->Prop},Cur n P->∀us:List Value,us.length=n->P us:=by
 induction n with
 |zero=>intro P h us hl;cases XA hl;exact h
 |succ n ih=>
  intro P h us hl
  cases us with
  |nil=>cases hl
  |cons a us=>exact ih (h a) us (Nat.succ.inj hl)
structure FzT(K:tz0)(x:Str)(st:Stmt)(f:Addr)(fd:FuncData):Prop where
 a:PySem.W.nsIn K mainGlobals x=some (some (.ref f))
 F:Fun K x x st f fd
structure MzT(K:tz0)(C:Addr)(m q:Str)(st:Stmt)(f:Addr)(fd:FuncData):Prop where
 i:PySem.W.findIn K (.ref C) m=some (some (.ref f))
 s:PySem.W.isFn K (.ref f)=true
 F:Fun K m q st f fd
structure CzT(K:tz0)(x:Str)(C:Addr):Prop where
 a:PySem.W.nsIn K mainGlobals x=some (some (.ref C))
 g:PySem.W.plainGet K C Str.empty=true
 d:PySem.W.hasDictIn K C=true
 o:PySem.W.plainOver K C=true
 s:PySem.W.findIn K (.ref C) "__setattr__"=some (some (.builtin "object.__setattr__"))
 m:PySem.W.makesIn K C=true
 k:PySem.W.keepIn K (.ref C)=true
abbrev IzT(K:tz0)(x:Str)(i:Int):Prop:=∃v,PySem.W.nsIn K mainGlobals x=some (some v)/\∃t,v= .int i t
theorem wo0{x:Str}{v:Value}{p:Value->Prop}(h:PySem.W.nsIn K mainGlobals x=some (some v))(h2:p v):∃v,PySem.W.nsIn K mainGlobals x=some (some v)/\p v:=⟨v,h,h2⟩
abbrev BiT(x q:Str)(st:Stmt)(ps:List Str):Prop:=∀(kV doc pm:Value) (an:Option Addr) (cdv ct:Value) (us:List Value),us.length=ps.length->bindArgs (PySem.W.fnOf x q (wD st) (mU st) (aS st) .none kV doc pm an cdv ct) ⟨us,[]⟩=pure (ps.zip us)
theorem eO{N ps:List Str}{h:Heap}{x:Str}{st:Stmt}{f:Addr}{fd:FuncData}(_:FnScope N ps (aS st))(X:K.In h)(G:h.Ns mainGlobals mg)(a:FzT K x st f fd)(hb:BiT x x st ps:=by exact fun _ _ _ _ _ _=>zs4 (by(repeat intro _);exact rfl)):Dn K mg x st ps f fd:=
 ⟨a.F,a.F.binds hb,Y7 X G a.a⟩
theorem zn1{x:Str}{C:Addr}(e:U x=C)(c:CzT K x C):Cls K (U x):=by rw [e];exact⟨c.g,c.d,c.o,c.s⟩
theorem xW{x y:Str}{C:Addr}(e:U x=C)(h:PySem.W.findIn K (.ref C) y=some none):cD K (U x) y:=by rw [e];exact h
theorem xX{N ps:List Str}{x m q:Str}{C:Addr}{st:Stmt}{f:Addr}{fd:FuncData}(_:FnScope N ps (aS st))(e:U x=C)(c:CzT K x C)(a:MzT K C m q st f fd)(hb:BiT m q st ps:=by exact fun _ _ _ _ _ _=>zs4 (by(repeat intro _);exact rfl)):Mn K U x m q st ps f fd:=
 ⟨a.F,a.F.binds hb,zn1 e c,by rw [e];exact⟨a.i,a.s,a.F.kp⟩⟩
theorem yw8{N ps:List Str}{h:Heap}{x q:Str}{C:Addr}{st:Stmt}{f:Addr}{fd:FuncData}(_:FnScope N ps (aS st))(X:K.In h)(G:h.Ns mainGlobals mg)(e:U x=C)(c:CzT K x C)(a:MzT K C "__init__" q st f fd)(hb:BiT "__init__" q st ps:=by exact fun _ _ _ _ _ _=>zs4 (by(repeat intro _);exact rfl)):Kn K mg U x q st ps f fd:=
 ⟨a.F,a.F.binds hb,by rw [e];exact⟨c.m,a.i,a.s,c.k⟩,by rw [e];exact Y7 X G c.a⟩
theorem _root_.L2.FnOk.up{CX:CXT}{k k':Nat}{f:Addr}{fd:FuncData}{ps:List Str}{sp:Sp}(h:FnOk P w K mg base CX k f fd ps sp)(hk:k<=k':=by decide):FnOk P w K mg base CX k' f fd ps sp:=h.mono hk
theorem wq5{l:PySem.W.OpenLaw}{q:Program}{loose:List Str}{XP:(tzA)->Heap->Prop}{YP:World->Heap->Prop}{d:DefRec}{K:Params->tz0}{lev:Nat}(hn:l.most=some 63)(hdf:d.params.defaults=[])(hr:Room lev callerA)
  (hY:∀(w:World) (h:Heap),YP w h->(K w.params).In h)
  (F:∀(w:World) (mg:tzA) (fa:Addr) (h:Heap),(K w.params).In h->h.Ns mainGlobals mg->mg d.name=some (.ref fa)->
   ∃fd:FuncData,(∀(s:Shared) (u:Value),BindsTo s fd ⟨[u],[]⟩ [("_law_script",u)])/\∀base:Heap,(K w.params).In base->base.Ns mainGlobals mg->FnOk l.prog w (K w.params) mg base CX0 lev fa fd ["_law_script"] (ya5 (K w.params))):
  PySem.W.WalkO q loose XP YP l.row.toRowW d [] (fun f vs=>PySem.call f vs):=
 L2.xw4 (n:=63) (k:=lev) (x:="_law_script") (CX:=fun _=>CX0) (sp:=fun w=>ya5 (K w.params)) hn (by decide) hdf hr hY F (fun _ H a ns hl hO hS=>⟨a,ns,rfl,by
  rcases hS with (h|h)|h
  ·rcases hO a with z|⟨o,xs,z⟩<;>rw [h] at z<;>cases z
  ·exact .inl h
  ·exact .inr h,hl,fun _=>rfl⟩) fun _ _ _ _ _ z=>z
end My
namespace My
open PySem PySem.Spec PyProof.Rows L2 L3
variable{P:Program}{w:World}{K:tz0}{mg:tzA}{base:Heap}{U:tz9}
def xv1:tz6
 |[.con xs,.int k]=>match zp3 xs with
  |some ns=>some (.int (wL ns k))
  |none=>none
 |_=>none
theorem wo1{k:Nat}{f:Addr}{fd:FuncData}{ps:List Str}(F:FnOk P w K mg base CX0 k f fd ps (yi6 K)):FnOk P w K mg base CX0 k f fd ps (SpP 2 K U xv1):=by
 refine F.imp fun vs H Q E ⟨_,ds,fp,d,r,e,q⟩=> ?_
 unfold xv1 at e
 split at e
 ·rename_i xs k
  split at e
  ·rename_i ns hns
   cases e
   obtain⟨v1,us,f,g,rfl,r1,r2,rfl⟩:=r.split
   obtain⟨v3,rfl,r5⟩:=r2.one_inv
   rw [r5.is_int]
   obtain⟨a,vs,rfl,hS,hs⟩:=r1.con_inv
   rw [sI hs hns] at hS
   exact⟨a,ns,k,rfl,hS.l,q _ H [] (SameK.refl H) (fun _ ha=>absurd ha (by simp)) Zm (.int _)⟩
  ·cases e
 ·cases e
end My
namespace My
open PySem PySem.Spec PyProof.Rows L2 L3
theorem wi7{l:PySem.W.OpenLaw}{w:World}{K:tz0}{h:Heap}{mg:tzA}{fa:Addr}(X:K.In h)(G:h.Ns mainGlobals mg)(hfa:mg "law"=some (.ref fa))
  (qq:FzT K "first_place" iU iw gy)
  (rl:FzT K "holds_rows" jJ ja iu)
  (pe:FzT K "takes_choice" iI gx gf)
  (ve:FzT K "ways" oA nq mq)
  (sx:FzT K "new_line" nP ot og)
  (t7:FzT K "writing" mC lm kj)
  (rz:FzT K "ends_line" jY jm i8)
  (o7:FzT K "column_behind" gY gj f9)
  (qt:FzT K "with_choice" kO mw mh)
  (ph:FzT K "behind_plain" jR mj l6)
  (o8:FzT K "behind_holder" jK l5 lq)
  (rm:FzT K "behind_row" st_p_behind_row i9 ir)
  (o9:FzT K "behind_pieces" fL cf b6)
  (sy:FzT K "lines_of" kW kh jn)
  (vf:FzT K "fits" qX tq sf)
  (ut:FzT K "price" oZ sh qz)
  (qu:FzT K "roads_begin" gH dg cw)
  (uu:FzT K "roads" mX my l8)
  (r6:FzT K "narrowest" iR ic gm)
  (ui:FzT K "set_by" qD rf pw)
  (pj:FzT K "best_choices" fW g5 gi)
  (t9:FzT K "pressed" mD m8 mm)
  (ua:FzT K "_law_cell_at" oW v9 v7)
  (uv:FzT K "_law_mixed" mW jx jc)
  (vg:FzT K "_law_word" uW tu si)
  (vh:FzT K "_law_leaf" uX tx sk)
  (vi:FzT K "_law_shut" uY tw sj)
  (vp:FzT K "_law_row" yH ul tz)
  (uj:FzT K "_law_choose" qE rh pz)
  (uw:FzT K "_law_inner" sD so rj)
  (vq:FzT K "_law_set" st_l_set pb nz)
  (ux:FzT K "_law_drawn" sE ss rk)
  (vj:FzT K "_law_some" rE t5 sr)
  (ub:FzT K "_law_longest" mE p6 o4)
  (uc:FzT K "_law_pressed" pD p7 o6)
  (r8:FzT K "_law_narrowest" mY oj nj)
  (ud:FzT K "law" yj0 wj v8)
  (z0:PySem.W.nsIn K mainGlobals "len"=some none)
  (z1:PySem.W.nsIn K mainGlobals "enumerate"=some none)
  (z2:PySem.W.nsIn K mainGlobals "all"=some none)
  (z3:PySem.W.nsIn K mainGlobals "sum"=some none)
  (z4:PySem.W.nsIn K mainGlobals "sorted"=some none)
  (z5:PySem.W.nsIn K mainGlobals "range"=some none)
  (z6:PySem.W.nsIn K mainGlobals "min"=some none)
  (z7:PySem.W.nsIn K mainGlobals "max"=some none)
  (z8:PySem.W.nsIn K mainGlobals "tuple"=some none)
  (z9:PySem.W.nsIn K mainGlobals "isinstance"=some none)
  (z10:PySem.W.nsIn K mainGlobals "bool"=some none)
  (z11:PySem.W.nsIn K mainGlobals "int"=some none)
  (z12:PySem.W.nsIn K mainGlobals "ValueError"=some none)
  (g0:PySem.W.nsIn K mainGlobals "HOLDERS"=some (some (.ref lp)))
  (uy:K.lookup lp=some ⟨.type "tuple",wa,.seq #[.str "group" wb,.str "hang" wc,.str "either" wd] we,wf⟩)
  (g1:IzT K "LEAST_WIDTH" 1)
  (g2:IzT K "GREATEST_WIDTH" 40)
  (ue:CzT K "Place" nk)
  (tj:MzT K nk "__init__" "Place.__init__" st_Place_init j8 jl)
  (vk:PySem.W.findIn K (.ref nk) "broken"=some none)
  (vm:PySem.W.findIn K (.ref nk) "margin"=some none)
  (n6:CzT K "Front" lc)
  (tm:MzT K lc "__init__" "Front.__init__" st_Front_init c9 ci)
  (uf:MzT K lc "add" "Front.add" st_Front_add du da)
  (qw:MzT K lc "add_all" "Front.add_all" st_Front_add_all mx mi)
  (vt:PySem.W.findIn K (.ref lc) "steps"=some none)
  (v4:PySem.W.findIn K (.ref lc) "best"=some none)
  (jd:CzT K "WithinWidth" f7)
  (om:MzT K f7 "__init__" "WithinWidth.__init__" st_WithinWidth_init lr ko)
  (lx:MzT K f7 "state_behind" "WithinWidth.state_behind" st_WithinWidth_state_behind ib gu)
  (no:MzT K f7 "rag_of" "WithinWidth.rag_of" st_WithinWidth_rag_of kl j6)
  (vy:PySem.W.findIn K (.ref f7) "width"=some none)
  (i7:CzT K "Setter" dr)
  (sd:MzT K dr "__init__" "Setter.__init__" st_Setter_init oh nh)
  (ng:MzT K dr "choice_below" "Setter.choice_below" gM j7 jk)
  (on:MzT K dr "set_plain" "Setter.set_plain" jA lw kt)
  (n8:MzT K dr "set_holder" "Setter.set_holder" iN kr km)
  (pq:MzT K dr "set_row" "Setter.set_row" st_Setter_set_row gz gh)
  (n9:MzT K dr "whole_text" "Setter.whole_text" st_Setter_whole_text kq ki)
  (uz:PySem.W.findIn K (.ref dr) "choices"=some none)
  (v5:PySem.W.findIn K (.ref dr) "used"=some none)
  (vn:PySem.W.findIn K (.ref dr) "column"=some none)
  (vz:PySem.W.findIn K (.ref dr) "parts"=some none)
  (ug:PySem.W.nsIn K mainGlobals "LineError"=some (some (.ref jh)))
  (uh:PySem.W.excIn K jh [.type "ValueError",.type "Exception",.type "BaseException",.type "object"] "ValueError.__new__"=true)
  (vo:PySem.W.nsIn K mainGlobals "NoRoom"=some (some (.ref ac)))
  (su:PySem.W.excIn K ac [.type "ValueError",.type "Exception",.type "BaseException",.type "object"] "ValueError.__new__"=true)
  (il:PySem.W.mroIn K ac (.ref jh)=some true)
  (u0:PySem.W.findIn K (.ref ac) "__getattribute__"=some (some (.builtin "BaseException.__getattribute__")))
  (u4:PySem.W.findIn K (.ref ac) "__getattr__"=some none)
  (u5:PySem.W.mroIn K ac (.type "BaseException")=some true)
  (u7:PySem.W.findIn K (.ref ac) "__class__"=some (some (.builtin "object.__class__")))
  (u8:PySem.W.specialIn K (.builtin "object.__class__") "__get__"=some (some (.builtin "getset_descriptor.__get__")))
  (u9:PySem.W.takesIn K (.builtin "object.__class__")=some true)
  (va:PySem.W.mroIn K ac (.type "object")=some true)
  (uk:PySem.W.nsIn K mainGlobals "NoChoice"=some (some (.ref me)))
  (vc:PySem.W.nsIn K mainGlobals "NoPiece"=some (some (.ref mz)))
  (dq:PySem.W.kitAny K (.ref ac) [.ref me,.ref mz]=some false)
  (ju:PySem.W.kitOne K (.ref ac) (.ref ac)=some true)
  (g7:PySem.W.kitOne K (.ref ac) (.type "ValueError")=some true)
  :∃fd:FuncData,(∀(s:Shared) (v:Value),BindsTo s fd ⟨[v],[]⟩ [("_law_script",v)])/\∀base:Heap,K.In base->base.Ns mainGlobals mg->FnOk l.prog w K mg base CX0 48 fa fd ["_law_script"] (ya5 K):=by
 have e:=hfa.symm.trans (Y7 X G ud.a)
 cases e
 have a9:=eO tF X G qq
 have bg:=eO uI X G rl
 have ax:=eO rP X G pe
 have gw:=eO uJ X G ve
 have d8:=eO yR X G sx
 have c6:=eO tG X G t7
 have bw:=eO vT X G rz
 have av:=eO qJ X G o7
 have dc:=eO iS X G qt
 have cp:=eO fU X G ph
 have cc:=eO eT X G o8
 have bh:=eO hX X G rm
 have ag:=eO qK X G o9
 have cb:=eO yS X G sy
 have ky:=eO zv8 X G vf
 have jv:=eO rW X G ut
 have ak:=eO kJ X G qu
 have f8:=eO xB X G uu
 have ao:=eO jV X G r6
 have jb:=eO vD X G ui
 have ai:=eO nA X G pj
 have b9:=eO lS X G t9
 have li:=eO zP X G ua
 have bo:=eO kI X G uv
 have k7:=eO kD X G vg
 have k8:=eO zU X G vh
 have jt:=eO gQ X G vi
 have mf:=eO lT X G vp
 have g6:=eO lA X G uj
 have jy:=eO oN X G uw
 have fg:=eO xC X G vq
 have j4:=eO rX X G ux
 have k9:=eO qL X G vj
 have dw:=eO zV X G ub
 have gb:=eO tH X G uc
 have fj:=eO mS X G r8
 have ur:=eO vU X G ud
 obtain⟨U,hU⟩:∃U,U=(kap [("Place",nk),("Front",lc),("WithinWidth",f7),("Setter",dr)]):=⟨_,rfl⟩
 have oa:U "Place"=nk:=by rw [hU];simp [kap,fV]
 have a8:=zn1 oa ue
 have ie:=yw8 yT X G oa ue tj
 have bn:=xW oa vk
 have dt:=xW oa vm
 have lh:U "Front"=lc:=by rw [hU];simp [kap,fV]
 have aa:=zn1 lh n6
 have cj:=yw8 yU X G lh n6 tm
 have au:=xX zW lh n6 uf
 have de:=xX nV lh n6 qw
 have cm:=xW lh vt
 have ah:=xW lh v4
 have gs:U "WithinWidth"=f7:=by rw [hU];simp [kap,fV]
 have a7:=zn1 gs jd
 have et:=yw8 pG X G gs jd om
 have am:=xX fF gs jd lx
 have bi:=xX nZ gs jd no
 have gc:=xW gs vy
 have db:U "Setter"=dr:=by rw [hU];simp [kap,fV]
 have af:=zn1 db i7
 have kz:=yw8 vW X G db i7 sd
 have bc:=xX jN db i7 ng
 have b8:=xX lE db i7 on
 have bv:=xX eV db i7 n8
 have ay:=xX nB db i7 pq
 have bu:=xX oO db i7 n9
 have c7:=xW db uz
 have fm:=xW db v5
 have gv:=xW db vn
 have ia:=xW db vz
 have ae:=ZG X G z0
 have m6:=ZG X G z1
 have um:=ZG X G z2
 have uo:=ZG X G z3
 have qe:=ZG X G z4
 have bq:=ZG X G z5
 have re:=ZG X G z6
 have l7:=ZG X G z7
 have dh:=ZG X G z8
 have ej:=ZG X G z9
 have t4:=ZG X G z10
 have uq:=ZG X G z11
 have mo:=ZG X G z12
 have oo:=Y7 X G g0
 have oq:∀H,Rep K U H (.ref lp) (.tup [(.str "group"),(.str "hang"),(.str "either")]) []:=fun H=>xn5 (ys:=[("group",_),("hang",_),("either",_)]) uy (Zg rfl) H
 obtain⟨_,g1,_,rfl⟩:=g1
 have eu:=Y7 X G g1
 obtain⟨_,g2,_,rfl⟩:=g2
 have c5:=Y7 X G g2
 obtain⟨oc,od,kV,doc,pm,an,cdv,ct,osl,el,_,_⟩:=ud.F.ex
 refine⟨v8,fun s v=>by rw [el];exact .of_eq rfl,fun base KB _=> ?_⟩
 have na:OwnCls "LineError" jh bmV "ValueError.__new__" mg base:=⟨Y7 X G ug,yn8 KB uh⟩
 have bz:OwnCls "NoRoom" ac bmV "ValueError.__new__" mg base:=⟨Y7 X G vo,yn8 KB su⟩
 have lu:KExc K ac:=⟨u0,u4,u7,u8,u9,va,u5,yu5 su⟩
 have n0:=Y7 X G uk
 have oz:=Y7 X G vc
 have H1:=ye1 (P:=l.prog) (w:=w) (base:=base) (n:=0) li ae
 have H2:=yu9 (n:=1) bo li H1 ae l7
 have b7:=wq3 (U:=U) H2
 have pr:=wo1 (U:=U) H1
 have d6:=zl1 (P:=l.prog) (w:=w) (base:=base) (U:=U) (n:=0) bg oo oq
 have az:=zy3 (P:=l.prog) (w:=w) (base:=base) (U:=U) (n:=0) cj aa cm ah
 have ka:=zx9 (P:=l.prog) (w:=w) (base:=base) (U:=U) (n:=0) d8
 have ii:=ye2 (n:=1) c6 d8 ka.up a8 bn dt
 have eo:=zr2 (P:=l.prog) (w:=w) (base:=base) (U:=U) (n:=0) bw
 have cg:=zQ (n:=1) av bw eo.up ae
 have g9:=vV (P:=l.prog) (w:=w) (base:=base) (U:=U) (mg:=mg) (n:=0) bi a7 gc
 have dk:=qM (n:=2) am c6 ii.up av cg.up bw eo.up bi g9.up a7 gc
 have bf:=ye6 (P:=l.prog) (w:=w) (base:=base) (U:=U) (mg:=mg) (n:=0) au aa ah
 have jq:=zf6 (n:=2) cp cj az.up am dk.up au bf.up aa ah cm
 have d7:=zy2 (P:=l.prog) (w:=w) (base:=base) (U:=U) (n:=0) ie a8 bn dt
 have ku:=xe8 (n:=1) gw ie d7.up a8 bn dt
 have cr:=zf5 (P:=l.prog) (w:=w) (base:=base) (U:=U) (n:=0) ax a8 bn
 have kf:=zh6 (n:=1) dc cj az.up au bf.up aa ah cm
 have kg:=zh8 (n:=1) de au bf.up aa ah
 have se:∀n,FnOk l.prog w K mg base CX0 (3*n+4) _ _ ["front","row","place"] (SpP 3 K U (yL n)):=fun n=>by
  induction n with
  |zero=>exact FnOk.noneP (ps:=["front","row","place"])
  |succ n ih=>exact zl2 (n:=3*n+6) bh bg (d6.mono (by omega)) cc (zR (n:=3*n+4) cc cj (az.mono (by omega)) gw (ku.mono (by omega)) ax (cr.mono (by omega)) dc (kf.mono (by omega)) de (kg.mono (by omega)) bh (ih.mono (by omega)) aa cm m6) cp (jq.mono (by omega))
 have gk:=se 13
 have df:=zh5 (n:=1) a9 ie d7.up
 have aw:=zS (n:=43) ag bh gk.up a9 df.up
 have iz:=yZ (P:=l.prog) (w:=w) (base:=base) (U:=U) (n:=0) et a7 gc
 have gl:=zy0 (P:=l.prog) (w:=w) (base:=base) (U:=U) (n:=0) cb
 have p9:=xe9 (n:=1) ky cb gl.up um ae
 have ox:=yv0 (n:=2) jv ky p9.up cb gl.up uo ae
 have ba:=zh7 (n:=2) ak cj az.up et iz.up jv ox.up au bf.up
 have jw:=yv1 (n:=44) f8 ag aw.up ak ba.up aa ah qe
 have fk:=zr3 (n:=45) ao f8 jw.up bq eu c5
 have ny:=xf2 (P:=l.prog) (w:=w) (base:=base) (U:=U) (n:=0) jt dh ae
 have qi:=xf0 (P:=l.prog) (w:=w) (base:=base) (U:=U) (n:=0) k7 bq
 have qk:=xf1 (n:=1) k8 k7 qi.up
 have rq:=xo8 (n:=2) mf bo b7.up jt ny.up k8 qk.up bq dh ae
 have qo:=xf3 (n:=3) k9 mf rq.up bo b7.up dh bq
 have lb:=zl3 (n:=45) ao f8 jw.up bz bq eu c5
 have l4:=zr4 (n:=46) fj ao fk.up lb.up na bz il lu n0 oz dq ju g7 ej t4 uq mo
 have jj:=ye4 (P:=l.prog) (w:=w) (base:=base) (U:=U) (n:=0) dw l7 ae
 have ma:=yl0 (n:=2) g6 bo b7.up ae
 have v6:∀n,FnOk l.prog w K mg base CX0 (2*n+3) _ _ ["_law_script","_law_row_here","_law_flat","_law_hang","_law_state"] (SpE 5 K U (bE [false,false,false,false,true]) (qG yy4 n)):=fun n=>by
  induction n with
  |zero=>exact FnOk.noneE (ps:=["_law_script","_law_row_here","_law_flat","_law_hang","_law_state"])
  |succ n ih=>exact xo9 (n:=2*n+4) fg jy (yv2 (n:=2*n+3) jy fg ih g6 (ma.mono (by omega)) ae) ae
 have jz:=v6 13
 have o5:=yv3 (n:=29) j4 fg jz.up dh
 have jg:=zT (P:=l.prog) (w:=w) (base:=base) (U:=U) (n:=0) ai bz aa ah re
 have mn:=zy1 (n:=44) b9 ai jg.up ag aw.up ak ba.up bz
 have js:=zf7 (P:=l.prog) (w:=w) (base:=base) (U:=U) (n:=0) ai aa ah re
 have lz:=zr5 (P:=l.prog) (w:=w) (base:=base) (U:=U) (n:=0) kz af c7 fm gv ia
 have i6:=zA (n:=2) b8 c6 ii.up av cg.up af gv ia
 have gq:=vE (P:=l.prog) (w:=w) (base:=base) (U:=U) (n:=0) bc af fm c7 ae
 have qy:∀n,FnOk l.prog w K mg base CX0 (2*n+3) _ _ ["self","row","place"] (SpE 3 K U (bE [true,false,false]) (sG n)):=fun n=>by
  induction n with
  |zero=>exact FnOk.noneE (ps:=["self","row","place"])
  |succ n ih=>exact zf8 (n:=2*n+4) ay bg (d6.mono (by omega)) bv (xD (n:=2*n+3) bv gw (ku.mono (by omega)) ax (cr.mono (by omega)) bc (gq.mono (by omega)) ay ih ae) b8 (i6.mono (by omega))
 have eh:=qy 13
 have ik:=xE (P:=l.prog) (w:=w) (base:=base) (U:=U) (n:=0) bu af fm ia c7 ae
 have nu:=yk9 (n:=28) jb kz lz.up ay eh.up a9 df.up bu ik.up
 have m9:=ye3 (n:=44) b9 ai js.up ag aw.up ak ba.up jb nu.up
 have ll:=ye5 (n:=45) gb b9 m9.up mn.up bz
 have wg:=wg6 (n:=47) ur ao fk.up k9 qo.up fj l4.up dw jj.up j4 o5.up gb ll.up bq l7
 exact wq4 wg fun ns hl=>yw7 (by decide) (by decide) (by decide) (iP ns) (fun j s h0 h1 h2 h3=>xr4 hl j s h0 h1 h2 h3)
end My
open PySem PySem.W PyProof.Rows
set_option maxRecDepth 100000 in
set_option maxHeartbeats 0 in
theorem PySem.Challenge.cw_linepress_k31_narrowest_holds : PySem.Challenge.rw_linepress_k31_narrowest.Holds := by
 w_on;o_law;k_head;(case hw=>w_witness2)
 k_fill
 refine My.wq5 (lev:=48) (l:=PySem.Challenge.rw_linepress_k31_narrowest) rfl rfl ⟨rfl,by decide,by decide⟩ (fun w h Y=>PySem.W.kIn_of Y) ?F
 case F=>
  intro w mg fa h KX G hmg
  apply My.wi7 KX G hmg
  all_goals first
   |(refine' My.FzT.mk ?a (L2.xb2 ?b ?c ?d);(case a=>k_is);(case b=>k_is);(case c=>k_is);(case d=>k_is))
   |(refine' My.MzT.mk ?a ?e (L2.xb2 ?b ?c ?d);(case a=>k_is);(case e=>k_is);(case b=>k_is);(case c=>k_is);(case d=>k_is))
   |(refine' My.CzT.mk ?a ?_ ?_ ?_ ?_ ?_ ?_;(case a=>k_is);all_goals k_is)
   |(refine' My.wo0 ?a ?b;(case a=>k_is);(case b=>exact⟨_,rfl⟩))
   |k_is
   |rfl
   |kit_is
   |k_exc
   |kernel_rfl
#print axioms PySem.Challenge.cw_linepress_k31_narrowest_holds

